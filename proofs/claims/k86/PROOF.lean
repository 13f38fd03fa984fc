import PyProof.Rows.All
import Wide.All
import OpenK.AllK
import Wide.FinOn
import Lean
import PyProof.EqAt
import PyProof.EqKinds
import PyProof.TupleCall
import PyProof.CompMap
import PyProof.ZipIter
import PyProof.ListNew
import PyProof.NeKinds
import PyProof.AutoListH
import PyProof.EnumMake
import PyProof.SetRoads
import PyProof.SetNew
import KE.KDictSum
import PyProof.Rows.SortStr
import PyProof.Rows.SortWalk
import PyProof.SumAny
import PyProof.CallStr
import KE.KRevSl
import KE.KNest
import KE.KNestM
import KE.KRevIter
import PyProof.DictItems
import PyProof.CollectStr
import PyProof.CollectIter
import KE.KIntText
import PySem.Challenge.RW_tacticwright_k86_terms_and_statements
set_option Elab.async false
set_option linter.all false
set_option genInjectivity false
set_option genSizeOf false
set_option bootstrap.genMatcherCode false
set_option compiler.extract_closed false
set_option maxRecDepth 100000
set_option maxHeartbeats 4000000
noncomputable section
abbrev Y10:=@PySem.wpAny_bind
abbrev Z10:=@PySem.wpAny_pure
abbrev V10:=@PySem.Heap.get?_push_of_some
abbrev W10:=@List.append_assoc
abbrev U10:=@List.getElem?_eq_some_iff
abbrev Y11:=@Bool.and_eq_true
abbrev Z11:=@PySem.Heap.get?_push_size
abbrev V11:=@List.size_toArray
abbrev W11:=@Nat.le_refl
abbrev U11:=@List.mem_cons_of_mem
abbrev Y12:=@PySem.sizeLine_eq
abbrev Z12:=@List.map_cons
abbrev V12:=@List.length_append
abbrev W12:=@PySem.Heap.lt_size
abbrev U12:=@List.length_map
abbrev Y13:=@List.getElem?_concat_length
abbrev Z13:=@List.mem_cons
abbrev V13:=@Option.map_eq_some_iff
abbrev W13:=@List.nil_append
abbrev U13:=@List.getElem?_eq_getElem
abbrev Y14:=@Nat.le_trans
abbrev Z14:=@List.length_cons
abbrev V14:=@List.mem_append_right
abbrev W14:=@List.getElem?_map
abbrev U14:=@Nat.ne_of_lt
abbrev Y15:=@List.mem_singleton
abbrev Z15:=@Nat.lt_of_lt_of_le
abbrev V15:=@PySem.wpAny_callSpecial?_slot
abbrev W15:=@Nat.mul_le_mul_right
abbrev U15:=@List.not_mem_nil
abbrev Y16:=@PySem.wpAny_newObj_type
abbrev Z16:=@Int.toNat_natCast
abbrev V16:=@PySem.wpAny_call_entry
abbrev W16:=@Bool.false_ne_true
abbrev U16:=@PySem.wpAny_holding
abbrev Y17:=@Option.some.inj
abbrev Z17:=@List.getElem?_append_left
abbrev V17:=@List.mem_map
abbrev W17:=@List.Perm.append_left
abbrev U17:=@decide_eq_true_eq
abbrev Y18:=@List.getElem?_append_right
abbrev Z18:=@PyProof.Rows.callWith_type1
abbrev V18:=@Array.perm_iff_toList_perm
abbrev W18:=@List.getD_eq_getElem?_getD
abbrev U18:=@List.cons_append
abbrev Y19:=@List.map_append
abbrev Z19:=@List.contains_iff_mem
abbrev V19:=@List.all_eq_true
abbrev W19:=@decide_eq_false
abbrev U19:=@List.append_nil
abbrev Y20:=@PyProof.Rows.slot_tuple_getitem
abbrev Z20:=@PySem.W.Fast.te14364793385576792824
abbrev V20:=@PySem.Heap.size_push
abbrev W20:=@Nat.lt_irrefl
abbrev U20:=@PySem.mem_of_lookup
abbrev Y21:=@PySem.wpAny_field
abbrev Z21:=@List.mem_append
abbrev V21:=@List.drop_eq_getElem_cons
abbrev W21:=@List.map_nil
abbrev U21:=@Prod.mk.injEq
abbrev Y22:=@PyProof.Rows.wpS_forRange
abbrev Z22:=@Array.toList_append
abbrev V22:=@List.length_take
abbrev W22:=@List.length_drop
abbrev U22:=@Bool.not_eq_true'
abbrev Y23:=@PySem.wpAny_Call_Name_kw
abbrev Z23:=@Bool.false_eq_true
abbrev V23:=@PySem.Heap.get?_update_other
abbrev W23:=@List.take_of_length_le
abbrev U23:=@PySem.W.kia_one
abbrev Y24:=@PySem.wpAny_seqItems
abbrev Z24:=@List.all_cons
abbrev V24:=@Nat.zero_le
abbrev W24:=@Array.getElem?_toList
abbrev U24:=@List.perm_append_comm
abbrev Y25:=@List.length_nil
abbrev Z25:=@List.length_eq_zero_iff
abbrev V25:=@Option.bind_eq_some_iff
abbrev W25:=@Array.getElem?_eq_some_iff
abbrev U25:=@PySem.Heap.SameBut.update
abbrev Y26:=@Nat.lt_succ_of_lt
abbrev Z26:=@PySem.wpAny_setEntries_of
abbrev V26:=@PySem.F.plain_extend_loop
abbrev W26:=@List.getElem?_set
abbrev U26:=@List.flatMap_cons
abbrev Y27:=@PySem.Heap.get?_update_self
abbrev Z27:=@PySem.wpAny_mono
abbrev V27:=@PySem.wpAny_rule
abbrev W27:=@PySem.wpAny_setField_rec
abbrev U27:=@List.mem_of_getElem?
abbrev Y28:=@Nat.ne_of_gt
abbrev Z28:=@Array.toList_push
abbrev V28:=@beq_eq_false_iff_ne
abbrev W28:=@Array.length_toList
abbrev U28:=@List.find?_cons
abbrev Y29:=@PySem.Calls.callWith_builtin
abbrev Z29:=@List.Perm.append_right
abbrev V29:=@PySem.F.slot_tuple_iterator_next
abbrev W29:=@PySem.wpAny_isInstance
abbrev U29:=@PySem.Obj.data_mapFields
abbrev Y30:=@PySem.wpAny_attempt
abbrev Z30:=@List.findIdx?_eq_some_iff_getElem
abbrev V30:=@List.getElem?_reverse
abbrev W30:=@PySem.Around.under_plainId
abbrev U30:=@PySem.wpAny_truthy_bool
abbrev Y31:=@PySem.wpAny_passesOwn
abbrev Z31:=@List.nodup_cons
abbrev V31:=@PySem.wpAny_updateSeq
abbrev W31:=@PySem.wpAny_setState_of
abbrev U31:=@List.range_succ
abbrev Y32:=@List.filterMap_cons
abbrev Z32:=@List.getElem?_replicate
abbrev V32:=@PySem.wpAny_getItem_str_slice
abbrev W32:=@PySem.wpAny_askSetting
abbrev U32:=@List.lookup_cons
abbrev Y33:=@decide_eq_true
abbrev Z33:=@PySem.Calls.spliced_cons
abbrev V33:=@Nat.le_of_lt
abbrev W33:=@PySem.wpAny_typeOf
abbrev U33:=@List.length_set
abbrev Y34:=@PySem.wpAny_specialOf
abbrev Z34:=@PySem.builtinLookup_eq_fast
abbrev V34:=@PySem.codeAny_builtin
abbrev W34:=@PySem.F.called_set
abbrev U34:=@PyProof.Rows.get?_update_seq
abbrev Y35:=@List.take_append_drop
abbrev Z35:=@List.set_append_right
abbrev V35:=@List.cons.injEq
abbrev W35:=@Nat.le_of_ble_eq_true
abbrev U35:=@PySem.plainId_quiet
abbrev Y36:=@PyProof.Rows.wpS_modify
abbrev Z36:=@Option.some.injEq
abbrev V36:=@List.mem_append_left
abbrev W36:=@PySem.wpAny_pyIter_revIter
abbrev U36:=@List.range_eq_range'
abbrev Y37:=@List.drop_zero
abbrev Z37:=@PySem.wpAny_fieldsOf
abbrev V37:=@List.drop_drop
abbrev W37:=@PySem.wpAny_of_eq
abbrev U37:=@PySem.F.args_tuple_add_2
abbrev Y38:=@PySem.AutoSeq1.sub_tuple_tuple
abbrev Z38:=@Nat.zero_add
abbrev V38:=@PySem.F.entry_tuple_add
abbrev W38:=@List.any_cons
abbrev U38:=@PySem.AutoSeq1.sub_tuple_list
abbrev Y39:=@PySem.AutoSeq1.sub_list_tuple
abbrev Z39:=@PySem.F.slot_zip_next
abbrev V39:=@List.forIn_cons
abbrev W39:=@List.contains_cons
abbrev U39:=@PySem.F.plainAttrs_list
abbrev Y40:=@Int.emod_lt_of_pos
abbrev Z40:=@decide_eq_false_iff_not
abbrev V40:=@PySem.F.slot_tuple_add
abbrev W40:=@beq_iff_eq
abbrev U40:=@PySem.Calls.spliced_nil
abbrev Y41:=@PySem.WalksT.enumerateD
abbrev Z41:=@PySem.wpAny_pyIter_enum
abbrev V41:=@List.nodup_append
abbrev W41:=@List.reverse_perm
abbrev U41:=@PySem.codeAny_mono
abbrev Y42:=@List.length_replicate
abbrev Z42:=@PySem.F.slot_dict_get
abbrev V42:=@List.map_map
abbrev W42:=@Nat.lt_succ_self
abbrev U42:=@List.mem_flatMap
abbrev Y43:=@Array.toList_reverse
abbrev Z43:=@List.mem_of_mem_take
abbrev V43:=@List.getElem?_of_mem
abbrev W43:=@Bool.or_eq_false_iff
abbrev U43:=@PySem.wpAny_standAt
abbrev Y44:=@PySem.wpAny_handled
abbrev Z44:=@Nat.not_lt_zero
abbrev V44:=@Int.emod_nonneg
abbrev W44:=@Nat.le_of_eq
abbrev Fg9:=PySem.W.Frag
namespace L2
open PySem PySem.Spec PyProof.Rows
abbrev Key:=Sum Int Str
def keyH(w:World):Key→Int
 |.inl k=>hashInt k
 |.inr x=>hashStr w x
def defArgs(s:Stmt):Arguments:=match s with
 |.FunctionDef _ a _ _ _ _ _ _ _ _=>a
 |_=>{ posonlyargs:=[],args:=[],vararg:=none,kwonlyargs:=[],kw_defaults:=[],kwarg:=none,defaults:=[] }
def defBody(s:Stmt):List Stmt:=match s with
 |.FunctionDef _ _ b _ _ _ _ _ _ _=>b
 |_=>[]
def defScope(s:Stmt):Scope:=match s with
 |.FunctionDef _ _ _ _ _ _ sc _ _ _=>sc
 |_=>{ kind:=.function,names:=[],isGenerator:=false,isCoroutine:=false }
inductive D where
 |no
 |b (x:Bool)
 |i (n:Int)
 |s (x:Str)
 |t (xs:List D)
 |k (xs:List D)
 |f (xs:List D)
 |r (l:Nat)
 |ty (n:String)
 |fn (x:Str)
 |dc (kvs:List (Key×D))
structure KW where
 K:Fg9
 P:Program
 w:World
instance:Coe KW Fg9:=⟨KW.K⟩
end L2
namespace L2
open PySem PySem.W PyProof.Rows
abbrev FnX:=Option (Str×Str×Arguments×FuncBody×Scope×Addr×List (Str×Addr)×Value×Addr×Bool×Bool)
def fnAt(K:Frag)(x:Str):FnX:=match nsIn K mainGlobals x with
 |some (some (.ref f))=>(match K.lookup f with
  |some ⟨_,_,.func fd,_⟩=>some (fd.name,fd.qualname,fd.params,fd.body,fd.scope,fd.globals,fd.closure,fd.defaults,fd.builtins,codeIn K fd.code fd.qualname,keepIn K (.ref f))
  |_=>none)
 |_=>none
def fnWant(x:Str)(st:Stmt):FnX:=some (x,x,defArgs st,.stmts (defBody st),defScope st,mainGlobals,[],.none,builtinsNs,true,true)
noncomputable def cvs(f:Value→Option D):List Value→Option (List D)
 |[]=>some []
 |v::r=>match f v,cvs f r with
  |some d,some ds=>some (d::ds)
  |_,_=>none
noncomputable def cv(K:Frag):Nat→Value→Option D
 |_,.none=>some .no
 |_,.bool b=>some (.b b)
 |_,.int i _=>some (.i i)
 |_,.str s _=>some (.s s)
 |n+1,.ref a=>(match K.lookup a with
  |some ⟨.type "tuple",none,.seq us _,_⟩=>(match Nat.ble us.size 100,cvs (cv K n) us.toList with
   |true,some ds=>some (.k ds)
   |_,_=>none)
  |some ⟨_,_,.func fd,_⟩=>(match nsIn K mainGlobals fd.name with
   |some (some (.ref f))=>if f=a then some (.fn fd.name) else none
   |_=>none)
  |_=>none)
 |_,_=>none
def cdE(K:Frag):List DictEntry→Option (List (Key×D))
 |[]=>some []
 |⟨_,.str s _,v⟩::r=>(match cv K 4 v,cdE K r with
  |some d,some l=>some ((.inr s,d)::l)
  |_,_=>none)
 |_=>none
def nodupK:List Key→Bool
 |[]=>true
 |k::r=>(r.all fun y=>!decide (y=k))&&nodupK r
noncomputable def cd(K:Frag)(v:Value):Option D:=match v with
 |.ref a=>(match K.lookup a with
  |some ⟨.type "dict",none,.dict es _,⟨[]⟩⟩=>(match Nat.ble es.size 100&&!(a==sysModules),cdE K es.toList with
   |true,some l=>(match nodupK (l.map (·.1)) with
    |true=>some (.dc l)
    |false=>none)
   |_,_=>none)
  |_=>cv K 4 (.ref a))
 |v=>cv K 4 v
def chs(K:Frag)(v:Value):List Int:=match v with
 |.ref a=>(match K.lookup a with
  |some ⟨_,_,.dict es _,_⟩=>es.toList.map (·.hash)
  |_=>[])
 |_=>[]
def dkeys:D→List Key
 |.dc l=>l.map (·.1)
 |_=>[]
def cAt(K:Frag)(x:Str):Option (Option D×List Int):=match nsIn K mainGlobals x with
 |some (some v)=>some (cd K v,chs K v)
 |_=>none
def cWant(w:World)(d:D):Option (Option D×List Int):=some (some d,(dkeys d).map (keyH w))
def clsAt(K:Frag)(C:Addr)(fs:List Str):Bool×Bool×Bool×Option (Option Value)×List (Option (Option Value)):=(plainGet K C Str.empty,hasDictIn K C,plainOver K C,findIn K (.ref C) "__setattr__",fs.map fun f=>findIn K (.ref C) f)
def clsWant(fs:List Str):Bool×Bool×Bool×Option (Option Value)×List (Option (Option Value)):=(true,true,true,some (some (.builtin "object.__setattr__")),fs.map fun _=>some none)
def mthAt(K:Frag)(C:Addr)(x:Str):FnX:=match findIn K (.ref C) x with
 |some (some (.ref f))=>(match K.lookup f with
  |some ⟨_,_,.func fd,_⟩=>some (fd.name,fd.qualname,fd.params,fd.body,fd.scope,fd.globals,fd.closure,fd.defaults,fd.builtins,codeIn K fd.code fd.qualname,keepIn K (.ref f)&&isFn K (.ref f))
  |_=>none)
 |_=>none
def mthWant(x qual:Str)(st:Stmt):FnX:=some (x,qual,defArgs st,.stmts (defBody st),defScope st,mainGlobals,[],.none,builtinsNs,true,true)
def mkAt(K:Frag)(C:Addr)(y:Str):Bool×Bool×Option (Option Value):=(makesIn K C,keepIn K (.ref C),nsIn K mainGlobals y)
def recOf(s:Stmt):DefRec:=match s with
 |.FunctionDef n a b _ _ _ sc _ _ pos=>⟨n,a,b,sc,pos⟩
 |_=>⟨"",defArgs s,defBody s,defScope s,⟨0,0,0,0⟩⟩
def topT(tb:String→Option Builtin)(p:Program)(w:World)(n₀:Nat)(ann:Option Value):Nat→SharedT→Thread→Option SharedT
 |0,_,_=>none
 |n+1,s,t=>match through t with
  |true=>some s
  |false=>match stepOk n₀ ann t with
   |false=>none
   |true=>match PySem.W.stepT (denote tb) p w s t with
    |some (s',t')=>topT tb p w n₀ ann n s' t'
    |none=>none
def bootT(P:Params):BT:=((boot_heap P).objs.toList.foldl (fun(x:BT×Nat) o=>(x.1.ins x.2 o,x.2+1)) (.nil,0)).1
def bootS(P:Params)(os:OsState):SharedT:=⟨bootT P,11,{},#[],boot_drawn,boot_toks,os⟩
noncomputable def listF(t:BT):Nat→List Obj→List Obj
 |0,acc=>acc
 |n+1,acc=>listF t n ((t.get n).getD default::acc)
def absF(s:SharedT):Shared:=⟨⟨⟨listF s.tree s.n []⟩,s.life⟩,s.gens,s.drawn,s.toks,s.os⟩
def fragT(t:BT):Nat→Frag→Frag
 |0,acc=>acc
 |n+1,acc=>match alive ((t.get n).getD default) with
  |some o=>fragT t n ((n,o)::acc)
  |none=>fragT t n acc
def lk0(q:Program)(s:SharedT):=seen ((recsOf q).map (·.name)) (ownsOf q) [] { absF s with gens:=#[] }
def lk2(q:Program)(loose:List Str)(s:SharedT):Bool:=(absF s).heap.keysOk (looseW q loose) ((recsOf q).map (·.name)) ((litsOf q).map (·.1)) ((clssOf q (looseW q loose)).map (·.name))
def lk3(p:Program)(s:SharedT):Bool:=(absF s).heap.accountedOkI (importedModules p.main.body)
def lk4(q:Program)(Xt:Shared→Bool)(s:SharedT):Bool:=(absF s).heap.isNs mainGlobals&&((absF s).heap.isNs builtinsNs&&(tablesOk q (absF s).heap&&(Xt (absF s)&&(absF s).gens.size==0)))
def lk9(p:Program)(P:Params)(s:SharedT):Bool:=staticsOk (importedModules p.main.body) (boot_heap P) (absF s).heap&&namesBound p (absF s).heap&&gensDone (absF s)&&laidKept (boot_heap P) (absF s).heap
structure DSp where
 x:Str
 i:Nat
 k:Nat
 N:List Str
 a:Nat
end L2
namespace K86
open PySem L2 PyProof.Rows
def top(i:Nat):Stmt:=PySem.Challenge.pw_tacticwright_k86_terms_and_statements.main.body.getD i (.Pass ⟨0,0,0,0⟩)
def inCls(s:Stmt)(j:Nat):Stmt:=match s with
 |.ClassDef _ _ _ b _ _ _ _ _ _ _=>b.getD j (.Pass ⟨0,0,0,0⟩)
 |_=>.Pass ⟨0,0,0,0⟩
def gK:D:=.k [.s "false",.s "all",.s "some",.s "and",.s "or"]
def jL:D:=.k [.s "form",.s "call",.s "atom"]
def jM:D:=.k [.s "same",.s "and",.s "or",.s "if"]
def dE:D:=.k [.s "all",.s "some"]
def dA:D:=.k [.k [],.k []]
def iZ:D:=.dc [(.inr "and",.s " and "),(.inr "or",.s " or "),(.inr "if",.s " -> ")]
noncomputable def mI:D:=.dc [(.inr "term",.fn "term_pieces"),(.inr "statement",.fn "statement_pieces"),(.inr "body",.fn "body_pieces"),(.inr "reason",.fn "reason_pieces"),(.inr "tactic",.fn "tactic_pieces"),(.inr "h",.fn "name_pieces"),(.inr "x",.fn "name_pieces"),(.inr "K",.fn "name_pieces"),(.inr "name",.fn "name_pieces"),(.inr "way",.fn "name_pieces"),(.inr "number",.fn "number_pieces"),(.inr "names",.fn "names_pieces"),(.inr "terms",.fn "terms_pieces"),(.inr "tactics",.fn "tactics_pieces"),(.inr "induct rows",.fn "reason_rows_pieces"),(.inr "forms rows",.fn "reason_rows_pieces"),(.inr "induct names",.fn "rows_pieces"),(.inr "cases names",.fn "rows_pieces")]
noncomputable def pE:D:=.dc [(.inr "text",.fn "read_text"),(.inr "make",.fn "read_make"),(.inr "list",.fn "read_list"),(.inr "more",.fn "read_more"),(.inr "few",.fn "read_few"),(.inr "leave",.fn "read_leave"),(.inr "joint",.fn "read_joint"),(.inr "same or atom",.fn "read_same_or_atom"),(.inr "term",.fn "read_term_row"),(.inr "statement",.fn "read_statement_row"),(.inr "body",.fn "read_body"),(.inr "reason",.fn "read_reason_row"),(.inr "tactic",.fn "read_tactic_row"),(.inr "h",.fn "read_name"),(.inr "x",.fn "read_name"),(.inr "K",.fn "read_name"),(.inr "name",.fn "read_name"),(.inr "way",.fn "read_way"),(.inr "number",.fn "read_number"),(.inr "spaced",.fn "read_spaced"),(.inr "names",.fn "read_names"),(.inr "terms",.fn "read_terms"),(.inr "tactics",.fn "read_tactics"),(.inr "induct rows",.fn "read_rows"),(.inr "forms rows",.fn "read_rows"),(.inr "induct names",.fn "read_rows"),(.inr "cases names",.fn "read_rows"),(.inr "induct rows row",.fn "read_induct_row"),(.inr "forms rows row",.fn "read_forms_row"),(.inr "induct names row",.fn "read_induct_names"),(.inr "cases names row",.fn "read_cases_names")]
noncomputable def cns:List (Str×D):=[("KEPT_WORDS",gK),("SMALL_LETTERS",.s "abcdefghijklmnopqrstuvwxyz"),("GREAT_LETTERS",.s "ABCDEFGHIJKLMNOPQRSTUVWXYZ"),("LONGEST_NAME",.i (8)),("MOST_ARGS",.i (4)),("ARGS_WORDS",jL),("PAIR_WORDS",jM),("BIND_WORDS",dE),("LETTERS",.s "abcdefghijklmnopqrstuvwxyzABCDEFGHIJKLMNOPQRSTUVWXYZ"),("FIRST_LETTERS",.s "xyz"),("NOTHING_AROUND",dA),("JOINTS",iZ),("PIECES",mI),("READS",pE)]
noncomputable def blt:List Str:=["all","bool","enumerate","int","isinstance","len","list","range","reversed","set","sorted","str","tuple","zip"]
def cC:Addr:=185
def fds:List Str:=["text","at","names","made","pending"]
def S0:DSp:=⟨"_law_state",91,0,["_law_script","_law_seed","_law_k","_law_cell","_law_great"],1⟩
def S1:DSp:=⟨"_law_next",92,0,["_law_state_here","_law_many","_law_found","_law_mixed"],2⟩
def S2:DSp:=⟨"_law_named",95,0,["_law_name_here","_law_scope","_law_k"],2⟩
def S3:DSp:=⟨"_law_name",93,1,["_law_state_here","_law_small","_law_name_here"],1⟩
def S4:DSp:=⟨"_law_form_name",94,2,["_law_state_here","_law_name_here"],1⟩
def S5:DSp:=⟨"_law_term",97,3,["_law_state_here","_law_deep","_law_scope","_law_way","_law_name_here","_law_args_here","_law_text","_law_word"],3⟩
def S6:DSp:=⟨"_law_args",96,3,["_law_state_here","_law_deep","_law_scope","_law_many","_law_pairs"],4⟩
def S16:DSp:=⟨"_law_term_fair",101,0,["_law_t","_law_names"],2⟩
def S17:DSp:=⟨"_law_same",103,0,["_law_found","_law_due"],2⟩
def S18:DSp:=⟨"parts_of",17,0,["thing","word"],1⟩
def S19:DSp:=⟨"free_in",18,1,["thing","names","pending","part"],1⟩
def S20:DSp:=⟨"part_piece",40,2,["sort","part","at_hand"],2⟩
def S21:DSp:=⟨"parted",32,0,["rows","made","row"],1⟩
def S22:DSp:=⟨"with_args",33,1,["thing","around"],2⟩
def S23:DSp:=⟨"term_pieces",34,2,["t","around"],2⟩
def S24:DSp:=⟨"told_name",30,0,["n","letters","rest"],1⟩
def S25:DSp:=⟨"next_name",31,1,["around","names","frees","n"],1⟩
def S26:DSp:=⟨"bound_pieces",35,2,["A","around","x"],2⟩
def S27:DSp:=⟨"statement_pieces",36,3,["A","around","x","within"],2⟩
def S41:DSp:=⟨"written",52,5,["sort","thing","pending","texts","piece","tell"],2⟩
def S42:DSp:=⟨"show_term",53,6,["t"],1⟩
def S43:DSp:=⟨"__init__",0,0,["self","text","names"],3⟩
def S44:DSp:=⟨"later",8,0,["self","rows"],2⟩
def S45:DSp:=⟨"sees",1,0,["self","piece"],2⟩
def S46:DSp:=⟨"skip",2,1,["self","piece"],2⟩
def S47:DSp:=⟨"read_text",57,2,["reader","row"],2⟩
def S48:DSp:=⟨"make",9,0,["self","head","many","at"],3⟩
def S49:DSp:=⟨"read_make",58,1,["reader","row","word","head","many"],2⟩
def S50:DSp:=⟨"read_list",59,2,["reader","row","word","sort","close"],2⟩
def S51:DSp:=⟨"read_more",60,2,["reader","row","word","sort","close","many"],2⟩
def S52:DSp:=⟨"read_few",61,0,["reader","row"],2⟩
def S53:DSp:=⟨"read_leave",64,0,["reader","row"],2⟩
def S54:DSp:=⟨"read_joint",68,2,["reader","row","word","piece"],2⟩
def S55:DSp:=⟨"read_same_or_atom",69,2,["reader","row","t"],2⟩
def S56:DSp:=⟨"run_of",3,0,["self","signs","start"],2⟩
def S57:DSp:=⟨"letters",4,1,["self"],1⟩
def S58:DSp:=⟨"is_short_text",14,0,["thing"],1⟩
def S59:DSp:=⟨"are_small",13,0,["text"],1⟩
def S60:DSp:=⟨"is_form_name",16,1,["thing"],1⟩
def S61:DSp:=⟨"is_name",15,1,["thing"],1⟩
def S62:DSp:=⟨"leaf_of",62,0,["names","x","k","name"],2⟩
def S63:DSp:=⟨"read_term_row",63,2,["reader","row","word","head","first"],2⟩
def S64:DSp:=⟨"next_name",5,2,["self","name"],1⟩
def S65:DSp:=⟨"read_bound_row",65,2,["reader","x","head"],3⟩
def S66:DSp:=⟨"read_statement_row",67,3,["reader","row","start","word","x"],2⟩
def S85:DSp:=⟨"end",10,0,["self"],1⟩
def S86:DSp:=⟨"read_by",87,5,["sort","text","names","reader","row","read_next"],3⟩
def S87:DSp:=⟨"read_term",88,6,["text"],1⟩
def S88:DSp:=⟨"_law_statement",98,13,["_law_state_here","_law_deep","_law_scope","_law_way","_law_one","_law_left","_law_other","_law_right","_law_name_here","_law_args_here","_law_text","_law_k","_law_word","_law_kind","_law_body"],3⟩
def S89:DSp:=⟨"_law_fresh",100,0,["_law_taken","_law_small","_law_endings","_law_one","_law_found","_law_ending"],1⟩
def S90:DSp:=⟨"_law_fair",102,6,["_law_ka","_law_names","_law_frees_here","_law_sign","_law_name_here"],3⟩
def S91:DSp:=⟨"_law_frees",99,0,["_law_thing","_law_found","_law_one"],1⟩
def S92:DSp:=⟨"show_statement",54,6,["A"],1⟩
def S93:DSp:=⟨"read_statement",89,6,["text"],1⟩
def S94:DSp:=⟨"law",104,20,["_law_script","_law_state_here","_law_k","_law_t","_law_text","_law_due","_law_ka"],1⟩
end K86
namespace K86
open PySem PySem.W L2 PyProof.Rows
abbrev rw_:=PySem.Challenge.rw_tacticwright_k86_terms_and_statements
def vw:Program:=PySem.W.view rw_.prog [0,2,3,5,6,7,8,9,10,11,12,13,14,15,16,17,18,20,21,22,23,24,25,27,28,29,30,31,32,33,34,35,36,37,38,39,40,41,42,43,44,45,46,47,48,49,50,51,52,53,54,56,57,58,59,60,61,62,63,64,65,66,67,68,69,70,71,72,73,74,75,76,77,78,79,80,81,82,83,84,85,86,87,88,89,91,92,93,94,95,96,97,98,99,100,101,102,103,104]
def loose:List Str:=["REASON_PARTS","TACTIC_PARTS","JOINTS","PIECES","TacticError","READS"]
noncomputable def fns:List (Str×Nat):=[S0,S1,S2,S3,S4,S5,S6,S16,S17,S18,S19,S20,S21,S22,S23,S24,S25,S26,S27,S41,S42,S47,S49,S50,S51,S52,S53,S54,S55,S58,S59,S60,S61,S62,S63,S65,S66,S86,S87,S88,S89,S90,S91,S92,S93,S94].map fun s=>(s.x,s.i)
noncomputable def mths:List (Str×Str×Nat):=[S43,S44,S45,S46,S48,S56,S57,S64,S85].map fun s=>(s.x,("Reader.":Str)++s.x,s.i)
abbrev YT:=List FnX×List (Option (Option D×List Int))×List (Option (Option Value))×(Bool×Bool×Bool×Option (Option Value)×List (Option (Option Value)))×List FnX×(Bool×Bool×Option (Option Value))
def yf(K:Frag):YT:=(fns.map fun p=>fnAt K p.1,cns.map fun p=>cAt K p.1,blt.map fun x=>nsIn K mainGlobals x,clsAt K cC fds,mths.map fun p=>mthAt K cC p.1,mkAt K cC "Reader")
def yv(w:World):YT:=(fns.map fun p=>fnWant p.1 (top p.2),cns.map fun p=>cWant w p.2,blt.map fun _=>some none,clsWant fds,mths.map fun p=>mthWant p.1 p.2.1 (inCls (top 22) p.2.2),(true,true,some (some (.ref cC))))
def xt(s:Shared):Bool:=xlAt vw [] s&&recOk rw_.row.toRowW.records s
end K86
lay_quick L2.topT
namespace K86
open PySem PySem.W L2 PyProof.Rows
abbrev wz(w:World)(b:Bool):World:=w.withFollow "special-get-raises" b
abbrev rz(w:World)(os:OsState)(b:Bool):=Fast.tw12425933026755589441 Fast.tw14364793385576792824 rw_.row.prog (wz w b) 11 (some (.ref 6)) 12000 (bootS (wz w b).params os) (topStub rw_.row.prog)
theorem Hh(w:World)(os:OsState):(rz w os false).map (fun s=>lk0 vw s)=some (expectedOf vw):=by kernel_rfl
theorem Oh(w:World)(os:OsState):(rz w os true).map (fun s=>lk0 vw s)=some (expectedOf vw):=by kernel_rfl
theorem Hi(w:World)(os:OsState):(rz w os false).map (fun s=>((absF s).heap.bltView,lk3 rw_.row.prog s,lk4 vw xt s,pinSeenD vw (drecsOf vw) (absF s),plainSeenD vw loose (absF s),clsSeenW vw loose (absF s),lk9 rw_.row.prog (wz w false).params s))=some ((bltViewBooted,true,true,pinGoodD (drecsOf vw),plainGoodD vw loose,clsGoodW vw loose,true)):=by kernel_rfl
theorem Oi(w:World)(os:OsState):(rz w os true).map (fun s=>((absF s).heap.bltView,lk3 rw_.row.prog s,lk4 vw xt s,pinSeenD vw (drecsOf vw) (absF s),plainSeenD vw loose (absF s),clsSeenW vw loose (absF s),lk9 rw_.row.prog (wz w true).params s))=some ((bltViewBooted,true,true,pinGoodD (drecsOf vw),plainGoodD vw loose,clsGoodW vw loose,true)):=by kernel_rfl
theorem Hj(w:World)(os:OsState):(rz w os false).map (fun s=>lk2 vw loose s)=some (true):=by kernel_rfl
theorem Oj(w:World)(os:OsState):(rz w os true).map (fun s=>lk2 vw loose s)=some (true):=by kernel_rfl
theorem wU(w:World)(os:OsState):(rz w os false).map (fun s=>tabsOk vw (absF s))=some (true):=by kernel_rfl
theorem Bp(w:World)(os:OsState):(rz w os true).map (fun s=>tabsOk vw (absF s))=some (true):=by kernel_rfl
theorem Hk(w:World)(os:OsState):(rz w os false).map (fun s=>plainSeenE vw (looseW vw loose) (absF s))=some (plainGoodE vw (looseW vw loose)):=by kernel_rfl
theorem Ol(w:World)(os:OsState):(rz w os true).map (fun s=>plainSeenE vw (looseW vw loose) (absF s))=some (plainGoodE vw (looseW vw loose)):=by kernel_rfl
theorem Hl(w:World)(os:OsState):(rz w os false).map (fun s=>wideSeen vw (absF s))=some (wideGood vw):=by kernel_rfl
theorem Om(w:World)(os:OsState):(rz w os true).map (fun s=>wideSeen vw (absF s))=some (wideGood vw):=by kernel_rfl
theorem Hm(w:World)(os:OsState):(rz w os false).map (fun s=>yf (fragT s.tree s.n []))=some (yv (wz w false)):=by kernel_rfl
theorem Oo(w:World)(os:OsState):(rz w os true).map (fun s=>yf (fragT s.tree s.n []))=some (yv (wz w true)):=by kernel_rfl
theorem said:rw_.wellSaid=true:=by kernel_rfl
theorem okk:(chainsOk vw&&opensWell rw_.row.prog&&(frees rw_.row.toRowW&&rw_.row.within.isEmpty))=true:=by kernel_rfl
theorem hdef:defOf vw rw_.row.name=some (recOf (top 104),[]):=by kernel_rfl
theorem hp:rw_.row.prog.theDef rw_.row.name=some ((recOf (top 104)).params,(recOf (top 104)).body,(recOf (top 104)).scope):=by kernel_rfl
theorem hb6:rw_.row.prog.tablesWhole=true:=by kernel_rfl
theorem hb:rw_.row.prog.bare:=⟨by kernel_rfl,by kernel_rfl,by kernel_rfl,by kernel_rfl,by kernel_rfl,hb6⟩
theorem hw:rw_.row.toRowW.promised:=by w_witness2
end K86
namespace L2
variable {M:Model}{kw:List (Str×Value)}{mg:Str→Option Value}{base:Heap}{qual:Str}{scope:Scope}
open PySem PySem.Spec PyProof.Rows
def sQ:Key→Value→Bool
 |.inl k,v=>Value.isInt k v
 |.inr x,v=>Value.isStrOf x v
theorem cG:∀{k:Key} {v:Value},sQ k v=true→(∃i t,k=Sum.inl i∧v=Value.int i t)∨(∃x t,k=Sum.inr x∧v=Value.str x t)
 |.inl i,v,h=>by
  obtain⟨t,e⟩:=Value.isInt_shape (k:=i) (v:=v) h;exact .inl ⟨i,t,rfl,e⟩
 |.inr x,v,h=>by
  obtain⟨t,e⟩:=Value.isStrOf_shape (x:=x) (v:=v) h;exact .inr ⟨x,t,rfl,e⟩
theorem Eg(i:Int)(t:Tok):sQ (.inl i) (.int i t)=true:=by simp[sQ,Value.isInt]
theorem Eh(x:Str)(t:Tok):sQ (.inr x) (.str x t)=true:=by simp[sQ,Value.isStrOf]
theorem Vl(a b:Int):decide ((Sum.inl a:Key)=Sum.inl b)=(a==b):=by
 by_cases e:a=b
 ·subst e;simp
 ·have h:¬ (Sum.inl a:Key)=Sum.inl b:=fun q=>e (Sum.inl.inj q);rw[W19 h];exact(V28.mpr e).symm
theorem Vm(a b:Str):decide ((Sum.inr a:Key)=Sum.inr b)=decide (a=b):=by
 by_cases e:a=b
 ·subst e;simp
 ·have h:¬ (Sum.inr a:Key)=Sum.inr b:=fun q=>e (Sum.inr.inj q);rw[W19 h,W19 e]
theorem Vn(a:Int)(b:Str):decide ((Sum.inl a:Key)=Sum.inr b)=false:=W19 (fun q=>nomatch q)
theorem Vo(a:Str)(b:Int):decide ((Sum.inr a:Key)=Sum.inl b)=false:=W19 (fun q=>nomatch q)
def bE(prog:Program)(w:World):PySem.KeyKind prog w Key where
 is:=sQ
 hash:=keyH w
 inj:=fun v a b ha hb=>by
  rcases cG ha with⟨i,t,rfl,rfl⟩|⟨x,t,rfl,rfl⟩
  ·rcases cG hb with⟨j,u,rfl,e⟩|⟨y,u,rfl,e⟩
   ·injection e with e1 _;rw[e1]
   ·exact nomatch e
  ·rcases cG hb with⟨j,u,rfl,e⟩|⟨y,u,rfl,e⟩
   ·exact nomatch e
   ·injection e with e1 _;rw[e1]
 byValue:=fun k v h=>by
  rcases cG h with⟨i,t,rfl,rfl⟩|⟨x,t,rfl,rfl⟩<;>rfl
 pyHash:=fun hv h=>by
  rcases cG hv with⟨i,t,rfl,rfl⟩|⟨x,t,rfl,rfl⟩
  ·exact wpAny_pyHash_int h
  ·exact wpAny_pyHash_str h
 eqBool:=fun hu hv h=>by
  rcases cG hu with⟨i,t,rfl,rfl⟩|⟨x,t,rfl,rfl⟩
  ·rcases cG hv with⟨j,u,rfl,rfl⟩|⟨y,u,rfl,rfl⟩
   ·rw[Vl]at h;exact wpAny_eqBool_int h
   ·rw[Vn]at h;exact SeqAt.EqAt.int_str i t y u _ _ _ _ h
  ·rcases cG hv with⟨j,u,rfl,rfl⟩|⟨y,u,rfl,rfl⟩
   ·rw[Vo]at h;exact SeqAt.EqAt.str_int x t j u _ _ _ _ h
   ·rw[Vm]at h;exact wpAny_eqBool_str h
 «strs»:=fun k x t v h=>by
  rcases cG h with⟨i,u,rfl,e⟩|⟨y,u,rfl,e⟩
  ·exact nomatch e
  ·injection e with e1 _
   subst e1;cases v<;>rfl
theorem wV(prog:Program)(w:World)(i:Int)(t:Tok):(bE prog w).is (.inl i) (.int i t)=true:=Eg i t
theorem jY(prog:Program)(w:World)(x:Str)(t:Tok):(bE prog w).is (.inr x) (.str x t)=true:=Eh x t
inductive V where
 |non|bl (b:Bool)|int (i:Int)|str (x:Str)|byt (b:Array UInt8)|flt (b:UInt64)|ref (a:Addr)|ty (n:String)
 deriving DecidableEq
def RelV:V→Value→Prop
 |.non,u=>u=Value.none
 |.bl b,u=>u=Value.bool b
 |.int i,u=>∃t,u=Value.int i t
 |.str x,u=>∃t,u=Value.str x t
 |.byt b,u=>∃t,u=Value.bytes b t
 |.flt b,u=>∃t,u=Value.float b t
 |.ref a,u=>u=Value.ref a
 |.ty n,u=>u=Value.type n
abbrev Vals:List V→List Value→Prop:=Paired RelV
theorem Vals.length{xs:List V}{us:List Value}(r:Vals xs us):xs.length=us.length:=Paired.length r
theorem Vals.get:∀{xs:List V} {us:List Value} {i:Nat} {x:V},Vals xs us→xs[i]?=some x→∃u,us[i]?=some u∧RelV x u
 |_,_,_,_,.nil,e=>by simp at e
 |_,_,0,_,.cons r _,e=>by simp at e;subst e;exact⟨_,rfl,r⟩
 |_,_,i+1,x,.cons _ t,e=>by
  obtain⟨u,h1,h2⟩:=Vals.get (i:=i) (x:=x) t (by simpa using e);exact⟨u,by simpa using h1,h2⟩
theorem Vals.set{x:V}{u:Value}(r:RelV x u):∀{xs:List V} {us:List Value} (i:Nat),Vals xs us→Vals (xs.set i x) (us.set i u)
 |_,_,_,.nil=>.nil
 |_,_,0,.cons _ t=>.cons r t
 |_,_,i+1,.cons q t=>.cons q (Vals.set r i t)
theorem Vals.append:∀{xs ys:List V} {us ws:List Value},Vals xs us→Vals ys ws→Vals (xs++ys) (us++ws)
 |_,_,_,_,.nil,s=>s
 |_,_,_,_,.cons r t,s=>.cons r (Vals.append t s)
theorem Vals.take:∀{xs:List V} {us:List Value} (n:Nat),Vals xs us→Vals (xs.take n) (us.take n)
 |_,_,0,_=>.nil
 |_,_,_+1,.nil=>.nil
 |_,_,n+1,.cons r t=>.cons r (Vals.take n t)
theorem Vals.drop:∀{xs:List V} {us:List Value} (n:Nat),Vals xs us→Vals (xs.drop n) (us.drop n)
 |_,_,0,r=>r
 |_,_,_+1,.nil=>.nil
 |_,_,n+1,.cons _ t=>Vals.drop n t
def jZ:Option V→Option Value→Prop
 |some v,some u=>RelV v u
 |none,none=>True
 |_,_=>False
def KV{κ:Type}:List (κ×V)→List (κ×Value)→Prop:=Paired fun(p:κ×V) (q:κ×Value)=>p.1=q.1∧RelV p.2 q.2
def kV:Key→V
 |.inl i=>.int i
 |.inr x=>.str x
inductive HO where
 |lst (xs:List V)
 |tup (xs:List V)
 |dK (kvs:List (Key×V))|dT (kvs:List (List Key×V))
 |set (S:Int→Bool) (n:Nat)
 |ins (C dx:Addr) (fs:List (Str×V))
 |own (x:Addr)
 |xd (fs:List (Str×V))
 |met (f x:Addr)
 |rng (lo hi:Int)
 |frz (o:Obj) (u:HO)
 |tbl (ps:Array Value)
 |ext (φ:Heap→Prop)
abbrev Hp:=Addr→Option HO
def upd(H:Hp)(a:Addr)(o:HO):Hp:=fun b=>if b=a then some o else H b
theorem bO{H:Hp}{a:Addr}{o:HO}:upd H a o a=some o:=by unfold upd;rw[if_pos rfl]
theorem aQ{H:Hp}{a b:Addr}{o:HO}(h:b≠a):upd H a o b=H b:=by unfold upd;rw[if_neg h]
theorem aV{H:Hp}{a b:Addr}{o:HO}(h:H a=some o)(h':H b=none):a≠b:=by
 intro e;subst e;rw[h]at h';cases h'
section
variable(P:Program)(w:World)
def cK(H:Hp)(h:Heap)(a:Addr):HO→Prop
 |.lst xs=>xs.length≤sizeLine∧∃(its:List Value) (n:Nat),Vals xs its∧h.get? a=some { cls:=.type "list",data:=.seq its.toArray n }
 |.tup xs=>xs.length≤sizeLine∧∃its:List Value,Vals xs its∧IsTup h a its.toArray
 |.dK kvs=>kvs.length≤sizeLine∧(a==sysModules)=false∧∃vs,KV kvs vs∧h.DictOf (bE P w) a vs
 |.dT kvs=>kvs.length≤sizeLine∧(a==sysModules)=false∧∃xs:List (List Key×Addr×Value),
   Paired (fun(p:List Key×V) (q:List Key×Addr×Value)=>p.1=q.1∧H q.2.1=some (.tup (p.1.map kV))∧RelV p.2 q.2.2) kvs xs∧
   ∃o es ep,h.get? a=some o∧o.ExactDict∧o.data=.dict es ep∧es.toList=xs.map (entryOfKey (tupleKind (bE P w)))∧(xs.map (·.1)).Nodup
 |.set S n=>h.SetOf (intKind P w) a S n
 |.ins C dx fs=>H dx=some (.own a)∧fs.length≤1000∧dx≠a∧h.get? a=some (PySem.W.instObj C dx)∧
   ∃mA,h.Ns1 dx mA∧(∀f,jZ (fs.lookup f) (mA f))∧PySem.Within mA (fs.map (·.1))
 |.own _=>∃o,h.get? a=some o
 |.xd fs=>∃mA,h.Ns1 a mA∧∀f,jZ (fs.lookup f) (mA f)
 |.rng lo hi=>∃t u v,h.get? a=some { cls:=.type "range",data:=.fields #[.int lo t,.int hi u,.int 1 v] }
 |.frz o u=>h.get? a=some o∧cK H h a u
 |.tbl ps=>h.get? a=some { cls:=.none,data:=.fields ps }
 |.met f x=>h.get? a=some (PySem.W.methodObj (.ref f) (.ref x))
 |.ext φ=>φ h∧(∃o,h.get? a=some o)∧∀h1 h2:Heap,φ h1→(∀o,h1.get? a=some o→h2.get? a=some o)→φ h2
def HOk(H:Hp)(h:Heap):Prop:=∀a o,H a=some o→cK P w H h a o
end
section
variable{P:Program}{w:World}{H H':Hp}{h h':Heap}{a:Addr}{o:HO}
theorem cK.lt(x:cK P w H h a o):a<h.objs.size:=by
 cases o with
 |lst xs=>obtain⟨_,_,_,_,e⟩:=x;exact W12 e
 |tup xs=>obtain⟨_,_,_,p⟩:=x;exact p.lt
 |dK kvs=>obtain⟨_,_,_,_,o,_,_,e,_⟩:=x;exact W12 e
 |dT kvs=>obtain⟨_,_,_,_,o,_,_,e,_⟩:=x;exact W12 e
 |set S n=>obtain⟨o,_,_,_,e,_⟩:=x;exact W12 e
 |ins C dx fs=>obtain⟨_,_,_,e,_⟩:=x;exact W12 e
 |own y=>obtain⟨_,e⟩:=x;exact W12 e
 |xd fs=>obtain⟨_,⟨_,_,_,e,_⟩,_⟩:=x;exact W12 e
 |rng lo hi=>obtain⟨_,_,_,e⟩:=x;exact W12 e
 |frz ob u=>obtain⟨e,_⟩:=x;exact W12 e
 |tbl ps=>exact W12 (show h.get? a=some _ from x)
 |met f y=>exact W12 (show h.get? a=some _ from x)
 |ext φ=>obtain⟨_,⟨_,e⟩,_⟩:=x;exact W12 e
theorem Paired.mapP{α β:Type}{F G:α→β→Prop}:∀{l₁:List α} {l₂:List β},Paired F l₁ l₂→(∀a b,F a b→G a b)→Paired G l₁ l₂
 |_,_,.nil,_=>.nil
 |_,_,.cons r t,f=>.cons (f _ _ r) (Paired.mapP t f)
theorem cK.stay(x:cK P w H h a o)(k:∀b u,(b=a∨H b=some (.own a))→h.get? b=some u→h'.get? b=some u)
  (ho:∀b,H b=some (.own a)→H' b=some (.own a))(ht:∀b xs,H b=some (.tup xs)→H' b=some (.tup xs)):cK P w H' h' a o:=by
 induction o with
 |lst xs=>obtain⟨z,its,n,r,e⟩:=x;exact⟨z,its,n,r,k _ _ (.inl rfl) e⟩
 |tup xs=>obtain⟨z,its,r,ob,e,c⟩:=x;exact⟨z,its,r,ob,k _ _ (.inl rfl) e,c⟩
 |dK kvs=>obtain⟨z,y,vs,r,ob,es,ep,e,c⟩:=x;exact⟨z,y,vs,r,ob,es,ep,k _ _ (.inl rfl) e,c⟩
 |dT kvs=>
  obtain⟨z,y,xs,r,ob,es,ep,e,c⟩:=x;exact⟨z,y,xs,Paired.mapP r fun p q z=>⟨z.1,ht _ _ z.2.1,z.2.2⟩,ob,es,ep,k _ _ (.inl rfl) e,c⟩
 |set S n=>obtain⟨ob,es,ep,t,e,c⟩:=x;exact⟨ob,es,ep,t,k _ _ (.inl rfl) e,c⟩
 |ins C dx fs=>
  obtain⟨d,z,ne,e,mA,⟨od,es,ep,e2,c⟩,r⟩:=x;exact⟨ho _ d,z,ne,k _ _ (.inl rfl) e,mA,⟨od,es,ep,k _ _ (.inr d) e2,c⟩,r⟩
 |own y=>obtain⟨ob,e⟩:=x;exact⟨ob,k _ _ (.inl rfl) e⟩
 |xd fs=>obtain⟨mA,⟨od,es,ep,e,c⟩,r⟩:=x;exact⟨mA,⟨od,es,ep,k _ _ (.inl rfl) e,c⟩,r⟩
 |rng lo hi=>obtain⟨t,u,v,e⟩:=x;exact⟨t,u,v,k _ _ (.inl rfl) e⟩
 |frz ob u ih=>obtain⟨e,q⟩:=x;exact⟨k _ _ (.inl rfl) e,ih q⟩
 |tbl ps=>
  have e:h.get? a=some { cls:=.none,data:=.fields ps }:=x;show h'.get? a=some { cls:=.none,data:=.fields ps };exact k a _ (.inl rfl) e
 |met f y=>
  have e:h.get? a=some (PySem.W.methodObj (.ref f) (.ref y)):=x;show h'.get? a=some (PySem.W.methodObj (.ref f) (.ref y));exact k a _ (.inl rfl) e
 |ext φ=>obtain⟨p,⟨o,e⟩,st⟩:=x;exact⟨st _ _ p fun o q=>k _ _ (.inl rfl) q,⟨o,k _ _ (.inl rfl) e⟩,st⟩
theorem HOk.lt(x:HOk P w H h)(e:H a=some o):a<h.objs.size:=(x a o e).lt
theorem HOk.fresh(x:HOk P w H h)(e:h.objs.size≤a):H a=none:=by
 cases q:H a with
 |none=>rfl
 |some u=>exact absurd (Z15 (x.lt q) e) (W20 _)
theorem HOk.kept(x:HOk P w H h)(k:∀b u,h.get? b=some u→h'.get? b=some u):HOk P w H h':=fun a o e=>
 (x a o e).stay (fun b u _ q=>k b u q) (fun _ q=>q) fun _ _ q=>q
theorem HOk.laid(x:HOk P w H h)(k:∀b u,h.get? b=some u→h'.get? b=some u)(hp:h.objs.size≤a)(new:cK P w (upd H a o) h' a o):HOk P w (upd H a o) h':=fun b u e=>by
 have hn:=x.fresh hp
 by_cases hb:b=a
 ·subst hb;rw[bO]at e;cases e;exact new
 ·rw[aQ hb]at e;exact(x b u e).stay (fun c v _ q=>k c v q) (fun c q=>by rw[aQ (aV q hn)];exact q) fun c xs q=>by rw[aQ (aV q hn)];exact q
end
def Rd(H:Hp)(a:Addr)(u:HO):Prop:=H a=some u∨∃o,H a=some (.frz o u)
theorem Rd.ok{P:Program}{w:World}{H:Hp}{h:Heap}{a:Addr}{u:HO}(r:Rd H a u)(x:HOk P w H h):cK P w H h a u:=by
 rcases r with r|⟨o,r⟩
 ·exact x a u r
 ·obtain⟨_,q⟩:=x a _ r;exact q
def Mut:Option HO→Prop
 |some (.lst _)=>True
 |some (.dK _)=>True
 |some (.dT _)=>True
 |some (.set _ _)=>True
 |some (.ins _ _ _)=>True
 |some (.ext _)=>True
 |_=>False
section
variable{P:Program}{w:World}{H:Hp}{h h':Heap}{x e:Addr}{o':HO}
theorem HOk.write(ok:HOk P w H h)(mu:Mut (H x))(he:e=x∨H e=some (.own x))(k:∀b u,b≠e→h.get? b=some u→h'.get? b=some u)(heo:∃u,h'.get? e=some u)
  (new:cK P w (upd H x o') h' x o'):HOk P w (upd H x o') h':=fun b u q=>by
 have nown:∀c y,H c=some (.own y)→c≠x:=fun c y r z=>by subst z;rw[r]at mu;exact mu
 have ntup:∀c xs,H c=some (.tup xs)→c≠x:=fun c xs r z=>by subst z;rw[r]at mu;exact mu
 by_cases hb:b=x
 ·subst hb;rw[bO]at q;cases q;exact new
 ·rw[aQ hb]at q
  by_cases hbe:b=e
  ·have q':H b=some (.own x):=by
    rcases he with z|z
    ·exact absurd (hbe.trans z) hb
    ·rw[hbe];exact z
   rw[q]at q';cases q';obtain⟨v,hv⟩:=heo;exact⟨v,by rw[hbe];exact hv⟩
  ·refine(ok b u q).stay (fun c v hc r=>k c v ?_ r) (fun c r=>by rw[aQ (nown c b r)];exact r) fun c xs r=>by rw[aQ (ntup c xs r)];exact r
   rcases hc with rfl|hc
   ·exact hbe
   ·rintro rfl;rcases he with z|z
    ·exact nown c b hc z
    ·rw[hc]at z;cases z;exact hb rfl
end
structure Un (fs ex:List Addr) (H H':Hp) (h h':Heap):Prop where
 keep:∀b o,h.get? b=some o→H b=none→b∉fs→b∉ex→h'.get? b=some o
 slot:∀b o,h.get? b=some o→H b=none→b∈fs→b∉ex→∃sl,h'.get? b=some { o with slots:=sl }
 free:∀b o,h.get? b=some o→H b=none→b∉ex→H' b=none
 there:∀b o,h.get? b=some o→b∉ex→∃o',h'.get? b=some o'
 tups:∀b xs,H b=some (.tup xs)→H' b=some (.tup xs)
 frzs:∀b o u,H b=some (.frz o u)→H' b=some (.frz o u)
 tbls:∀b ps,H b=some (.tbl ps)→∃more,H' b=some (.tbl (ps++more))
section
variable{fs fs' ex ex':List Addr}{H H1 H2:Hp}{h h1 h2 h':Heap}{a x e:Addr}{o:HO}
theorem Un.any(u:Un fs ex H H1 h h1){b:Addr}{ob:Obj}(q:h.get? b=some ob)(n:H b=none)(hx:b∉ex):∃sl,h1.get? b=some { ob with slots:=sl }:=by
 by_cases hb:b∈fs
 ·exact u.slot b ob q n hb hx
 ·exact⟨ob.slots,u.keep b ob q n hb hx⟩
theorem Un.kept(k:∀b u,h.get? b=some u→h'.get? b=some u):Un fs ex H H h h':=
 ⟨fun b ob q _ _ _=>k b ob q,fun b ob q _ _ _=>⟨ob.slots,k b ob q⟩,fun _ _ _ n _=>n,fun b ob q _=>⟨ob,k b ob q⟩,fun _ _ q=>q,fun _ _ _ q=>q,fun _ ps q=>⟨#[],by rw[q];simp⟩⟩
theorem Un.refl:Un fs ex H H h h:=Un.kept fun _ _ q=>q
theorem Un.laid(k:∀b u,h.get? b=some u→h'.get? b=some u)(hp:h.objs.size≤a)(hn:H a=none):Un fs ex H (upd H a o) h h' where
 keep:=fun b u q _ _ _=>k b u q
 slot:=fun b u q _ _ _=>⟨u.slots,k b u q⟩
 free:=fun b u q n _=>by rw[aQ (U14 (Z15 (W12 q) hp))];exact n
 there:=fun b u q _=>⟨u,k b u q⟩
 tups:=fun b xs q=>by rw[aQ (aV q hn)];exact q
 frzs:=fun b u xs q=>by rw[aQ (aV q hn)];exact q
 tbls:=fun b ps q=>⟨#[],by rw[aQ (aV q hn),q];simp⟩
theorem Un.write(mu:Mut (H x))(he:e=x∨H e=some (.own x))(k:∀b u,b≠e→h.get? b=some u→h'.get? b=some u)(heo:∃u,h'.get? e=some u):Un fs ex H (upd H x o) h h':=by
 have hx:∀b,H b=none→b≠x:=fun b n z=>by subst z;rw[n]at mu;exact mu
 have hb:∀b,H b=none→b≠e:=fun b n z=>by
  subst z;rcases he with r|r
  ·exact hx b n r
  ·rw[n]at r;cases r
 have hm:∀b u,H b=some u→¬ Mut (some u)→b≠x:=fun b u q nm z=>by subst z;rw[q]at mu;exact nm mu
 refine⟨fun b u q n _ _=>k b u (hb b n) q,fun b u q n _ _=>⟨u.slots,k b u (hb b n) q⟩,fun b u q n _=>by rw[aQ (hx b n)];exact n,fun b u q _=>?_,
  fun b xs q=>by rw[aQ (hm b _ q fun z=>z)];exact q,fun b u xs q=>by rw[aQ (hm b _ q fun z=>z)];exact q,fun b ps q=>⟨#[],by rw[aQ (hm b _ q fun z=>z),q];simp⟩⟩
 by_cases hbe:b=e
 ·subst hbe;exact heo
 ·exact⟨u,k b u hbe q⟩
end
def trk(h:Heap)(H:Hp):List Addr:=(List.range h.objs.size).filter fun a=>(H a).isSome
def uM(h:Heap)(H:Hp):Heap:=PySem.W.hideAll h (trk h H)
theorem Ei(h:Heap)(H:Hp):(uM h H).objs.size=h.objs.size:=PySem.W.hideAll_size _ _
theorem Hn{h:Heap}{H:Hp}{b:Addr}{o:Obj}(e:h.get? b=some o)(n:H b=none):(uM h H).get? b=some o:=
 PySem.W.hideAll_get _ e fun hm=>by
  have q:(H b).isSome=true:=(List.mem_filter.mp hm).2;rw[n]at q;simp at q
theorem Oq{h:Heap}{H:Hp}{b:Addr}{o:Obj}(e:(uM h H).get? b=some o):h.get? b=some o∧H b=none:=by
 have e':h.get? b=some o:=PySem.W.of_hideAll (trk h H) e;refine⟨e',?_⟩;cases q:H b with
 |none=>rfl
 |some x=>
  have hm:b∈trk h H:=List.mem_filter.mpr ⟨List.mem_range.mpr (W12 e'),by simp[q]⟩;have z:(uM h H).get? b=none:=PySem.W.hideAll_none (trk h H) hm;rw[z]at e;cases e
structure Mod (K:Fg9) (mg:Str→Option Value) (base:Heap):Prop where
 kin:K.In base
 glob:base.Ns mainGlobals mg
 blt:∃mb,base.Ns builtinsNs mb∧∀x:Str,x≠"__name__"→mb x=bootBuiltins x
 nolimit:base.NoLimit
structure Cx where
 prog:Program
 w:World
 K:Fg9
 mg:Str→Option Value
 base:Heap
 A:Around
 N:List Str
 s₀:Shared
 H₀:Hp
 env:Env
 outer:List Env
 stack:List Env
 ex:List Addr
 fn:Str→Bool
 calm:Bool
 pn:List (Addr×Obj)
 xe:Value→Shared→Prop
def frs(l:List Env):List Addr:=l.filterMap (·.frame)
abbrev Cx.fs(X:Cx):List Addr:=frs X.outer
def Vis(sc:Scope)(x:Str):Prop:=sc.names.lookup x=some .local∨sc.names.lookup x=some .cell∨sc.names.lookup x=some .free
def Loc(sc:Scope)(x:Str):Prop:=sc.names.lookup x=some .local∨sc.names.lookup x=some .cell
def Look(env:Env)(h:Heap)(m:Str→Option Value)(x:Str)(u:Value):Prop:=
 (env.kindOf x=some .local∧m x=some u)∨((env.kindOf x=some .cell∨env.kindOf x=some .free)∧∃c,env.cells.lookup x=some c∧h.IsCell c (some u))
structure Cx.Ok (X:Cx):Prop where
 mod:Mod X.K X.mg X.base
 kind:X.env.scope.kind=.function
 glob:X.env.globals=mainGlobals
 blt:X.env.builtins=builtinsNs
 above:X.s₀.heap.objs.size≤X.env.locals
 inj:∀x y c,X.env.cells.lookup x=some c→X.env.cells.lookup y=some c→x=y
 has:∀x,(X.env.kindOf x=some .cell∨X.env.kindOf x=some .free)→∃c,X.env.cells.lookup x=some c
 cab:∀x c,X.fn x=true→X.env.cells.lookup x=some c→X.s₀.heap.objs.size≤c
 hd:X.calm=true→X.A.handled=none
 frames:X.A.frames=some X.stack
 stk:X.stack=X.outer∨(X.stack=X.env::X.outer∧X.env.frame=some X.env.locals)
 exf:∀b∈X.ex,b≠X.env.locals∧∀x c,X.env.cells.lookup x=some c→c≠b
 bs:∀b o,X.base.get? b=some o→X.s₀.heap.get? b=some o∧X.H₀ b=none
 bsz:X.base.objs.size≤X.s₀.heap.objs.size
 noex:∀b o,X.base.get? b=some o→b∉X.ex
 exfs:∀b∈X.ex,b∉X.fs
 funs:X.s₀.heap.FunFrames X.base X.outer
 frf:∀b∈X.fs,X.H₀ b=none
structure Inv (X:Cx) (pins:List (Addr×Obj)) (σ:List (Option V)) (H:Hp) (s:Shared):Prop where
 ok:X.Ok
 os:s.os=X.s₀.os
 bare:AllBare s.gens
 base:Un X.fs X.ex X.H₀ H X.s₀.heap s.heap
 loc:∃m,s.heap.Ns X.env.locals m∧∀(i:Nat) (x:Str) (v:V),X.N[i]?=some x→σ[i]?=some (some v)→Vis X.env.scope x→∃u,RelV v u∧Look X.env s.heap m x u
 cell:∀x c,X.env.cells.lookup x=some c→∃v,s.heap.IsCell c v
 free:H X.env.locals=none
 freeC:∀x c,X.env.cells.lookup x=some c→H c=none
 pin:∀p∈X.pn++pins,s.heap.get? p.1=some p.2∧H p.1=none∧p.1≠X.env.locals∧p.1∉X.fs∧∀v,p.2.data≠.cell v
 hok:HOk X.prog X.w H s.heap
 len:σ.length=X.N.length
section
variable {g':Array GenState}{t':Nat}{d':Drawn}{ch:List Addr}{A:Around}{E:Value→Shared→Prop}{Q:Unit→Shared→Prop}
variable{X:Cx}{pins:List (Addr×Obj)}{σ:List (Option V)}{H H':Hp}{s:Shared}{h':Heap}
theorem Cx.Ok.nofr(ok:X.Ok){b:Addr}{o:Obj}(e:X.base.get? b=some o):b∉X.fs:=fun hb=>by
 have:=(ok.funs.mem hb).1;rw[e]at this;cases this
theorem Inv.bs(I:Inv X pins σ H s):∀b o,X.base.get? b=some o→s.heap.get? b=some o∧H b=none:=fun b o e=>
 ⟨I.base.keep b o (I.ok.bs b o e).1 (I.ok.bs b o e).2 (I.ok.nofr e) (I.ok.noex b o e),I.base.free b o (I.ok.bs b o e).1 (I.ok.bs b o e).2 (I.ok.noex b o e)⟩
theorem Inv.bk(I:Inv X pins σ H s):∀b o,X.base.get? b=some o→s.heap.get? b=some o:=fun b o e=>(I.bs b o e).1
theorem Inv.mod(I:Inv X pins σ H s):Mod X.K X.mg X.base:=I.ok.mod
theorem Inv.kIn(I:Inv X pins σ H s):X.K.In s.heap:=I.ok.mod.kin.keeps I.bk
theorem Inv.lt(I:Inv X pins σ H s):X.env.locals<s.heap.objs.size:=let ⟨_,hn,_⟩:=I.loc;hn.lt
theorem Inv.sz(I:Inv X pins σ H s):X.s₀.heap.objs.size≤s.heap.objs.size:=Y14 I.ok.above (V33 I.lt)
theorem Inv.nofs(I:Inv X pins σ H s){a:Addr}(h:s.heap.objs.size≤a):a∉X.fs:=fun hb=>by
 obtain⟨_,o,ho,_⟩:=I.ok.funs.mem hb;exact absurd (Z15 (W12 ho) (Y14 I.sz h)) (W20 _)
theorem Inv.cne(I:Inv X pins σ H s):∀x c,X.env.cells.lookup x=some c→c≠X.env.locals:=fun x c e z=>by
 obtain⟨v,o,ho,hd⟩:=I.cell x c e;obtain⟨m,⟨o',es,ep,ho',hd',_⟩,_⟩:=I.loc;rw[z,ho']at ho;cases ho;rw[hd']at hd;cases hd
theorem Inv.funs(I:Inv X pins σ H s):s.heap.FunFrames X.base X.outer:=by
 have all:∀(l:List Env),(∀b∈frs l,b∈X.fs)→X.s₀.heap.FunFrames X.base l→s.heap.FunFrames X.base l:=by
  intro l
  induction l with
  |nil=>intro _ _;trivial
  |cons env r ih=>
   intro hs hl;obtain⟨hk,⟨L,o,hf,hn,ho,hd⟩,hr⟩:=hl;have hL:L∈X.fs:=hs L (by unfold frs;rw[Y32,hf];exact List.mem_cons_self);obtain⟨sl,e⟩:=I.base.slot L o ho (I.ok.frf L hL) hL fun z=>I.ok.exfs L z hL;exact⟨hk,⟨L,_,hf,hn,e,hd⟩,ih (fun b hb=>hs b (by unfold frs;rw[Y32,hf];exact U11 _ hb)) hr⟩
 exact all X.outer (fun _ hb=>hb) I.ok.funs
theorem Inv.stack(I:Inv X pins σ H s):s.heap.FunFrames X.base X.stack:=by
 rcases I.ok.stk with e|⟨e,hf⟩
 ·rw[e];exact I.funs
 ·rw[e];obtain⟨m,hn,_⟩:=I.loc;refine .cons (by rw[I.ok.kind];decide) hf hn ?_ I.funs;exact Heap.get?_none_of_le (Y14 I.ok.bsz I.ok.above)
theorem Inv.stkSub(I:Inv X pins σ H s):∀b∈frs X.stack,b∈X.env.locals::X.fs:=fun b hb=>by
 rcases I.ok.stk with e|⟨e,hf⟩
 ·rw[e]at hb;exact U11 _ hb
 ·rw[e]at hb;unfold frs at hb;rw[Y32,hf]at hb;exact hb
theorem Inv.stkFree(I:Inv X pins σ H s):∀b∈frs X.stack,H b=none:=fun b hb=>by
 rcases Z13.mp (I.stkSub b hb) with e|hb
 ·rw[e];exact I.free
 ·obtain⟨_,o,ho,_⟩:=I.ok.funs.mem hb;exact I.base.free b o ho (I.ok.frf b hb) fun z=>I.ok.exfs b z hb
theorem Inv.step(I:Inv X pins σ H s)
  (hch:∀b∈ch,(b∈X.ex∨X.s₀.heap.objs.size≤b)∧b≠X.env.locals∧(∀x c,X.env.cells.lookup x=some c→c≠b)∧∀p∈X.pn++pins,p.1≠b)
  (keep:∀b o,b≠X.env.locals→b∉X.fs→b∉ch→s.heap.get? b=some o→H b=none→h'.get? b=some o)
  (slot:∀b o,b≠X.env.locals→b∈X.fs→b∉ch→s.heap.get? b=some o→H b=none→∃sl,h'.get? b=some { o with slots:=sl })(free:∀b o,b∉ch→s.heap.get? b=some o→H b=none→H' b=none)
  (there:∀b o,b∉ch→s.heap.get? b=some o→∃o',h'.get? b=some o')
  (tups:∀b xs,H b=some (.tup xs)→H' b=some (.tup xs))(frzs:∀b o u,H b=some (.frz o u)→H' b=some (.frz o u))(tbls:∀b ps,H b=some (.tbl ps)→∃more,H' b=some (.tbl (ps++more)))
  (ns:∀m,s.heap.Ns X.env.locals m→h'.Ns X.env.locals m)(hok:HOk X.prog X.w H' h')(hg:AllBare g'):
  Inv X pins σ H' { s with heap:=h',gens:=g',drawn:=d',toks:=t' }:=by
 have neL:∀b o,X.s₀.heap.get? b=some o→b≠X.env.locals:=fun b o e=>U14 (Z15 (W12 e) I.ok.above);have neC:∀b o,X.s₀.heap.get? b=some o→b∉X.ex→b∉ch:=fun b o e hx hb=>by
  rcases (hch b hb).1 with z|z
  ·exact hx z
  ·exact absurd (Z15 (W12 e) z) (W20 _)
 have cellK:∀x c,X.env.cells.lookup x=some c→∀v,s.heap.IsCell c v→h'.IsCell c v:=fun x c e v ⟨o,ho,hd⟩=>by
  have nch:c∉ch:=fun z=>(hch c z).2.2.1 x c e rfl
  by_cases hc:c∈X.fs
  ·obtain⟨sl,q⟩:=slot c o (I.cne x c e) hc nch ho (I.freeC x c e);exact⟨_,q,hd⟩
  ·exact⟨o,keep c o (I.cne x c e) hc nch ho (I.freeC x c e),hd⟩
 refine⟨I.ok,I.os,hg,⟨fun b o e n hb hx=>?_,fun b o e n hb hx=>?_,fun b o e n hx=>?_,fun b o e hx=>?_,fun b xs e=>tups b xs (I.base.tups b xs e),fun b o xs e=>frzs b o xs (I.base.frzs b o xs e),fun b ps e=>?_⟩,?_,fun x c e=>?_,?_,fun x c e=>?_,fun p hp=>?_,hok,I.len⟩
 ·exact keep b o (neL b o e) hb (neC b o e hx) (I.base.keep b o e n hb hx) (I.base.free b o e n hx)
 ·obtain⟨sl,e1⟩:=I.base.slot b o e n hb hx;obtain⟨sl',e2⟩:=slot b _ (neL b o e) hb (neC b o e hx) e1 (I.base.free b o e n hx);exact⟨sl',e2⟩
 ·obtain⟨o',e1⟩:=I.base.there b o e hx;exact free b o' (neC b o e hx) e1 (I.base.free b o e n hx)
 ·obtain⟨o',e1⟩:=I.base.there b o e hx;exact there b o' (neC b o e hx) e1
 ·obtain⟨m1,e1⟩:=I.base.tbls b ps e;obtain⟨m2,e2⟩:=tbls b _ e1;exact⟨m1++m2,by rw[e2,Array.append_assoc]⟩
 ·obtain⟨m,hn,hl⟩:=I.loc;refine⟨m,ns m hn,fun i x v e1 e2 e3=>?_⟩;obtain⟨u,r,l⟩:=hl i x v e1 e2 e3;refine⟨u,r,?_⟩;rcases l with l|⟨k,c,e,z⟩
  ·exact .inl l
  ·exact .inr ⟨k,c,e,cellK x c e _ z⟩
 ·obtain⟨v,z⟩:=I.cell x c e;exact⟨v,cellK x c e v z⟩
 ·obtain⟨m,⟨o,_,_,ho,_⟩,_⟩:=I.loc;exact free _ o (fun z=>(hch _ z).2.1 rfl) ho I.free
 ·obtain⟨v,o,ho,hd⟩:=I.cell x c e;exact free c o (fun z=>(hch c z).2.2.1 x c e rfl) ho (I.freeC x c e)
 ·obtain⟨e,n,ne,nf,d⟩:=I.pin p hp;have nch:p.1∉ch:=fun z=>(hch p.1 z).2.2.2 p hp rfl;exact⟨keep p.1 p.2 ne nf nch e n,free p.1 p.2 nch e n,ne,nf,d⟩
theorem Inv.un(I:Inv X pins σ H s)(u:Un X.fs [] H H' s.heap h')(hok:HOk X.prog X.w H' h'):Inv X pins σ H' { s with heap:=h',toks:=t' }:=by
 obtain⟨m,⟨o,es,ep,ho,r⟩,_⟩:=id I.loc;obtain⟨sl,hL⟩:=u.any ho I.free (by simp);exact I.step (g':=s.gens) (d':=s.drawn) (ch:=[]) (fun _ z=>nomatch z) (fun b o _ hb _ e n=>u.keep b o e n hb (by simp)) (fun b o _ hb _ e n=>u.slot b o e n hb (by simp)) (fun b o _ e n=>u.free b o e n (by simp)) (fun b o _ e=>u.there b o e (by simp)) u.tups u.frzs u.tbls (fun m' hm=>by
  obtain⟨o',es',ep',ho',r'⟩:=hm;rw[ho]at ho';cases ho';exact⟨_,es',ep',hL,r'⟩) hok I.bare
theorem Inv.call(I:Inv X pins σ H s)(u:Un (frs X.stack) ch H H' s.heap h')(hok:HOk X.prog X.w H' h')(hg:AllBare g')
  (hch:∀b∈ch,(b∈X.ex∨X.s₀.heap.objs.size≤b)∧b≠X.env.locals∧(∀x c,X.env.cells.lookup x=some c→c≠b)∧∀p∈X.pn++pins,p.1≠b):
  Inv X pins σ H' { s with heap:=h',gens:=g',drawn:=d',toks:=t' }:=by
 obtain⟨m,⟨o,es,ep,ho,r⟩,_⟩:=id I.loc;obtain⟨sl,hL⟩:=u.any ho I.free fun z=>(hch _ z).2.1 rfl;exact I.step (ch:=ch) hch (fun b o hL hb hc e n=>u.keep b o e n (fun z=>(Z13.mp (I.stkSub b z)).elim hL hb) hc) (fun b o _ _ hc e n=>u.any e n hc) (fun b o hc e n=>u.free b o e n hc) (fun b o hc e=>u.there b o e hc) u.tups u.frzs u.tbls (fun m' hm=>by
  obtain⟨o',es',ep',ho',r'⟩:=hm;rw[ho]at ho';cases ho';exact⟨_,es',ep',hL,r'⟩) hok hg
theorem Inv.turned{it:Addr}(I:Inv X pins σ H s)(k:∀b o,b≠it→s.heap.get? b=some o→h'.get? b=some o)(hn:H it=none)(hL:it≠X.env.locals)
  (h1:it∈X.ex∨X.s₀.heap.objs.size≤it)(h2:∀x c,X.env.cells.lookup x=some c→c≠it)(h3:∀p∈X.pn++pins,p.1≠it):Inv X pins σ H { s with heap:=h',toks:=t' }:=by
 have nit:∀b u,H b=some u→b≠it:=fun b u e z=>by rw[z,hn]at e;cases e
 refine I.step (g':=s.gens) (d':=s.drawn) (ch:=[it]) (fun b hb=>?_) (fun b o _ _ hc e _=>k b o (fun z=>hc (by simp[z])) e) (fun b o _ _ hc e _=>⟨o.slots,k b o (fun z=>hc (by simp[z])) e⟩) (fun _ _ _ _ n=>n)
  (fun b o hc e=>⟨o,k b o (fun z=>hc (by simp[z])) e⟩) (fun _ _ e=>e) (fun _ _ _ e=>e) (fun b ps e=>⟨#[],by rw[e];simp⟩) (fun m hm=>?_) (fun b u e=>?_) I.bare
 ·have e:b=it:=by simpa using hb
  subst e;exact⟨h1,hL,h2,h3⟩
 ·obtain⟨o,es,ep,ho,r⟩:=hm;exact⟨o,es,ep,k _ o (Ne.symm hL) ho,r⟩
 ·refine(I.hok b u e).stay (fun c v hc q=>k c v ?_ q) (fun _ q=>q) fun _ _ q=>q;rcases hc with z|z
  ·rw[z];exact nit b u e
  ·exact nit c _ z
theorem Inv.tok(I:Inv X pins σ H s)(t:Nat):Inv X pins σ H { s with toks:=t }:=I.un (h':=s.heap) (t':=t) Un.refl I.hok
theorem Inv.kept(I:Inv X pins σ H s)(k:∀b u,s.heap.get? b=some u→h'.get? b=some u):Inv X pins σ H { s with heap:=h',toks:=t' }:=I.un (Un.kept k) (I.hok.kept k)
theorem Inv.laid{a:Addr}{o:HO}(I:Inv X pins σ H s)(k:∀b u,s.heap.get? b=some u→h'.get? b=some u)(hp:s.heap.objs.size≤a)(new:cK X.prog X.w (upd H a o) h' a o):
  Inv X pins σ (upd H a o) { s with heap:=h',toks:=t' }:=I.un (Un.laid k hp (I.hok.fresh hp)) (I.hok.laid k hp new)
theorem Inv.write{x e:Addr}{o:HO}(I:Inv X pins σ H s)(mu:Mut (H x))(he:e=x∨H e=some (.own x))(k:∀b u,b≠e→s.heap.get? b=some u→h'.get? b=some u)(heo:∃u,h'.get? e=some u)
  (new:cK X.prog X.w (upd H x o) h' x o):Inv X pins σ (upd H x o) { s with heap:=h',toks:=t' }:=I.un (Un.write mu he k heo) (I.hok.write mu he k heo new)
theorem Inv.weak{σ':List (Option V)}(I:Inv X pins σ H s)(hl:σ'.length=σ.length)(w:∀(i:Nat) v,σ'[i]?=some (some v)→σ[i]?=some (some v)):Inv X pins σ' H s:=
 ⟨I.ok,I.os,I.bare,I.base,let ⟨m,hn,hl'⟩:=I.loc;⟨m,hn,fun i x v e1 e2 e3=>hl' i x v e1 (w i v e2) e3⟩,I.cell,I.free,I.freeC,I.pin,I.hok,hl.trans I.len⟩
theorem Inv.pins_of{pins':List (Addr×Obj)}(I:Inv X pins σ H s)(h:∀p∈pins',s.heap.get? p.1=some p.2∧H p.1=none∧p.1≠X.env.locals∧p.1∉X.fs∧∀v,p.2.data≠.cell v):Inv X pins' σ H s:=
 ⟨I.ok,I.os,I.bare,I.base,I.loc,I.cell,I.free,I.freeC,fun p hp=>(Z21.mp hp).elim (fun z=>I.pin p (V36 _ z)) (h p),I.hok,I.len⟩
theorem wW{N:List Str}(hN:N.Nodup){i j:Nat}{x:Str}(a:N[i]?=some x)(b:N[j]?=some x):i=j:=by
 obtain⟨h1,e1⟩:=U10.mp a;obtain⟨h2,e2⟩:=U10.mp b;exact(List.getElem_inj hN).mp (e1.trans e2.symm)
theorem sS{i:Nat}{x:Str}{v:V}{u:Value}(I:Inv X pins σ H s)(hN:X.N.Nodup)(hi:X.N[i]?=some x)(hx:Loc X.env.scope x)(r:RelV v u)
  (h:∀s',Inv X pins (σ.set i (some v)) H s'→(∃a,Heap.SameBut a s.heap s'.heap∧(a=X.env.locals∨X.env.cells.lookup x=some a))→Q () s')(hf:X.fn x=true∨X.env.scope.names.lookup x=some .local):wpAny M A (storeName X.env x u) Q E s:=by
 obtain⟨m,hn,hl⟩:=id I.loc;have hcls:(X.env.scope.kind==.class || (X.env.scope.kind==.module&&X.env.locals != X.env.globals))=false:=by rw[I.ok.kind];rfl
 have hiσ:i<σ.length:=by rw[I.len];exact(U10.mp hi).1
 have cne:=I.cne;have tracked:∀{a:Addr} {h':Heap},(∃o,s.heap.get? a=some o∧H a=none)→Heap.SameBut a s.heap h'→HOk X.prog X.w H h':=fun {a h'} ha hs b ob e=>by
  obtain⟨_,_,hfree⟩:=ha;refine(I.hok b ob e).stay (fun c w' hc q=>(hs.2 c ?_).trans q) (fun _ q=>q) fun _ _ q=>q;rintro rfl;rcases hc with rfl|hc
  ·rw[hfree]at e;cases e
  ·rw[hfree]at hc;cases hc
 rcases hx with hk|hk
 ·refine wpAny_storeName_local hk hn (fun h' hn' hs=>?_) hcls;obtain⟨oL,_,_,hoL,_⟩:=id hn;refine h _ ⟨I.ok,I.os,I.bare,⟨fun b o e n hb hx=>?_,fun b o e n hb hx=>?_,I.base.free,fun b o e hx=>?_,I.base.tups,I.base.frzs,I.base.tbls⟩,⟨_,hn',fun j y v' e1 e2 e3=>?_⟩,fun y c e=>?_,I.free,I.freeC,fun p hp=>?_,tracked ⟨oL,hoL,I.free⟩ hs,by simpa using I.len⟩ ⟨_,hs,.inl rfl⟩
  ·exact(hs.2 b (U14 (Z15 (W12 e) I.ok.above))).trans (I.base.keep b o e n hb hx)
  ·obtain⟨sl,e1⟩:=I.base.slot b o e n hb hx;exact⟨sl,(hs.2 b (U14 (Z15 (W12 e) I.ok.above))).trans e1⟩
  ·obtain⟨o',e1⟩:=I.base.there b o e hx;exact⟨o',(hs.2 b (U14 (Z15 (W12 e) I.ok.above))).trans e1⟩
  ·by_cases hj:j=i
   ·subst hj;rw[hi]at e1;cases e1;rw[List.getElem?_set_self hiσ]at e2;cases e2;exact⟨u,r,.inl ⟨hk,by simp⟩⟩
   ·rw[List.getElem?_set_ne (Ne.symm hj)]at e2;obtain⟨u',r',q⟩:=hl j y v' e1 e2 e3;refine⟨u',r',?_⟩;rcases q with⟨k,e⟩|⟨k,c,e,z⟩
    ·refine .inl ⟨k,?_⟩;have:y≠x:=fun e=>hj (wW hN e1 (e ▸ hi));simp[this,e]
    ·exact .inr ⟨k,c,e,z.sameBut hs (cne y c e)⟩
  ·obtain⟨w',z⟩:=I.cell y c e;exact⟨w',z.sameBut hs (cne y c e)⟩
  ·obtain⟨e,n,ne,nf,d⟩:=I.pin p hp;exact⟨(hs.2 p.1 ne).trans e,n,ne,nf,d⟩
 ·have hfn:X.fn x=true:=by
   rcases hf with z|z
   ·exact z
   ·rw[z]at hk;cases hk
  obtain⟨c,hc⟩:=I.ok.has x (.inl hk);obtain⟨w',z⟩:=I.cell x c hc;refine wpAny_storeName_cell I.ok.kind hk hc z (fun h' hc' hs=>?_);obtain⟨oc,hoc,hocd⟩:=id z;refine h { s with heap:=h' } ⟨I.ok,I.os,I.bare,⟨fun b o e n hb hx=>?_,fun b o e n hb hx=>?_,I.base.free,fun b o e hx=>?_,I.base.tups,I.base.frzs,I.base.tbls⟩,⟨m,hn.sameBut hs (Ne.symm (cne x c hc)),fun j y v' e1 e2 e3=>?_⟩,fun y c' e=>?_,I.free,I.freeC,fun p hp=>?_,tracked ⟨oc,hoc,I.freeC x c hc⟩ hs,by simpa using I.len⟩ ⟨c,hs,.inr hc⟩
  ·exact(hs.2 b (U14 (Z15 (W12 e) (I.ok.cab x c hfn hc)))).trans (I.base.keep b o e n hb hx)
  ·obtain⟨sl,e1⟩:=I.base.slot b o e n hb hx;exact⟨sl,(hs.2 b (U14 (Z15 (W12 e) (I.ok.cab x c hfn hc)))).trans e1⟩
  ·obtain⟨o',e1⟩:=I.base.there b o e hx;exact⟨o',(hs.2 b (U14 (Z15 (W12 e) (I.ok.cab x c hfn hc)))).trans e1⟩
  ·by_cases hj:j=i
   ·subst hj;rw[hi]at e1;cases e1;rw[List.getElem?_set_self hiσ]at e2;cases e2;exact⟨u,r,.inr ⟨.inl hk,c,hc,hc'⟩⟩
   ·rw[List.getElem?_set_ne (Ne.symm hj)]at e2;obtain⟨u',r',q⟩:=hl j y v' e1 e2 e3;refine⟨u',r',?_⟩;rcases q with q|⟨k,c',e,z'⟩
    ·exact .inl q
    ·refine .inr ⟨k,c',e,z'.sameBut hs ?_⟩;rintro rfl;exact hj (wW hN e1 (I.ok.inj _ _ _ e hc ▸ hi))
  ·by_cases hcc:c'=c
   ·subst hcc;exact⟨_,hc'⟩
   ·obtain⟨w2,z2⟩:=I.cell y c' e;exact⟨w2,z2.sameBut hs hcc⟩
  ·obtain⟨e,n,ne,nf,d⟩:=I.pin p hp;refine⟨(hs.2 p.1 ?_).trans e,n,ne,nf,d⟩;intro q;rw[q,hoc]at e;have q':oc=p.2:=Y17 e;exact d w' (by rw[←q'];exact hocd)
theorem pX{i:Nat}{x:Str}{v:V}{u:Value}(I:Inv X pins σ H s)(hN:X.N.Nodup)(hi:X.N[i]?=some x)(hx:Loc X.env.scope x)(r:RelV v u)
  (h:∀s',Inv X pins (σ.set i (some v)) H s'→Q () s')(hf:X.fn x=true∨X.env.scope.names.lookup x=some .local):wpAny M A (storeName X.env x u) Q E s:=
 sS I hN hi hx r (fun s' I' _=>h s' I') hf
theorem Inv.call'{s':Shared}(I:Inv X pins σ H s)(ho:s'.os=s.os)(u:Un (frs X.stack) ch H H' s.heap s'.heap)(hok:HOk X.prog X.w H' s'.heap)(hg:AllBare s'.gens)
  (hch:∀b∈ch,(b∈X.ex∨X.s₀.heap.objs.size≤b)∧b≠X.env.locals∧(∀x c,X.env.cells.lookup x=some c→c≠b)∧∀p∈X.pn++pins,p.1≠b):Inv X pins σ H' s':=by
 obtain⟨h',g',d',t',o'⟩:=s';have e:o'=s.os:=ho;subst e;exact I.call (g':=g') (t':=t') (d':=d') u hok hg hch
end
abbrev XK:=Value→Option Addr→Hp→Prop
abbrev St:=List (Option V)
abbrev VK:=V→Hp→Prop
abbrev TE:=St→Hp→VK→Prop
abbrev TT:=St→Hp→(Bool→Hp→Prop)→Prop
abbrev TA:=St→Hp→(List V→Hp→Prop)→Prop
structure Ends where
 nx:St→Hp→Prop
 rt:VK
 bk:St→Hp→Prop:=fun _ _=>False
 ct:St→Hp→Prop:=fun _ _=>False
abbrev TS:=Ends→St→Hp→Prop
def EP(X:Cx)(pins:List (Addr×Obj))(σ:St)(Q:VK)(u:Value)(s':Shared):Prop:=∃v H',Inv X pins σ H' s'∧RelV v u∧Q v H'
def TP(X:Cx)(pins:List (Addr×Obj))(σ:St)(Q:Bool→Hp→Prop)(b:Bool)(s':Shared):Prop:=∃H',Inv X pins σ H' s'∧Q b H'
def AP(X:Cx)(pins:List (Addr×Obj))(σ:St)(Q:List V→Hp→Prop)(us:List Value)(s':Shared):Prop:=∃vs H',Inv X pins σ H' s'∧Vals vs us∧Q vs H'
def SP(X:Cx)(pins:List (Addr×Obj))(D:Ends)(f:Flow)(s':Shared):Prop:=
 match f with
 |.next=>∃σ' H',Inv X pins σ' H' s'∧D.nx σ' H'
 |.brk=>∃σ' H',Inv X pins σ' H' s'∧D.bk σ' H'
 |.cont=>∃σ' H',Inv X pins σ' H' s'∧D.ct σ' H'
 |.ret u=>∃v σ' H',Inv X pins σ' H' s'∧RelV v u∧D.rt v H'
def PE(X:Cx)(e:Expr)(t:TE):Prop:=
 ∀(pins:List (Addr×Obj)) (s:Shared) (σ:St) (H:Hp) (Q:VK),Inv X pins σ H s→t σ H Q→wpAny (model X.prog X.w) X.A (eval e X.env) (EP X pins σ Q) X.xe s
def PT(X:Cx)(e:Expr)(t:TT):Prop:=
 ∀(pins:List (Addr×Obj)) (s:Shared) (σ:St) (H:Hp) (Q:Bool→Hp→Prop),Inv X pins σ H s→t σ H Q→wpAny (model X.prog X.w) X.A (isTrue e X.env (eval e X.env)) (TP X pins σ Q) X.xe s
def PW(X:Cx)(e:Expr)(t:TT):Prop:=
 ∀(whole:Sem Value) (pins:List (Addr×Obj)) (s:Shared) (σ:St) (H:Hp) (Q:Bool→Hp→Prop),Inv X pins σ H s→t σ H Q→wpAny (model X.prog X.w) X.A (isTrue e X.env whole) (TP X pins σ Q) X.xe s
theorem PW.pt{X:Cx}{e:Expr}{t:TT}(h:PW X e t):PT X e t:=h _
def PA(X:Cx)(es:List Expr)(t:TA):Prop:=
 ∀(pos:Pos) (pins:List (Addr×Obj)) (s:Shared) (σ:St) (H:Hp) (Q:List V→Hp→Prop),Inv X pins σ H s→t σ H Q→wpAny (model X.prog X.w) X.A (spliced (backTo pos (starEach es X.env))) (AP X pins σ Q) X.xe s
def PS(X:Cx)(st:Stmt)(t:TS):Prop:=
 ∀(pins:List (Addr×Obj)) (s:Shared) (σ:St) (H:Hp) (D:Ends),Inv X pins σ H s→t D σ H→wpAny (model X.prog X.w) X.A (exec st X.env) (SP X pins D) X.xe s
def PSs(X:Cx)(st:List Stmt)(t:TS):Prop:=
 ∀(pins:List (Addr×Obj)) (s:Shared) (σ:St) (H:Hp) (D:Ends),Inv X pins σ H s→t D σ H→wpAny (model X.prog X.w) X.A (execs st X.env) (SP X pins D) X.xe s
theorem thn{α:Type}{t:Sem α}{Q Q':α→Shared→Prop}{A:Around}{E:Value→Shared→Prop}{s:Shared}(h:wpAny M A t Q E s)(hQ:∀a s,Q a s→Q' a s):wpAny M A t Q' E s:=Z27 h hQ fun _ _ x=>x
section
variable {E Q:Value→Shared→Prop}{pins:List (Addr×Obj)}{s:Shared}{σ:St}{H:Hp}{u:Value}{v:V}
variable{X:Cx}
def HP(i:Nat):TE:=fun σ H Q=>∃v,σ[i]?=some (some v)∧Q v H
def tC(v:V):TE:=fun _ H Q=>Q v H
theorem Ho{i:Nat}{x:Str}{pos:Pos}(hN:X.N[i]?=some x)(hv:Vis X.env.scope x)(hd:(x==("__debug__":Str))=false:=by decide)(hcd:(x==("__classdict__":Str))=false:=by decide):PE X (.Name x pos) (HP i):=by
 intro pins s σ H Q I h;obtain⟨v,e,h⟩:=h;obtain⟨m,hn,hl⟩:=I.loc;obtain⟨u,r,l⟩:=hl i x v hN e hv;have fin:EP X pins σ Q u s:=⟨v,H,I,r,h⟩;rcases l with⟨hk,hm⟩|⟨hk,c,hc,hcell⟩
 ·exact wpAny_Name (wpAny_loadName_local I.ok.kind hk hn hm fin) hd
 ·rcases hk with hk|hk
  ·exact wpAny_Name (wpAny_loadName_cell I.ok.kind hk hc hcell fin) hd
  ·exact wpAny_Name (wpAny_loadName_free I.ok.kind hk hc hcell fin hcd) hd
theorem Vp{i j pos}:PE X (.Constant (.int i) j pos) (tC (.int i)):=fun _ _ _ H _ I h=>wpAny_Constant_int ⟨.int i,H,I.tok _,⟨_,rfl⟩,h⟩
theorem CL{b j pos}:PE X (.Constant (.bool b) j pos) (tC (.bl b)):=fun _ _ _ H _ I h=>Constant_bool ⟨.bl b,H,I,rfl,h⟩
theorem Vq{j pos}:PE X (.Constant .none j pos) (tC .non):=fun _ _ _ H _ I h=>Constant_none ⟨.non,H,I,rfl,h⟩
theorem Vr{x j pos}:PE X (.Constant (.str x) j pos) (tC (.str x)):=fun _ _ _ H _ I h=>Calls.Constant_str ⟨.str x,H,I.tok _,⟨_,rfl⟩,h⟩
def Gl(X:Cx)(x:Str):Prop:=X.env.kindOf x=some .globalImplicit
theorem uN{x:Str}{pos:Pos}(I:Inv X pins σ H s)(hg:Gl X x)(hm:X.mg x=some u)(h:Q u s)
  (hd:(x==("__debug__":Str))=false:=by decide):wpAny (model X.prog X.w) X.A (eval (.Name x pos) X.env) Q E s:=
 Calls.Name_function_global I.ok.kind hg (Calls.loadGlobal_global (by rw[I.ok.glob];exact I.mod.glob.keeps I.bk) hm h) hd
theorem gX{x:Str}{pos:Pos}(I:Inv X pins σ H s)(hg:Gl X x)(hm:X.mg x=none)(hv:bootBuiltins x=some u)(h:Q u s)
  (hn:x≠"__name__":=by decide)(hd:(x==("__debug__":Str))=false:=by decide):wpAny (model X.prog X.w) X.A (eval (.Name x pos) X.env) Q E s:=by
 obtain⟨mb,h1,h2⟩:=I.mod.blt;exact Calls.Name_function_global I.ok.kind hg (Calls.loadGlobal_builtin (by rw[I.ok.glob];exact I.mod.glob.keeps I.bk) hm (by rw[I.ok.blt];exact h1.keeps I.bk) ((h2 x hn).trans hv) h) hd
theorem Ot{x:Str}{pos:Pos}(hg:Gl X x)(hm:X.mg x=some u)(r:RelV v u)(hd:(x==("__debug__":Str))=false:=by decide):PE X (.Name x pos) (tC v):=
 fun _ _ _ H _ I h=>uN I hg hm ⟨v,H,I,r,h⟩ hd
theorem Ou{x:Str}{pos:Pos}(hg:Gl X x)(hm:X.mg x=none)(hv:bootBuiltins x=some u)(r:RelV v u)(hn:x≠"__name__":=by decide)(hd:(x==("__debug__":Str))=false:=by decide):PE X (.Name x pos) (tC v):=
 fun _ _ _ H _ I h=>gX I hg hm hv ⟨v,H,I,r,h⟩ hn hd
variable{a b:Expr}{ta tb:TE}{pos:Pos}
variable{tA tB':TT}{rest:List Expr}
def HQ(t u:TT):TT:=fun σ H Q=>t σ H fun c H1=>if c=true then u σ H1 Q else Q false H1
def KD(t u:TT):TT:=fun σ H Q=>t σ H fun c H1=>if c=true then Q true H1 else u σ H1 Q
def HR(t:TT):TT:=fun σ H Q=>t σ H fun c H1=>Q (!c) H1
theorem Ov(ha:PT X a tA):PW X (.BoolOp .And [a] pos) tA:=by
 intro wh pins s σ H Q I h;refine isTrue_and (thn (ha pins s σ H Q I h) fun c s1 e=>?_);cases c with
 |true=>exact isTrue_and_nil e
 |false=>exact e
theorem Vs(ha:PT X a tA):PW X (.BoolOp .Or [a] pos) tA:=by
 intro wh pins s σ H Q I h;refine isTrue_or (thn (ha pins s σ H Q I h) fun c s1 e=>?_);cases c with
 |false=>exact isTrue_or_nil e
 |true=>exact e
theorem Vt(ha:PT X a tA)(hb:PW X (.BoolOp .And (b::rest) pos) tB'):PW X (.BoolOp .And (a::b::rest) pos) (HQ tA tB'):=by
 intro wh pins s σ H Q I h;refine isTrue_and (thn (ha pins s σ H _ I h) fun c s1 ⟨H1,I1,q1⟩=>?_);cases c with
 |true=>exact hb wh pins s1 σ H1 Q I1 q1
 |false=>exact⟨H1,I1,q1⟩
theorem CM(ha:PT X a tA)(hb:PW X (.BoolOp .Or (b::rest) pos) tB'):PW X (.BoolOp .Or (a::b::rest) pos) (KD tA tB'):=by
 intro wh pins s σ H Q I h;refine isTrue_or (thn (ha pins s σ H _ I h) fun c s1 ⟨H1,I1,q1⟩=>?_);cases c with
 |true=>exact⟨H1,I1,q1⟩
 |false=>exact hb wh pins s1 σ H1 Q I1 q1
theorem Vu(ha:PT X a tA):PT X (.UnaryOp .Not a pos) (HR tA):=by
 intro pins s σ H Q I h;exact isTrue_not (ha pins s σ H (fun c H1=>Q (!c) H1) I h)
def CN(ta tb:TE):TE:=fun σ H Q=>ta σ H fun x H1=>∃c,x=.bl c∧if c=true then tb σ H1 Q else Q (.bl false) H1
def HS(ta tb:TE):TE:=fun σ H Q=>ta σ H fun x H1=>∃c,x=.bl c∧if c=true then Q (.bl true) H1 else tb σ H1 Q
def CO(ta:TE):TE:=fun σ H Q=>ta σ H fun x H1=>∃c,x=.bl c∧Q (.bl (!c)) H1
theorem Vv{op}{t:TE}(h:PE X a t):PE X (.BoolOp op [a] pos) t:=fun pins s σ H Q I hw=>BoolOp_one (h pins s σ H Q I hw)
theorem Vw(ha:PE X a ta)(hb:PE X (.BoolOp .And (b::rest) pos) tb):PE X (.BoolOp .And (a::b::rest) pos) (CN ta tb):=by
 intro pins s σ H Q I h;refine BoolOp_and (thn (ha pins s σ H _ I h) fun v s1 ⟨x,H1,I1,r1,q1⟩=>?_);obtain⟨c,rfl,q1⟩:=q1;cases r1;refine U30 ?_;cases c with
 |true=>exact hb pins s1 σ H1 Q I1 q1
 |false=>exact⟨.bl false,H1,I1,rfl,q1⟩
theorem CP(ha:PE X a ta)(hb:PE X (.BoolOp .Or (b::rest) pos) tb):PE X (.BoolOp .Or (a::b::rest) pos) (HS ta tb):=by
 intro pins s σ H Q I h;refine BoolOp_or (thn (ha pins s σ H _ I h) fun v s1 ⟨x,H1,I1,r1,q1⟩=>?_);obtain⟨c,rfl,q1⟩:=q1;cases r1;refine U30 ?_;cases c with
 |false=>exact hb pins s1 σ H1 Q I1 q1
 |true=>exact⟨.bl true,H1,I1,rfl,q1⟩
theorem Vx(ha:PE X a ta):PE X (.UnaryOp .Not a pos) (CO ta):=by
 intro pins s σ H Q I h;refine UnaryOp_ (thn (ha pins s σ H _ I h) fun v s1 ⟨x,H1,I1,r1,q1⟩=>?_);obtain⟨c,rfl,q1⟩:=q1;cases r1;exact not_of (U30 ⟨.bl (!c),H1,I1,rfl,q1⟩)
def KG(t:TT)(ta tb:TE):TE:=fun σ H Q=>t σ H fun c H1=>if c=true then ta σ H1 Q else tb σ H1 Q
theorem Hq{c:Expr}(hc:PT X c tA)(ha:PE X a ta)(hb:PE X b tb):PE X (.IfExp c a b pos) (KG tA ta tb):=by
 intro pins s σ H Q I h;refine wpAny_IfExp (thn (hc pins s σ H _ I h) fun d s1 ⟨H1,I1,q1⟩=>?_);cases d with
 |true=>exact ha pins s1 σ H1 Q I1 q1
 |false=>exact hb pins s1 σ H1 Q I1 q1
end
def fE(K:Fg9)(H:Hp)(a:Addr)(xs:List V):Prop:=
 Rd H a (.lst xs)∨
  ∃(o:Obj) (its:Array Value) (n:Nat),K.lookup a=some o∧o.cls=.type "list"∧o.dict=none∧o.data=.seq its n∧its.size≤sizeLine∧Vals xs its.toList
def gR(K:Fg9)(H:Hp)(a:Addr)(xs:List V):Prop:=
 Rd H a (.tup xs)∨
  ∃(o:Obj) (its:Array Value) (n:Nat),K.lookup a=some o∧o.cls=.type "tuple"∧o.data=.seq its n∧its.size≤sizeLine∧Vals xs its.toList
def HU:Value→Option V
 |.none=>some .non
 |.bool b=>some (.bl b)
 |.int i _=>some (.int i)
 |.str x _=>some (.str x)
 |.bytes b _=>some (.byt b)
 |.float b _=>some (.flt b)
 |.ref a=>some (.ref a)
 |.type n=>some (.ty n)
 |_=>none
theorem RelV.abs{x:V}{u:Value}(r:RelV x u):HU u=some x:=by
 cases x with
 |non=>cases r;rfl
 |bl _=>cases r;rfl
 |int _=>obtain⟨t,rfl⟩:=r;rfl
 |str _=>obtain⟨t,rfl⟩:=r;rfl
 |byt _=>obtain⟨t,rfl⟩:=r;rfl
 |flt _=>obtain⟨t,rfl⟩:=r;rfl
 |ref _=>cases r;rfl
 |ty _=>cases r;rfl
theorem RelV.inj{x y:V}{u:Value}(r:RelV x u)(q:RelV y u):x=y:=Y17 (r.abs.symm.trans q.abs)
theorem Vals.inj:∀{xs ys:List V} {us:List Value},Vals xs us→Vals ys us→xs=ys
 |_,_,_,.nil,.nil=>rfl
 |_,_,_,.cons r t,.cons r' t'=>by rw[r.inj r',Vals.inj t t']
section
variable {K:Fg9}
variable{X:Cx}{pins:List (Addr×Obj)}{σ:St}{H:Hp}{s:Shared}{a:Addr}{xs ys:List V}
theorem fE.of(h:H a=some (.lst xs)):fE K H a xs:=.inl (.inl h)
theorem gR.of(h:H a=some (.tup xs)):gR K H a xs:=.inl (.inl h)
theorem Inv.list(I:Inv X pins σ H s)(h:fE X.K H a xs):∃its:List Value,Vals xs its∧PlainL s.heap a its.toArray∧xs.length≤sizeLine:=by
 rcases h with h|⟨o,its,n,hk,hc,hd,hs,hz,r⟩
 ·obtain⟨z,its,n,r,e⟩:=h.ok I.hok;exact⟨its,r,⟨_,n,e,rfl,rfl,rfl⟩,z⟩
 ·refine⟨its.toList,r,⟨o,n,I.kIn a o hk,hc,hd,by simpa using hs⟩,?_⟩;have e:=r.length;simp only[W28]at e
  lia
theorem Inv.tuple(I:Inv X pins σ H s)(h:gR X.K H a xs):∃its:List Value,Vals xs its∧IsTup s.heap a its.toArray∧xs.length≤sizeLine:=by
 rcases h with h|⟨o,its,n,hk,hc,hs,hz,r⟩
 ·obtain⟨z,its,r,p⟩:=h.ok I.hok;exact⟨its,r,p,z⟩
 ·refine⟨its.toList,r,⟨o,I.kIn a o hk,hc,n,by simpa using hs⟩,?_⟩;have e:=r.length;simp only[W28]at e
  lia
theorem Inv.list_inj(I:Inv X pins σ H s)(h:fE X.K H a xs)(h':fE X.K H a ys):xs=ys:=by
 obtain⟨its,r,⟨o,n,e,_,_,d⟩,_⟩:=I.list h;obtain⟨its',r',⟨o',n',e',_,_,d'⟩,_⟩:=I.list h';rw[e]at e';cases e';rw[d]at d'
 injection d' with d1 _
 have:its=its':=by simpa using congrArg Array.toList d1
 subst this;exact r.inj r'
theorem Inv.tuple_inj(I:Inv X pins σ H s)(h:gR X.K H a xs)(h':gR X.K H a ys):xs=ys:=by
 obtain⟨its,r,⟨o,e,_,n,d⟩,_⟩:=I.tuple h;obtain⟨its',r',⟨o',e',_,n',d'⟩,_⟩:=I.tuple h';rw[e]at e';cases e';rw[d]at d'
 injection d' with d1 _
 have:its=its':=by simpa using congrArg Array.toList d1
 subst this;exact r.inj r'
end
abbrev Cx.wish(X:Cx)(E:Value→Shared→Prop):Cx:={ X with xe:=E }
abbrev Cx.nox(X:Cx):Cx:=X.wish fun _ _=>False
theorem Cx.Ok.wish{X:Cx}(ok:X.Ok)(E:Value→Shared→Prop):(X.wish E).Ok:=
 ⟨ok.mod,ok.kind,ok.glob,ok.blt,ok.above,ok.inj,ok.has,ok.cab,ok.hd,ok.frames,ok.stk,ok.exf,ok.bs,ok.bsz,ok.noex,ok.exfs,ok.funs,ok.frf⟩
theorem Cx.Ok.unwish{X:Cx}{E:Value→Shared→Prop}(ok:(X.wish E).Ok):X.Ok:=
 ⟨ok.mod,ok.kind,ok.glob,ok.blt,ok.above,ok.inj,ok.has,ok.cab,ok.hd,ok.frames,ok.stk,ok.exf,ok.bs,ok.bsz,ok.noex,ok.exfs,ok.funs,ok.frf⟩
section
variable{X:Cx}{pins:List (Addr×Obj)}{σ:St}{H:Hp}{s:Shared}{E:Value→Shared→Prop}
theorem Inv.wish(I:Inv X pins σ H s)(E:Value→Shared→Prop):Inv (X.wish E) pins σ H s:=⟨I.ok.wish E,I.os,I.bare,I.base,I.loc,I.cell,I.free,I.freeC,I.pin,I.hok,I.len⟩
theorem Inv.unwish(I:Inv (X.wish E) pins σ H s):Inv X pins σ H s:=⟨I.ok.unwish,I.os,I.bare,I.base,I.loc,I.cell,I.free,I.freeC,I.pin,I.hok,I.len⟩
theorem SP.unwish{D:Ends}{f:Flow}{s':Shared}(h:SP (X.wish E) pins D f s'):SP X pins D f s':=by
 cases f with
 |next=>obtain⟨σ',H',I,q⟩:=h;exact⟨σ',H',I.unwish,q⟩
 |brk=>obtain⟨σ',H',I,q⟩:=h;exact⟨σ',H',I.unwish,q⟩
 |cont=>obtain⟨σ',H',I,q⟩:=h;exact⟨σ',H',I.unwish,q⟩
 |ret u=>obtain⟨v,σ',H',I,r,q⟩:=h;exact⟨v,σ',H',I.unwish,r,q⟩
theorem PSs.nox{st:List Stmt}{t:TS}(h:PSs X.nox st t):PSs X st t:=fun pins s σ H D I hw=>
 Z27 (h pins s σ H D (I.wish _) hw) (fun _ _ q=>q.unwish) fun _ _ z=>False.elim z
end
section
variable{X:Cx}{st:Stmt}{rest:List Stmt}{t u:TS}{e:Expr}{te:TE}{pos:Pos}
def CQ:TS:=fun D σ H=>D.nx σ H
def HV(t u:TS):TS:=fun D σ H=>t { D with nx:=u D } σ H
theorem Ow:PSs X [] CQ:=fun _ _ σ H _ I h=>wpAny_execs_nil ⟨σ,H,I,h⟩
theorem Hr(h1:PS X st t)(h2:PSs X rest u):PSs X (st::rest) (HV t u):=by
 intro pins s σ H D I h;refine wpAny_execs_cons (thn (h1 pins s σ H { D with nx:=u D } I h) fun f s1 q=>?_);cases f with
 |next=>
  obtain⟨σ',H',I',q⟩:=q;exact h2 pins s1 σ' H' D I' q
 |ret v=>exact q
 |brk=>exact q
 |cont=>exact q
theorem Ox(h1:PS X st t):PSs X [st] t:=by
 intro pins s σ H D I h;refine wpAny_execs_cons (thn (h1 pins s σ H D I h) fun f s1 q=>?_);cases f with
 |next=>exact wpAny_execs_nil q
 |ret v=>exact q
 |brk=>exact q
 |cont=>exact q
theorem Inv.quiet{pins:List (Addr×Obj)}{σ:St}{H:Hp}{s:Shared}(I:Inv X pins σ H s):interactive X.env=false:=by simp[interactive,I.ok.kind]
def CS(te:TE):TS:=fun D σ H=>te σ H fun _ H1=>D.nx σ H1
theorem Oy(he:PE X e te)(hs:swapsWith e none pos.line X.env=pure false:=by rfl):PS X (.Expr e pos) (CS te):=by
 intro pins s σ H D I h;exact wpAny_Expr_any (thn (he pins s σ H _ I h) fun v s1 ⟨x,H1,I1,r1,q1⟩=>⟨σ,H1,I1,q1⟩) I.quiet hs
def HW(te:TE):TS:=fun D σ H=>te σ H D.rt
theorem Vy(he:PE X e te):PS X (.Return (some e) pos) (HW te):=by
 intro pins s σ H D I h;exact wpAny_Return_some (thn (he pins s σ H _ I h) fun v s1 ⟨x,H1,I1,r1,q1⟩=>⟨x,σ,H1,I1,r1,q1⟩)
def CT:TS:=fun D _ H=>D.rt .non H
theorem Oz:PS X (.Return none pos) CT:=fun _ _ σ H _ I h=>wpAny_Return_none ⟨.non,σ,H,I,rfl,h⟩
def HX(c:TT)(t u:TS):TS:=fun D σ H=>c σ H fun b H1=>if b=true then t D σ H1 else u D σ H1
theorem CU{c:Expr}{a b:List Stmt}{tc:TT}(hc:PT X c tc)(ha:PSs X a t)(hb:PSs X b u):PS X (.If c a b pos) (HX tc t u):=by
 intro pins s σ H D I h;refine wpAny_If (thn (hc pins s σ H _ I h) fun d s1 ⟨H1,I1,q1⟩=>?_);cases d with
 |true=>exact ha pins s1 σ H1 D I1 q1
 |false=>exact hb pins s1 σ H1 D I1 q1
end
abbrev TG:=V→St→Hp→(St→Hp→Prop)→Prop
abbrev TGs:=List V→St→Hp→(St→Hp→Prop)→Prop
def PG(X:Cx)(target:Expr)(t:TG):Prop:=
 ∀(pins:List (Addr×Obj)) (s:Shared) (σ:St) (H:Hp) (v:V) (u:Value) (Q:St→Hp→Prop),Inv X pins σ H s→RelV v u→t v σ H Q→
  wpAny (model X.prog X.w) X.A (assign target X.env u) (fun _ s'=>∃σ' H',Inv X pins σ' H' s'∧Q σ' H') X.xe s
def PGs(X:Cx)(ts:List Expr)(t:TGs):Prop:=
 ∀(pins:List (Addr×Obj)) (s:Shared) (σ:St) (H:Hp) (vs:List V) (us:List Value) (Q:St→Hp→Prop),Inv X pins σ H s→Vals vs us→t vs σ H Q→
  wpAny (model X.prog X.w) X.A (assignInOrder ((assignEach ts X.env).map (·.2)) us) (fun _ s'=>∃σ' H',Inv X pins σ' H' s'∧Q σ' H') X.xe s
abbrev TSet:=V→V→V→Hp→(Hp→Prop)→Prop
def PSet(X:Cx)(t:TSet):Prop:=
 ∀(pins:List (Addr×Obj)) (s:Shared) (σ:St) (H:Hp) (o i v:V) (ov iv u:Value) (Q:Hp→Prop),Inv X pins σ H s→RelV o ov→RelV i iv→RelV v u→t o i v H Q→
  wpAny (model X.prog X.w) X.A (setItem ov iv u) (fun _ s'=>∃H',Inv X pins σ H' s'∧Q H') X.xe s
abbrev TIp:=V→V→Hp→VK→Prop
def PIp(X:Cx)(op:Operator)(t:TIp):Prop:=
 ∀(pins:List (Addr×Obj)) (s:Shared) (σ:St) (H:Hp) (x y:V) (v u:Value) (Q:VK),Inv X pins σ H s→RelV x v→RelV y u→t x y H Q→
  wpAny (model X.prog X.w) X.A (inplaceOp op v u) (EP X pins σ Q) X.xe s
section
variable {i:Nat}{x:Str}{e:Expr}{es:List Expr}{te:TE}{pos':Pos}
variable{X:Cx}{pos:Pos}
def oI(i:Nat):TG:=fun v σ H Q=>Q (σ.set i (some v)) H
theorem Bq(hN:X.N.Nodup)(hi:X.N[i]?=some x)(hx:Loc X.env.scope x)(hf:X.fn x=true∨X.env.scope.names.lookup x=some .local):PG X (.Name x pos) (oI i):=by
 intro pins s σ H v u Q I r h;exact wpAny_assign_Name (pX I hN hi hx r (fun s' I'=>⟨_,H,I',h⟩) hf)
def CV:TGs:=fun vs σ H Q=>vs=[]∧Q σ H
def Ue(t:TG)(u:TGs):TGs:=fun vs σ H Q=>∃v r,vs=v::r∧t v σ H fun σ' H'=>u r σ' H' Q
theorem Br:PGs X [] CV:=by
 intro pins s σ H vs us Q I r h;obtain⟨e,h⟩:=h;subst e;cases r;exact assignInOrder_nil ⟨σ,H,I,h⟩
theorem wX{t:TG}{u:TGs}(h1:PG X e t)(h2:PGs X es u)
  (hs:(assignEach (e::es) X.env).map (·.2)=assign e X.env::(assignEach es X.env).map (·.2):=by rfl):PGs X (e::es) (Ue t u):=by
 intro pins s σ H vs us Q I r h;obtain⟨v,vr,e1,h⟩:=h;subst e1;cases r with
 |cons r rr=>
  rw[hs];refine assignInOrder_cons (thn (h1 pins s σ H _ _ _ I r h) fun _ s1 ⟨σ1,H1,I1,q1⟩=>?_);exact h2 pins s1 σ1 H1 _ _ Q I1 rr q1
def CW(K:Fg9)(n:Nat)(t:TGs):TG:=fun v σ H Q=>∃a xs,v=.ref a∧gR K H a xs∧xs.length=n∧t xs σ H Q
theorem Hs{k:Nat}{t:TGs}{n:Nat}(hc:X.calm=true)(h:PGs X es t)
  (hn:(assignEach es X.env).length=n:=by rfl)(hst:(assignEach es X.env).findIdx? (·.1)=none:=by rfl):PG X (.Tuple es k pos) (CW X.K n t):=by
 intro pins s σ H v u Q I r hw;obtain⟨a,xs,e1,hq,hl,hw⟩:=hw;subst e1;cases r;obtain⟨its,rv,ht,hz⟩:=I.tuple hq;refine assign_Tuple_tuple (I.ok.hd hc) ht (by simp[hn,←hl,rv.length]) hst fun h' hx=>?_;have I1:Inv X pins σ H { s with heap:=h' }:=I.kept (t':=s.toks) fun b o e=>hx b o (U14 (W12 e)) e;exact h pins _ σ H xs _ Q I1 (by simpa using rv) hw
def HY(to ti:TE)(t:TSet):TG:=fun v σ H Q=>to σ H fun o H1=>ti σ H1 fun i H2=>t o i v H2 fun H3=>Q σ H3
theorem Vz{o i:Expr}{to ti:TE}{t:TSet}(ho:PE X o to)(hi:PE X i ti)(hs:PSet X t)
  (ha:∀v,assign (.Subscript o i pos) X.env v=(do
   let ov ←holding [v] (eval o X.env)
   let iv ←holding [v,ov] (eval i X.env)
   standAt pos
   holding [v,ov,iv] (setItem ov iv v)
   release [v,ov,iv] []):=by intro _;rfl):PG X (.Subscript o i pos) (HY to ti t):=by
 intro pins s σ H v u Q I r h;rw[ha];refine Y10 (U16 (thn (ho pins s σ H _ I h) fun ov s1 ⟨x,H1,I1,r1,q1⟩=>?_));refine Y10 (U16 (thn (hi pins s1 σ H1 _ I1 q1) fun iv s2 ⟨y,H2,I2,r2,q2⟩=>?_));refine Y10 (U43 (Y10 (U16 (thn (hs pins s2 σ H2 x y v ov iv u _ I2 r1 r2 r q2) fun _ s3 ⟨H3,I3,q3⟩=>?_))));exact wpAny_release ⟨σ,H3,I3,q3⟩
def Wa(te:TE)(g:TG):TS:=fun D σ H=>te σ H fun x H1=>g x σ H1 D.nx
theorem Wb{tg:Expr}{g:TG}(he:PE X e te)(hg:PG X tg g)(hs:swapsWithSole [tg] e pos.line X.env=pure false:=by rfl)(hw:swappedStores [tg] e X.env=pure none:=by rfl)
  (h1:(assignEach [tg] X.env).map (·.2)=[assign tg X.env]:=by rfl):PS X (.Assign [tg] e pos) (Wa te g):=by
 intro pins s σ H D I h;refine wpAny_Assign_stores (thn (he pins s σ H _ I h) fun v s1 ⟨x,H1,I1,r1,q1⟩=>?_) hs hw;rw[h1];exact thn (hg pins s1 σ H1 x v _ I1 r1 q1) fun _ s2 q=>q
theorem Wc(hN:X.N.Nodup)(hi:X.N[i]?=some x)(hx:Loc X.env.scope x)(he:PE X e te)(hs:swapsWith e (some (.Name x pos')) pos.line X.env=pure false:=by rfl)(hf:X.fn x=true∨X.env.scope.names.lookup x=some .local):
  PS X (.Assign [.Name x pos'] e pos) (Wa te (oI i)):=by
 intro pins s σ H D I h;refine wpAny_Assign_Name (thn (he pins s σ H _ I h) fun v s1 ⟨y,H1,I1,r1,q1⟩=>?_) hs;exact pX I1 hN hi hx r1 (fun s2 I2=>⟨_,H1,I2,q1⟩) hf
def HZ(i:Nat)(te:TE)(ti:TIp):TS:=fun D σ H=>∃x,σ[i]?=some (some x)∧te σ H fun y H1=>ti x y H1 fun z H2=>D.nx (σ.set i (some z)) H2
theorem Wd{op:Operator}{ti:TIp}(hN:X.N.Nodup)(hi:X.N[i]?=some x)(hx:Loc X.env.scope x)(he:PE X e te)(ho:PIp X op ti)(hf:X.fn x=true∨X.env.scope.names.lookup x=some .local):
  PS X (.AugAssign (.Name x pos') op e pos) (HZ i te ti):=by
 intro pins s σ H D I h;obtain⟨v,e1,h⟩:=h;obtain⟨m,hn,hl⟩:=I.loc;have vis:Vis X.env.scope x:=by rcases hx with k|k;exact .inl k;exact .inr (.inl k)
 obtain⟨u,r,l⟩:=hl i x v hi e1 vis;refine wpAny_AugAssign_Name ?_;have go:wpAny (model X.prog X.w) X.A (eval e X.env) (fun w s₂=>wpAny (model X.prog X.w) X.A (inplaceOp op u w) (fun r s₃=>wpAny (model X.prog X.w) X.A (storeName X.env x r) (fun _=>SP X pins D .next) X.xe s₃) X.xe s₂) X.xe s:=by
  refine thn (he pins s σ H _ I h) fun w s1 ⟨y,H1,I1,r1,q1⟩=>?_;refine thn (ho pins s1 σ H1 v y u w _ I1 r r1 q1) fun z s2 ⟨zv,H2,I2,r2,q2⟩=>?_;exact pX I2 hN hi hx r2 (fun s3 I3=>⟨_,H2,I3,q2⟩) hf
 rcases l with⟨hk,hm⟩|⟨hk,c,hc,hcell⟩
 ·exact wpAny_loadName_local I.ok.kind hk hn hm go
 ·rcases hk with hk|hk
  ·exact wpAny_loadName_cell I.ok.kind hk hc hcell go
  ·rcases hx with k|k
   ·have:X.env.scope.names.lookup x=some .free:=hk;rw[k]at this;cases this
   ·have:X.env.scope.names.lookup x=some .free:=hk;rw[k]at this;cases this
end
section
variable{X:Cx}{pos:Pos}
def We(c:TT)(tb:TS):TS:=fun D σ H=>∃W:Nat→St→Hp→Prop,(∃m,W m σ H)∧∀m σ H,W m σ H→
 c σ H fun b H1=>if b=true then ∃N:St→Hp→Prop,(∀σ' H',N σ' H'→∃m',m'<m∧W m' σ' H')∧tb { D with nx:=N,ct:=N,bk:=D.nx } σ H1 else D.nx σ H1
theorem Ht{c:Expr}{body:List Stmt}{tc:TT}{tb:TS}(hp:PassesOwn (model X.prog X.w) X.A X.env X.xe)(hc:PT X c tc)(hb:PSs X body tb):PS X (.While c body [] pos) (We tc tb):=by
 intro pins s σ H D I h;obtain⟨W,⟨m0,w0⟩,turn⟩:=h;refine wpAny_While (codeAny_whileLoop (fun n s'=>∃σ' H',Inv X pins σ' H' s'∧W n σ' H') ?_ m0 ⟨σ,H,I,w0⟩);rintro n s1 ⟨σ1,H1,I1,w1⟩;refine Y31 hp (thn (hc pins s1 σ1 H1 _ I1 (turn n σ1 H1 w1)) fun b s2 ⟨H2,I2,q2⟩=>?_);cases b with
 |true=>
  obtain⟨N,hN,q2⟩:=q2;rw[if_pos rfl];refine Y31 hp (thn (hb pins s2 σ1 H2 _ I2 q2) fun f s3 q3=>?_);cases f with
  |next=>
   obtain⟨σ3,H3,I3,n3⟩:=q3;obtain⟨m',hm,w3⟩:=hN σ3 H3 n3;exact⟨m',hm,σ3,H3,I3,w3⟩
  |cont=>
   obtain⟨σ3,H3,I3,n3⟩:=q3;obtain⟨m',hm,w3⟩:=hN σ3 H3 n3;exact⟨m',hm,σ3,H3,I3,w3⟩
  |brk=>exact q3
  |ret v=>exact q3
 |false=>
  rw[if_neg W16];exact wpAny_execs_nil ⟨σ1,H2,I2,q2⟩
end
structure It where
 go:Nat→Hp→Prop
 yld:Nat→Hp→V→Hp→Prop
 stop:Nat→Hp→Prop
def pY(X:Cx)(pins:List (Addr×Obj))(H:Hp)(b:Addr):Prop:=
 H b=none∧b≠X.env.locals∧b∉X.fs∧(b∈X.ex∨X.s₀.heap.objs.size≤b)∧(∀x c,X.env.cells.lookup x=some c→c≠b)∧∀p∈X.pn++pins,p.1≠b
theorem Inv.fpOk{X:Cx}{pins:List (Addr×Obj)}{σ:St}{H H':Hp}{s:Shared}{b:Addr}(I:Inv X pins σ H s)(hb:s.heap.objs.size≤b)(hn:H' b=none):pY X pins H' b:=by
 refine⟨hn,Y28 (Z15 I.lt hb),I.nofs hb,.inr (Y14 I.sz hb),fun x c e z=>?_,fun p hp z=>?_⟩
 ·obtain⟨v,q⟩:=I.cell x c e;exact absurd (Z15 q.lt (by rw[z];exact hb)) (W20 _)
 ·exact absurd (Z15 (W12 (I.pin p hp).1) (by rw[z];exact hb)) (W20 _)
structure Turn (P:Program) (w:World) (K:Fg9) (tg:Expr) (J:It) (fp:List Addr) (it:Addr) (tn:Nat→Heap→Prop):Prop where
 mem:it∈fp
 obj:∀i h,tn i h→∀b∈fp,∃o,h.get? b=some o∧∀v,o.data≠.cell v
 keep:∀i h h',tn i h→(∀b∈fp,∀o,h.get? b=some o→h'.get? b=some o)→tn i h'
 item:∀(X:Cx),X.prog=P→X.w=w→X.K=K→X.calm=true→∀(i:Nat) (pins:List (Addr×Obj)) (s:Shared) (σ:St) (H:Hp) (E:Value→Shared→Prop),Inv X pins σ H s→(∀b∈fp,pY X pins H b)→tn i s.heap→J.go i H→
  wpAny (model P w) X.A (pyNext (.ref it)) (fun r s1=>∃u,r=some u∧
   wpAny (model P w) X.A (letOwnedTupleGo tg (.ref it) u) (fun _ s2=>∃x H',Inv X pins σ H' s2∧RelV x u∧J.yld i H x H'∧tn (i+1) s2.heap∧∀b∈fp,H' b=none) E s1) E s
 done:∀(X:Cx),X.prog=P→X.w=w→X.K=K→X.calm=true→∀(i:Nat) (pins:List (Addr×Obj)) (s:Shared) (σ:St) (H:Hp) (E:Value→Shared→Prop),Inv X pins σ H s→(∀b∈fp,pY X pins H b)→tn i s.heap→J.stop i H→
  wpAny (model P w) X.A (pyNext (.ref it)) (fun r s1=>r=none∧Inv X pins σ H s1) E s
 self:∀(A:Around) (i:Nat) (s:Shared) (Q:Value→Shared→Prop) (E:Value→Shared→Prop),tn i s.heap→Q (.ref it) s→wpAny (model P w) A (pyIter (.ref it)) Q E s
abbrev TI:=St→Hp→(It→Hp→Prop)→Prop
def PIE(X:Cx)(pins:List (Addr×Obj))(σ:St)(tg:Expr)(R:It→Hp→Prop)(itv:Value)(s2:Shared):Prop:=
 ∃(it:Addr) (fp:List Addr) (tn:Nat→Heap→Prop) (J:It) (H':Hp),itv=.ref it∧Inv X pins σ H' s2∧Turn X.prog X.w X.K tg J fp it tn∧tn 0 s2.heap∧(∀b∈fp,pY X pins H' b)∧R J H'
def PI(X:Cx)(tg iter:Expr)(wi:TI):Prop:=
 ∀(pins:List (Addr×Obj)) (s:Shared) (σ:St) (H:Hp) (R:It→Hp→Prop),Inv X pins σ H s→wi σ H R→
  wpAny (model X.prog X.w) X.A (eval iter X.env) (fun v s1=>wpAny (model X.prog X.w) X.A (pyIter v) (PIE X pins σ tg R) X.xe s1) X.xe s
theorem Bs{A:Around}{E:Value→Shared→Prop}{s:Shared}{tg:Expr}{it:Addr}{u:Value}{o:Obj}{n:String}{vs:Array Value}{Q:Unit→Shared→Prop}(ho:s.heap.get? it=some o)(hc:o.cls=.type n)(hd:o.data=.fields vs)
  (hn:["enumerate","zip","dict_itemiterator","dict_reverseitemiterator","odict_iterator","itertools.zip_longest","itertools.pairwise"].contains n=false)(hQ:Q () s):wpAny M A (letOwnedTupleGo tg (.ref it) u) Q E s:=by
 unfold letOwnedTupleGo;cases tg<;>first
  |exact Z10 hQ
  |(cases u<;>first
    |exact Z10 hQ
    |(refine Y10 (wpAny_load ho ?_)
      rw[hc,hd];show wpAny M A (if(["enumerate","zip","dict_itemiterator","dict_reverseitemiterator","odict_iterator","itertools.zip_longest","itertools.pairwise"].contains n&&vs[0]?==some (rawInt _))=true then _ else _) Q E s;rw[if_neg (by intro h;rw[hn,Bool.false_and]at h;cases h)];exact Z10 hQ))
def Itl(K:Fg9)(a:Addr):It:=
 ⟨fun i H=>∃xs x,fE K H a xs∧xs[i]?=some x,fun i H x H'=>H'=H∧∀xs,fE K H a xs→xs[i]?=some x,fun i H=>∃xs,fE K H a xs∧xs.length≤i⟩
def Itt(K:Fg9)(a:Addr):It:=
 ⟨fun i H=>∃xs x,gR K H a xs∧xs[i]?=some x,fun i H x H'=>H'=H∧∀xs,gR K H a xs→xs[i]?=some x,fun i H=>∃xs,gR K H a xs∧xs.length≤i⟩
def Itr(lo:Int)(n:Nat):It:=⟨fun i _=>i<n,fun i H x H'=>H'=H∧x=.int (lo+i),fun i _=>n≤i⟩
theorem Ej{P:Program}{w:World}{K:Fg9}{tg:Expr}(a it:Addr):Turn P w K tg (Itl K a) [it] it (fun i h=>h.IsListIter it a i) where
 mem:=by simp
 obj:=fun i h st b hb=>by
  have e:b=it:=by simpa using hb
  subst e;obtain⟨o,e,c,d⟩:=st;exact⟨o,e,fun v z=>by rw[d]at z;cases z⟩
 keep:=fun i h h' st k=>st.at fun o e=>k it (by simp) o e
 item:=by
  intro X hP hw hK hc i pins s σ H E I hf st hg;subst hP hw hK;obtain⟨xs,x,hq,hx⟩:=hg;obtain⟨its,rv,p,hz⟩:=I.list hq;obtain⟨u,hu,ru⟩:=rv.get hx;obtain⟨f0,f1,f2,f3,f4,f5⟩:=hf it (by simp);refine wpAny_pyNext_list_item st p.isList (x:=u) (by simpa using hu) fun h' st' sb=>?_;have I1:Inv X pins σ H { s with heap:=h' }:=I.turned (t':=s.toks) (fun b o hb e=>(sb.2 b hb).trans e) f0 f1 f3 f4 f5;obtain⟨o,e,c,d⟩:=id st';exact⟨u,rfl,Bs (s:={ s with heap:=h' }) e c d (by decide) ⟨x,H,I1,ru,⟨rfl,fun ys hy=>by rw[I.list_inj hy hq];exact hx⟩,st',fun b hb=>(hf b hb).1⟩⟩
 done:=by
  intro X hP hw hK hc i pins s σ H E I hf st hg;subst hP hw hK;obtain⟨xs,hq,hx⟩:=hg;obtain⟨its,rv,p,hz⟩:=I.list hq;obtain⟨f0,f1,f2,f3,f4,f5⟩:=hf it (by simp);have hl:=rv.length;exact wpAny_pyNext_list_end (I.ok.hd hc) st p.isList (by simp;lia) fun h' eb=>⟨rfl,I.turned (t':=s.toks) (fun b o hb e=>eb b o hb e) f0 f1 f3 f4 f5⟩
 self:=fun _ _ _ _ _ st h=>wpAny_pyIter_listiter st h
theorem zA{P:Program}{w:World}{K:Fg9}{tg:Expr}(a it:Addr):Turn P w K tg (Itt K a) [it] it (fun i h=>h.IsTupleIter it a i) where
 mem:=by simp
 obj:=fun i h st b hb=>by
  have e:b=it:=by simpa using hb
  subst e;obtain⟨o,e,c,d⟩:=st;exact⟨o,e,fun v z=>by rw[d]at z;cases z⟩
 keep:=fun i h h' st k=>st.at fun o e=>k it (by simp) o e
 item:=by
  intro X hP hw hK hc i pins s σ H E I hf st hg;subst hP hw hK;obtain⟨xs,x,hq,hx⟩:=hg;obtain⟨its,rv,p,hz⟩:=I.tuple hq;obtain⟨u,hu,ru⟩:=rv.get hx;obtain⟨f0,f1,f2,f3,f4,f5⟩:=hf it (by simp);refine wpAny_pyNext_tuple_item st (show s.heap.IsTuple a its.toArray from p) (x:=u) (by simpa using hu) fun h' st' sb=>?_;have I1:Inv X pins σ H { s with heap:=h' }:=I.turned (t':=s.toks) (fun b o hb e=>(sb.2 b hb).trans e) f0 f1 f3 f4 f5;obtain⟨o,e,c,d⟩:=id st';exact⟨u,rfl,Bs (s:={ s with heap:=h' }) e c d (by decide) ⟨x,H,I1,ru,⟨rfl,fun ys hy=>by rw[I.tuple_inj hy hq];exact hx⟩,st',fun b hb=>(hf b hb).1⟩⟩
 done:=by
  intro X hP hw hK hc i pins s σ H E I hf st hg;subst hP hw hK;obtain⟨xs,hq,hx⟩:=hg;obtain⟨its,rv,p,hz⟩:=I.tuple hq;obtain⟨f0,f1,f2,f3,f4,f5⟩:=hf it (by simp);have hl:=rv.length;exact wpAny_pyNext_tuple_end (I.ok.hd hc) st (show s.heap.IsTuple a its.toArray from p) (by simp;lia) fun h' eb=>⟨rfl,I.turned (t':=s.toks) (fun b o hb e=>eb b o hb e) f0 f1 f3 f4 f5⟩
 self:=fun _ _ _ _ _ st h=>wpAny_pyIter_tupleiter st h
theorem zB{P:Program}{w:World}{K:Fg9}{tg:Expr}(it:Addr)(lo:Int)(n:Nat):Turn P w K tg (Itr lo n) [it] it (fun i h=>IsRangeIter h it (lo+(i:Nat)*1) ((n:Int)-(i:Nat)) 1) where
 mem:=by simp
 obj:=fun i h st b hb=>by
  have e:b=it:=by simpa using hb
  subst e;exact⟨_,st,fun v z=>by
   have z':Data.fields _=Data.cell v:=z;cases z'⟩
 keep:=fun i h h' st k=>k it (by simp) _ st
 item:=by
  intro X hP hw hK hc i pins s σ H E I hf st hg;subst hP hw hK;obtain⟨f0,f1,f2,f3,f4,f5⟩:=hf it (by simp);have W:=Walks.range (prog:=X.prog) (w:=X.w) (I.ok.hd hc) it lo 1 n;refine W.item i s _ _ hg st fun v h' tk hv st' kk=>?_;obtain⟨t,rfl⟩:=hv;have I1:Inv X pins σ H { s with heap:=h',toks:=tk }:=I.turned (fun b o hb e=>kk b o (by simpa using hb) e) f0 f1 f3 f4 f5;refine⟨_,rfl,Bs (s:={ s with heap:=h',toks:=tk }) (n:="range_iterator") st' rfl rfl (by decide) ⟨.int (lo+i),H,I1,⟨t,?_⟩,⟨rfl,rfl⟩,st',fun b hb=>(hf b hb).1⟩⟩;rw[Int.mul_one]
 done:=by
  intro X hP hw hK hc i pins s σ H E I hf st hg;subst hP hw hK;obtain⟨f0,f1,f2,f3,f4,f5⟩:=hf it (by simp);exact wpAny_pyNext_range_end (I.ok.hd hc) st (by have:n≤i:=hg;lia) fun h' eb=>⟨rfl,I.turned (t':=s.toks) (fun b o hb e=>eb b o hb e) f0 f1 f3 f4 f5⟩
 self:=fun _ _ _ _ _ st h=>wpAny_pyIter_rangeiter st h
section
variable {l:Expr}{tl:TE}{pins:List (Addr×Obj)}{σ:St}{H:Hp}{s:Shared}{pos:Pos}{fp:List Addr}{h:Heap}
variable{X:Cx}{tg:Expr}
def CY(K:Fg9)(tl:TE):TI:=fun σ H R=>tl σ H fun x H1=>∃a,x=.ref a∧(∃xs,fE K H1 a xs)∧R (Itl K a) H1
def IA(K:Fg9)(tl:TE):TI:=fun σ H R=>tl σ H fun x H1=>∃a,x=.ref a∧(∃xs,gR K H1 a xs)∧R (Itt K a) H1
theorem Pa(hl:PE X l tl):PI X tg l (CY X.K tl):=by
 intro pins s σ H R I h;refine thn (hl pins s σ H _ I h) fun v s1 ⟨x,H1,I1,r1,q1⟩=>?_;obtain⟨a,e,⟨xs,hq⟩,q⟩:=q1;subst e;cases r1;obtain⟨its,rv,p,hz⟩:=I1.list hq;refine wpAny_pyIter_list p.isList ?_;refine⟨s1.heap.objs.size,[s1.heap.objs.size],_,_,H1,rfl,I1.kept (t':=s1.toks) fun b o e=>V10 _ e,Ej a _,⟨_,Z11 _ rfl,rfl,rfl⟩,fun b hb=>?_,q⟩;have e:b=s1.heap.objs.size:=by simpa using hb
 subst e;exact I1.fpOk (W11 _) (I1.hok.fresh (W11 _))
theorem Wf(hl:PE X l tl):PI X tg l (IA X.K tl):=by
 intro pins s σ H R I h;refine thn (hl pins s σ H _ I h) fun v s1 ⟨x,H1,I1,r1,q1⟩=>?_;obtain⟨a,e,⟨xs,hq⟩,q⟩:=q1;subst e;cases r1;obtain⟨its,rv,p,hz⟩:=I1.tuple hq;refine wpAny_pyIter_tuple (show s1.heap.IsTuple a its.toArray from p) ?_;refine⟨s1.heap.objs.size,[s1.heap.objs.size],_,_,H1,rfl,I1.kept (t':=s1.toks) fun b o e=>V10 _ e,zA a _,⟨_,Z11 _ rfl,rfl,rfl⟩,fun b hb=>?_,q⟩;have e:b=s1.heap.objs.size:=by simpa using hb
 subst e;exact I1.fpOk (W11 _) (I1.hok.fresh (W11 _))
theorem Hu{R:It→Hp→Prop}{E:Value→Shared→Prop}{lo hi:Int}{t u v:Tok}{tk:Nat}(I:Inv X pins σ H s)(h1:-(2^62)≤lo)(h2:lo<2^62)(h3:-(2^62)≤hi)(h4:hi<2^62)
  (q:R (Itr lo (hi-lo).toNat) H):wpAny (model X.prog X.w) X.A (pyIter (.ref s.heap.objs.size)) (PIE X pins σ tg R) E { s with heap:=s.heap.push { cls:=.type "range",data:=.fields #[.int lo t,.int hi u,.int 1 v] },toks:=tk }:=by
 refine wpAny_pyIter_range (IsRange.new ..) (small_one h1 h2 h3 h4) ?_;have I1:Inv X pins σ H { s with heap:=s.heap.push { cls:=.type "range",data:=.fields #[.int lo t,.int hi u,.int 1 v] },toks:=tk }:=I.kept fun b o e=>V10 _ e;refine⟨(s.heap.push { cls:=.type "range",data:=.fields #[.int lo t,.int hi u,.int 1 v] }).objs.size,[(s.heap.push { cls:=.type "range",data:=.fields #[.int lo t,.int hi u,.int 1 v] }).objs.size],_,_,H,rfl,
  I1.kept (t':=tk) fun b o e=>V10 _ e,zB _ lo (hi-lo).toNat,?_,fun b hb=>?_,q⟩
 ·have e1:lo+((0:Nat):Int)*1=lo:=by simp
  have e2:(((hi-lo).toNat:Nat):Int)-((0:Nat):Int)=Builtin.Range.rangeSize lo hi 1:=by rw[rangeSize_one];split<;>lia
  show IsRangeIter _ _ (lo+((0:Nat):Int)*1) ((((hi-lo).toNat:Nat):Int)-((0:Nat):Int)) 1;rw[e1,e2];exact Z11 _ rfl
 ·have e:b=(s.heap.push { cls:=.type "range",data:=.fields #[.int lo t,.int hi u,.int 1 v] }).objs.size:=by simpa using hb
  subst e;exact I1.fpOk (W11 _) (I1.hok.fresh (W11 _))
def CZ(ta:TA):TI:=fun σ H R=>ta σ H fun vs H1=>∃j:Int,vs=[.int j]∧-(2^62)≤j∧j<2^62∧R (Itr 0 j.toNat) H1
theorem Ek{a:Expr}{ta:TA}{p:Pos}(hg:Gl X "range")(hm:X.mg "range"=none)(ha:PA X [a] ta)(hs:starEach [a] X.env=[(false,eval a X.env)]:=by rfl):PI X tg (.Call (.Name "range" p) [a] [] pos) (CZ ta):=by
 intro pins s σ H R I h;refine Call_ (gX I hg hm boot_range (Z18 (thn (ha pos pins s σ H _ I h) fun us s1 ⟨vs,H1,I1,r1,q1⟩=>?_) hs rfl));obtain⟨j,e,q1,q2,q⟩:=q1;subst e;cases r1 with
 |cons r rr=>
  cases rr;obtain⟨t,rfl⟩:=r;exact call_range_1 (Hu I1 (by lia) (by lia) q1 q2 (by simpa using q))
def IB(wi:TI)(g:TG)(tb:TS):TS:=fun D σ H=>wi σ H fun J H1=>∃W:Nat→Nat→St→Hp→Prop,(∃m,W 0 m σ H1)∧∀i m σ H,W i m σ H→
 (J.stop i H∧D.nx σ H)∨(J.go i H∧∃N:St→Hp→Prop,(∀σ' H',N σ' H'→∃m',m'<m∧W (i+1) m' σ' H')∧∀x H',J.yld i H x H'→g x σ H' fun σ2 H2=>tb { D with nx:=N,ct:=N,bk:=D.nx } σ2 H2)
def uO(fp:List Addr)(h:Heap):List (Addr×Obj):=fp.filterMap fun b=>(h.get? b).map fun o=>(b,o)
theorem fH{b:Addr}{o:Obj}(hb:b∈fp)(e:h.get? b=some o):(b,o)∈uO fp h:=List.mem_filterMap.mpr ⟨b,hb,by rw[e];rfl⟩
theorem El{p:Addr×Obj}(hp:p∈uO fp h):p.1∈fp∧h.get? p.1=some p.2:=by
 obtain⟨b,hb,e⟩:=List.mem_filterMap.mp hp;cases q:h.get? b with
 |none=>rw[q]at e;cases e
 |some o=>
  rw[q]at e;have e':(b,o)=p:=Y17 e;subst e';exact⟨hb,q⟩
theorem Inv.pinned(I:Inv X pins σ H s)(hf:∀b∈fp,pY X pins H b)(ho:∀b∈fp,∃o,s.heap.get? b=some o∧∀v,o.data≠.cell v):Inv X (pins++uO fp s.heap) σ H s:=
 I.pins_of fun p hp=>(Z21.mp hp).elim (fun z=>I.pin p (V14 _ z)) fun z=>by
  obtain⟨hb,e⟩:=El z;obtain⟨f0,f1,f2,_⟩:=hf p.1 hb;obtain⟨o,e',d⟩:=ho p.1 hb;rw[e]at e';cases e';exact⟨e,f0,f1,f2,d⟩
theorem Inv.unpinned{pl:List (Addr×Obj)}(I:Inv X (pins++pl) σ H s):Inv X pins σ H s:=I.pins_of fun p hp=>I.pin p (V14 _ (V36 _ hp))
theorem Wg{iter:Expr}{body:List Stmt}{wi:TI}{g:TG}{tb:TS}(hp:PassesOwn (model X.prog X.w) X.A X.env X.xe)(hc:X.calm=true)(hi:PI X tg iter wi)(hg:PG X tg g)(hb:PSs X body tb)
  (hs:∀x,foldedSetIterable iter X.env x=pure x:=by intro _;rfl):PS X (.For tg iter body [] pos) (IB wi g tb):=by
 intro pins s σ H D I h;refine wpAny_For (thn (hi pins s σ H _ I h) fun v s1 h1=>thn h1 fun itv s2 h2=>?_) hs;obtain⟨it,fp,tn,J,H2,e,I2,T,st2,f2,W,⟨m0,w0⟩,turn⟩:=h2;subst e;have stat:∀{H':Hp},(∀b∈fp,H' b=none)→∀b∈fp,pY X pins H' b:=fun hn b hb=>⟨hn b hb,(f2 b hb).2⟩;refine codeAny_forLoop_any (fun n s'=>∃i σ' H',Inv X pins σ' H' s'∧tn i s'.heap∧(∀b∈fp,H' b=none)∧W i n σ' H') ?_ m0 ⟨0,σ,H2,I2,st2,fun b hb=>(f2 b hb).1,w0⟩;rintro n s3 ⟨i,σ3,H3,I3,st3,fr3,w3⟩;rcases turn i n σ3 H3 w3 with⟨stop,qn⟩|⟨go,N,hN,step⟩
 ·refine Y31 hp (thn (T.done X rfl rfl rfl hc i pins s3 σ3 H3 X.xe I3 (stat fr3) st3 stop) fun r s4 ⟨hr,I4⟩=>?_);subst hr;exact wpAny_execs_nil ⟨σ3,H3,I4,qn⟩
 ·refine Y31 hp (thn (T.item X rfl rfl rfl hc i pins s3 σ3 H3 X.xe I3 (stat fr3) st3 go) fun r s4 ⟨u,hr,h4⟩=>?_);subst hr;refine Y31 hp (thn h4 fun _ s5 ⟨x,H5,I5,r5,y5,st5,fr5⟩=>?_);have I5':=I5.pinned (stat fr5) (T.obj _ _ st5);refine Y31 hp (thn (hg _ s5 σ3 H5 x u _ I5' r5 (step x H5 y5)) fun _ s6 ⟨σ6,H6,I6,q6⟩=>?_);refine Y31 hp (thn (hb _ s6 σ6 H6 _ I6 q6) fun f s7 q7=>?_);have again:∀{σ7:St} {H7:Hp},Inv X (pins++uO fp s5.heap) σ7 H7 s7→N σ7 H7→∃m,m<n∧∃i σ' H',Inv X pins σ' H' s7∧tn i s7.heap∧(∀b∈fp,H' b=none)∧W i m σ' H':=fun {σ7 H7} I7 n7=>by
   obtain⟨m',hm,w7⟩:=hN σ7 H7 n7;refine⟨m',hm,i+1,σ7,H7,I7.unpinned,T.keep _ _ _ st5 fun b hb o e=>(I7.pin (b,o) (V14 _ (V14 _ (fH hb e)))).1,fun b hb=>?_,w7⟩;obtain⟨o,e,d⟩:=T.obj _ _ st5 b hb;exact(I7.pin (b,o) (V14 _ (V14 _ (fH hb e)))).2.1
  cases f with
  |next=>obtain⟨σ7,H7,I7,n7⟩:=q7;exact again I7 n7
  |cont=>obtain⟨σ7,H7,I7,n7⟩:=q7;exact again I7 n7
  |brk=>obtain⟨σ7,H7,I7,q7⟩:=q7;exact⟨σ7,H7,I7.unpinned,q7⟩
  |ret v=>obtain⟨x7,σ7,H7,I7,r7,q7⟩:=q7;exact⟨x7,σ7,H7,I7.unpinned,r7,q7⟩
end
abbrev R2:=V→V→Hp→VK→Prop
def eG(X:Cx)(f:Value→Value→Sem Value)(r:R2):Prop:=
 ∀(pins:List (Addr×Obj)) (s:Shared) (σ:St) (H:Hp) (x y:V) (v u:Value) (Q:VK),Inv X pins σ H s→RelV x v→RelV y u→r x y H Q→
  wpAny (model X.prog X.w) X.A (f v u) (EP X pins σ Q) X.xe s
def Ug(X:Cx)(f:Value→Sem Value)(r:V→Hp→VK→Prop):Prop:=
 ∀(pins:List (Addr×Obj)) (s:Shared) (σ:St) (H:Hp) (x:V) (v:Value) (Q:VK),Inv X pins σ H s→RelV x v→r x H Q→
  wpAny (model X.prog X.w) X.A (f v) (EP X pins σ Q) X.xe s
def dB(X:Cx)(f:Value)(r:List V→Hp→VK→Prop):Prop:=
 ∀(pins:List (Addr×Obj)) (s:Shared) (σ:St) (H:Hp) (xs:List V) (us:List Value) (Q:VK),Inv X pins σ H s→Vals xs us→r xs H Q→
  wpAny (model X.prog X.w) X.A (call f us) (EP X pins σ Q) X.xe s
def IC(X:Cx)(r:V→Hp→(Bool→Hp→Prop)→Prop):Prop:=
 ∀(pins:List (Addr×Obj)) (s:Shared) (σ:St) (H:Hp) (x:V) (v:Value) (Q:Bool→Hp→Prop),Inv X pins σ H s→RelV x v→r x H Q→
  wpAny (model X.prog X.w) X.A (truthy v) (TP X pins σ Q) X.xe s
def DA(r:R2)(ta tb:TE):TE:=fun σ H Q=>ta σ H fun x H1=>tb σ H1 fun y H2=>r x y H2 Q
def KH(r:V→Hp→VK→Prop)(ta:TE):TE:=fun σ H Q=>ta σ H fun x H1=>r x H1 Q
def rI(C:Int→Int→Prop)(g:Int→Int→V):R2:=fun x y H Q=>∃i j,x=.int i∧y=.int j∧C i j∧Q (g i j) H
def Hv(g:Int→Int→V):R2:=fun x y H Q=>∃i j,x=.int i∧y=.int j∧Q (g i j) H
def rU(g:Int→V):V→Hp→VK→Prop:=fun x H Q=>∃i,x=.int i∧Q (g i) H
section
variable {f:Value→Value→Sem Value}{g:Int→Int→Int}
variable{X:Cx}{a b c:Expr}{ta tb tc:TE}{pos:Pos}
theorem Wh(ha:PE X a ta)(hb:PE X b tb){pins:List (Addr×Obj)}{s:Shared}{σ:St}{H:Hp}{R:V→V→Hp→Prop}(I:Inv X pins σ H s)
  (h:ta σ H fun x H1=>tb σ H1 fun y H2=>R x y H2){Q:Value→Shared→Prop}
  (hf:∀v u s2 x y H2,Inv X pins σ H2 s2→RelV x v→RelV y u→R x y H2→wpAny (model X.prog X.w) X.A (f v u) Q X.xe s2):
  wpAny (model X.prog X.w) X.A (eval a X.env) (fun v s₁=>wpAny (model X.prog X.w) X.A (eval b X.env) (fun u s₂=>wpAny (model X.prog X.w) X.A (f v u) Q X.xe s₂) X.xe s₁) X.xe s:=by
 refine thn (ha pins s σ H _ I h) fun v s1 ⟨x,H1,I1,r1,q1⟩=>?_;refine thn (hb pins s1 σ H1 _ I1 q1) fun u s2 ⟨y,H2,I2,r2,q2⟩=>?_;exact hf v u s2 x y H2 I2 r1 r2 q2
theorem DB{op:Operator}{r:R2}(ho:eG X (binaryOp op) r)(ha:PE X a ta)(hb:PE X b tb):PE X (.BinOp a op b pos) (DA r ta tb):=by
 intro pins s σ H Q I h;exact wpAny_BinOp (Wh ha hb I h fun v u s2 x y H2 I2 rx ry q=>ho pins s2 σ H2 x y v u Q I2 rx ry q)
theorem DC{op:UnaryOp}{r:V→Hp→VK→Prop}(ho:Ug X (unaryOp op) r)(ha:PE X a ta):PE X (.UnaryOp op a pos) (KH r ta):=by
 intro pins s σ H Q I h;exact UnaryOp_ (thn (ha pins s σ H _ I h) fun v s1 ⟨x,H1,I1,r1,q1⟩=>ho pins s1 σ H1 x v Q I1 r1 q1)
theorem GZ{C:Int→Int→Prop}
  (rule:∀(i j:Int) (t u:Tok) (s:Shared) (Q:Value→Shared→Prop) (E:Value→Shared→Prop),C i j→Q (.int (g i j) s.toks) { s with toks:=s.toks+1 }→wpAny (model X.prog X.w) X.A (f (.int i t) (.int j u)) Q E s):
  eG X f (rI C fun i j=>.int (g i j)):=by
 intro pins s σ H x y v u Q I rx ry h;obtain⟨i,j,rfl,rfl,hc,q⟩:=h;obtain⟨t,rfl⟩:=rx;obtain⟨t',rfl⟩:=ry;exact rule i j t t' s _ _ hc ⟨.int (g i j),H,I.tok _,⟨_,rfl⟩,q⟩
theorem Pb
  (rule:∀(i j:Int) (t u:Tok) (s:Shared) (Q:Value→Shared→Prop) (E:Value→Shared→Prop),Q (.int (g i j) s.toks) { s with toks:=s.toks+1 }→wpAny (model X.prog X.w) X.A (f (.int i t) (.int j u)) Q E s):
  eG X f (Hv fun i j=>.int (g i j)):=by
 intro pins s σ H x y v u Q I rx ry h;obtain⟨i,j,rfl,rfl,q⟩:=h;obtain⟨t,rfl⟩:=rx;obtain⟨t',rfl⟩:=ry;exact rule i j t t' s _ _ ⟨.int (g i j),H,I.tok _,⟨_,rfl⟩,q⟩
theorem Pc{g:Int→Int→Bool}
  (rule:∀(i j:Int) (t u:Tok) (s:Shared) (Q:Value→Shared→Prop) (E:Value→Shared→Prop),Q (.bool (g i j)) s→wpAny (model X.prog X.w) X.A (f (.int i t) (.int j u)) Q E s):
  eG X f (Hv fun i j=>.bl (g i j)):=by
 intro pins s σ H x y v u Q I rx ry h;obtain⟨i,j,rfl,rfl,q⟩:=h;obtain⟨t,rfl⟩:=rx;obtain⟨t',rfl⟩:=ry;exact rule i j t t' s _ _ ⟨.bl (g i j),H,I,rfl,q⟩
def CDiv(i j:Int):Prop:=0<j∧j<1073741824
def CPow(i j:Int):Prop:=0≤j∧j≤1000000∧i.natAbs<2^64
def CMul(i j:Int):Prop:=(-(2^64)<i∧i<2^64)∨(-(2^64)<j∧j<2^64)
theorem CMul.ok{i j:Int}(h:CMul i j):IntMulOk i j:=by
 rcases h with⟨h1,h2⟩|⟨h1,h2⟩
 ·exact .of_left (intBits_le_64 h1 h2)
 ·exact .of_right (intBits_le_64 h1 h2)
theorem Wi:eG X (binaryOp .Add) (Hv fun i j=>.int (i+j)):=Pb fun _ _ _ _ _ _ _ q=>add_int q
theorem Wj:eG X (binaryOp .Sub) (Hv fun i j=>.int (i-j)):=Pb fun _ _ _ _ _ _ _ q=>sub_int q
theorem Wk:eG X (binaryOp .Mult) (rI CMul fun i j=>.int (i*j)):=GZ fun _ _ _ _ _ _ _ hc q=>mul_int q hc.ok
theorem Pd:eG X (binaryOp .FloorDiv) (rI CDiv fun i j=>.int (i/j)):=GZ fun i j _ _ _ _ _ hc q=>by
 have h1:(0:Int)<j:=hc.1;have h2:j<1073741824:=hc.2;exact floordiv_int (by lia) (by rw[Int.fdiv_eq_ediv_of_nonneg i (by lia)];exact q) (.inl (PyProof.noPylong_small (by lia)))
theorem Wl:eG X (binaryOp .Mod) (rI (fun _ j=>0<j) fun i j=>.int (i%j)):=GZ fun i j _ _ _ _ _ hc q=>by
 have h1:(0:Int)<j:=hc;exact mod_int' (by lia) (by rw[Int.fmod_eq_emod_of_nonneg i (by lia)];exact q)
theorem Wm:eG X (binaryOp .Pow) (rI CPow fun i j=>.int (i^j.toNat)):=GZ fun _ _ _ _ _ _ _ hc q=>pow_int_small hc.1 hc.2.1 hc.2.2 q
theorem Pe:eG X (inplaceOp .Add) (Hv fun i j=>.int (i+j)):=Pb fun _ _ _ _ _ _ _ q=>iadd_int q
theorem Pf:eG X (inplaceOp .Sub) (Hv fun i j=>.int (i-j)):=Pb fun _ _ _ _ _ _ _ q=>isub_int q
theorem KI{f:Value→Sem Value}{g:Int→Int}
  (rule:∀(i:Int) (t:Tok) (s:Shared) (Q:Value→Shared→Prop) (E:Value→Shared→Prop),Q (.int (g i) s.toks) { s with toks:=s.toks+1 }→wpAny (model X.prog X.w) X.A (f (.int i t)) Q E s):
  Ug X f (rU fun i=>.int (g i)):=by
 intro pins s σ H x v Q I rx h;obtain⟨i,rfl,q⟩:=h;obtain⟨t,rfl⟩:=rx;exact rule i t s _ _ ⟨.int (g i),H,I.tok _,⟨_,rfl⟩,q⟩
theorem Wn:Ug X (unaryOp .USub) (rU fun i=>.int (-i)):=KI fun _ _ _ _ _ q=>neg_int q
end
section
variable {r:R2}{op:CmpOp}{us:List Value}
variable{X:Cx}{a b c:Expr}{ta tb tc:TE}{pos:Pos}
theorem zC{pins:List (Addr×Obj)}{σ:St}{H:Hp}{s:Shared}{Q:VK}{k k':Bool}(I:Inv X pins σ H s)(q:Q (.bl k) H)(e:k=k'):EP X pins σ Q (.bool k') s:=by
 subst e;exact⟨.bl k,H,I,rfl,q⟩
theorem DD:eG X (compareOp .Lt) (Hv fun i j=>.bl (decide (i<j))):=Pc fun _ _ _ _ _ _ _ q=>lt_int q
theorem DE:eG X (compareOp .LtE) (Hv fun i j=>.bl (decide (i≤j))):=Pc fun _ _ _ _ _ _ _ q=>le_int q
theorem DF:eG X (compareOp .Gt) (Hv fun i j=>.bl (decide (j<i))):=Pc fun _ _ _ _ _ _ _ q=>gt_int q
theorem DG:eG X (compareOp .GtE) (Hv fun i j=>.bl (decide (j≤i))):=Pc fun _ _ _ _ _ _ _ q=>ge_int q
theorem Em:eG X (compareOp .In) (fun x y H Q=>∃i j,x=.str i∧y=.str j∧Q (.bl (!(Builtin.Str.occurrences j i 0 j.length 1).isEmpty)) H):=by
 intro pins s σ H x y v u Q I rx ry h;obtain⟨i,j,rfl,rfl,q⟩:=h;obtain⟨t,rfl⟩:=rx;obtain⟨t',rfl⟩:=ry;exact in_str (zC I q rfl)
theorem Wo:eG X (compareOp .Is) (fun x y H Q=>y=.non∧Q (.bl (decide (x=.non))) H):=by
 intro pins s σ H x y v u Q I rx ry h;obtain⟨rfl,q⟩:=h;cases ry;refine is_none_gen (zC I q ?_);cases x<;>first
  |(cases rx;rfl)
  |(obtain⟨t,rfl⟩:=rx;rfl)
theorem uP:eG X (compareOp .NotIn) (fun x y H Q=>∃i j,x=.str i∧y=.str j∧Q (.bl (!(!(Builtin.Str.occurrences j i 0 j.length 1).isEmpty))) H):=by
 intro pins s σ H x y v u Q I rx ry h;obtain⟨i,j,rfl,rfl,q⟩:=h;obtain⟨t,rfl⟩:=rx;obtain⟨t',rfl⟩:=ry;exact notIn_str (zC I q rfl)
theorem eG.or{f:Value→Value→Sem Value}{r':R2}(h:eG X f r)(h':eG X f r'):eG X f (fun x y H Q=>r x y H Q∨r' x y H Q):=by
 intro pins s σ H x y v u Q I rx ry q;rcases q with q|q
 ·exact h pins s σ H x y v u Q I rx ry q
 ·exact h' pins s σ H x y v u Q I rx ry q
theorem Pg(ho:eG X (compareOp op) r)(ha:PE X a ta)(hb:PE X b tb)(hm:behindInMarks op b=false):PE X (.Compare a [op] [b] pos) (DA r ta tb):=by
 intro pins s σ H Q I h;exact wpAny_Compare1 (Wh ha hb I h fun v u s2 x y H2 I2 rx ry q=>ho pins s2 σ H2 x y v u Q I2 rx ry q) hm
def DH(t:TE):TT:=fun σ H Q=>t σ H fun x H'=>∃k,x=.bl k∧Q k H'
theorem Ph(ho:eG X (compareOp op) r)(ha:PE X a ta)(hb:PE X b tb)(hm:behindInMarks op b=false):PT X (.Compare a [op] [b] pos) (DH (DA r ta tb)):=by
 intro pins s σ H Q I h;refine wpAny_isTrue_Compare1 (thn (ha pins s σ H _ I h) fun v s1 ⟨x,H1,I1,r1,q1⟩=>thn (hb pins s1 σ H1 _ I1 q1) fun u s2 ⟨y,H2,I2,r2,q2⟩=>
  thn (ho pins s2 σ H2 x y v u _ I2 r1 r2 q2) fun c s3 ⟨z,H3,I3,r3,k,e,q3⟩=>?_) hm
 subst e;cases r3;exact U30 ⟨H3,I3,q3⟩
def Wq(K:Fg9)(x:V)(H:Hp)(k:Bool):Prop:=
 match x with
 |.non=>k=false
 |.bl b=>k=b
 |.int i=>k=(i != 0)
 |.str y=>y.length≤sizeLine∧k=((y.length:Int) != 0)
 |.byt y=>y.size≤sizeLine∧k=((y.size:Int) != 0)
 |.ref p=>(∃xs,fE K H p xs∧k=!xs.isEmpty)∨(∃xs,gR K H p xs∧k=!xs.isEmpty)∨∃kvs,H p=some (.dK kvs)∧k=!kvs.isEmpty
 |_=>False
theorem zD{κ:Type}{kvs:List (κ×V)}{vs:List (κ×Value)}(r:KV kvs vs):(!vs.isEmpty)=!kvs.isEmpty:=by
 cases r<;>rfl
theorem pZ{xs:List V}{its:List Value}(r:Vals xs its):(!its.toArray.isEmpty)=!xs.isEmpty:=by
 cases r<;>simp
theorem line63:(sizeLine:Nat)<2^63:=by rw[Y12];decide
theorem Wr:IC X (fun x H Q=>∃k,Wq X.K x H k∧Q k H):=by
 intro pins s σ H x v Q I rx h;obtain⟨k,e,q⟩:=h;have hl:=line63;have hs:sizeLine=16777216:=Y12;cases x with
 |non=>
  cases rx;have e':k=false:=e;subst e';exact truthy_none ⟨H,I,q⟩
 |bl b=>
  cases rx;have e':k=b:=e;subst e';exact U30 ⟨H,I,q⟩
 |int i=>
  obtain⟨t,rfl⟩:=rx;have e':k=(i != 0):=e;subst e';exact PySem.P.truthy_int ⟨H,I,q⟩
 |str y=>
  obtain⟨t,rfl⟩:=rx;obtain⟨hy,e'⟩:y.length≤sizeLine∧k=((y.length:Int) != 0):=e;subst e';exact PySem.P.truthy_str (by lia) ⟨H,I.tok _,q⟩
 |byt y=>
  obtain⟨t,rfl⟩:=rx;obtain⟨hy,e'⟩:y.size≤sizeLine∧k=((y.size:Int) != 0):=e;subst e';exact PySem.W.truthy_bytes (by lia) ⟨H,I.tok _,q⟩
 |ref p=>
  cases rx;have e':(∃xs,fE X.K H p xs∧k=!xs.isEmpty)∨(∃xs,gR X.K H p xs∧k=!xs.isEmpty)∨∃kvs,H p=some (.dK kvs)∧k=!kvs.isEmpty:=e;rcases e' with⟨xs,hx,e'⟩|⟨xs,hx,e'⟩|⟨kvs,hx,e'⟩
  ·subst e';obtain⟨its,r,pl,hz⟩:=I.list hx;have hlen:=r.length;exact wpAny_truthy_list pl.isList (by simp only[V11];lia) ⟨H,I.tok _,by rw[pZ r];exact q⟩
  ·subst e';obtain⟨its,r,pl,hz⟩:=I.tuple hx;have hlen:=r.length;exact truthy_tuple pl (by simp only[V11];lia) ⟨H,I.tok _,by rw[pZ r];exact q⟩
  ·subst e';obtain⟨hz,hS,vs,r,m⟩:kvs.length≤sizeLine∧(p==sysModules)=false∧∃vs,KV kvs vs∧s.heap.DictOf (bE X.prog X.w) p vs:=I.hok p _ hx;have hlen:kvs.length=vs.length:=Paired.length r;exact wpAny_truthy_dict hS m (by lia) ⟨H,I.tok _,by rw[zD r];exact q⟩
 |_=>exact(show False from e).elim
theorem Hw(ha:PE X a ta)(he:∀whole,isTrue a X.env whole=(do let v ←whole;standAt a.pos;holding [v] (truthy v))):
  PT X a (fun σ H Q=>ta σ H fun x H'=>∃k,Wq X.K x H' k∧Q k H'):=by
 intro pins s σ H Q I h;exact isTrue_plain (thn (ha pins s σ H _ I h) fun v s1 ⟨x,H1,I1,r1,q1⟩=>Wr pins s1 σ H1 x v Q I1 r1 q1) (he _)
theorem zE:eG X (binaryOp .Add) (fun x y H Q=>∃i j,x=.str i∧y=.str j∧i.length+j.length≤sizeLine∧Q (.str (i++j)) H):=by
 intro pins s σ H x y v u Q I rx ry h;obtain⟨i,j,rfl,rfl,hz,q⟩:=h;obtain⟨t,rfl⟩:=rx;obtain⟨t',rfl⟩:=ry;exact add_str (fun t' tk=>⟨.str (i++j),H,I.tok _,⟨_,rfl⟩,q⟩) hz
theorem wY:eG X (inplaceOp .Add) (fun x y H Q=>∃i j,x=.str i∧y=.str j∧i.length+j.length≤sizeLine∧Q (.str (i++j)) H):=by
 intro pins s σ H x y v u Q I rx ry h;obtain⟨i,j,rfl,rfl,hz,q⟩:=h;obtain⟨t,rfl⟩:=rx;obtain⟨t',rfl⟩:=ry;exact iadd_str (fun t' tk=>⟨.str (i++j),H,I.tok _,⟨_,rfl⟩,q⟩) hz
theorem vals1{x:V}(r:Vals [x] us):∃u,us=[u]∧RelV x u:=by
 cases r with
 |cons r1 r2=>cases r2;exact⟨_,rfl,r1⟩
theorem vals2{x y:V}(r:Vals [x,y] us):∃u w',us=[u,w']∧RelV x u∧RelV y w':=by
 cases r with
 |cons r1 r2=>
  cases r2 with
  |cons r3 r4=>cases r4;exact⟨_,_,rfl,r1,r3⟩
theorem Eo:dB X (.type "int") (fun xs H Q=>(∃i,xs=[.int i]∧Q (.int i) H)∨∃k,xs=[.bl k]∧Q (.int (if k then 1 else 0)) H):=by
 intro pins s σ H xs us Q I r h;rcases h with⟨i,rfl,q⟩|⟨k,rfl,q⟩
 ·obtain⟨u,rfl,t,rfl⟩:=vals1 r;exact call_int_int ⟨.int i,H,I,⟨_,rfl⟩,q⟩
 ·obtain⟨u,rfl,r1⟩:=vals1 r;cases r1;exact call_int_bool ⟨.int (if k then 1 else 0),H,I.tok _,⟨_,rfl⟩,q⟩
def DI(K:Fg9)(x:V)(H:Hp)(n:Nat):Prop:=
 match x with
 |.str y=>y.length≤sizeLine∧n=y.length
 |.byt y=>y.size≤sizeLine∧n=y.size
 |.ref p=>(∃xs,fE K H p xs∧n=xs.length)∨∃xs,gR K H p xs∧n=xs.length
 |_=>False
theorem Hx:dB X (.builtin "len") (fun xs H Q=>∃x n,xs=[x]∧DI X.K x H n∧Q (.int n) H):=by
 intro pins s σ H xs us Q I r h;obtain⟨x,n,rfl,e,q⟩:=h;obtain⟨u,rfl,rx⟩:=vals1 r;have hl:=line63;have hs:sizeLine=16777216:=Y12;cases x with
 |str y=>
  obtain⟨t,rfl⟩:=rx;obtain⟨hy,e'⟩:y.length≤sizeLine∧n=y.length:=e;subst e';exact len_str (by lia) ⟨.int _,H,I.tok _,⟨_,rfl⟩,q⟩
 |byt y=>
  obtain⟨t,rfl⟩:=rx;obtain⟨hy,e'⟩:y.size≤sizeLine∧n=y.size:=e;subst e';exact PySem.W.len_bytes (by lia) ⟨.int _,H,I.tok _,⟨_,rfl⟩,q⟩
 |ref p=>
  cases rx;have e':(∃xs,fE X.K H p xs∧n=xs.length)∨∃xs,gR X.K H p xs∧n=xs.length:=e;rcases e' with⟨xs,hx,e'⟩|⟨xs,hx,e'⟩
  ·subst e';obtain⟨its,r',pl,hz⟩:=I.list hx;have hlen:=r'.length;exact Calls.call_len_list pl.isList (by simp only[V11];lia) ⟨.int xs.length,H,I.tok _,⟨_,by simp only[V11];rw[hlen]⟩,q⟩
  ·subst e';obtain⟨its,r',pl,hz⟩:=I.tuple hx;have hlen:=r'.length;exact len_tuple pl (by simp only[V11];lia) ⟨.int xs.length,H,I.tok _,⟨_,by simp only[V11];rw[hlen]⟩,q⟩
 |_=>exact(show False from e).elim
end
structure ObjM (h:Heap) (x dx C:Addr) (mA:Str→Option Value):Prop where
 obj:h.get? x=some (PySem.W.instObj C dx)
 ns:h.Ns1 dx mA
 ne:dx≠x
theorem Ep{h:Heap}{dx:Addr}{mA:Str→Option Value}(n:h.Ns1 dx mA):∃od,h.get? dx=some od∧∀name,PySem.W.lookIn name od=some (mA name):=by
 obtain⟨o,es,ep,ho,hd,hk,_,hm⟩:=n;refine⟨o,ho,fun name=>?_⟩;have e:=hm name;unfold nsFind findBy at e;rw[←Array.find?_toList]at e;unfold PySem.W.lookIn;rw[hd];dsimp only
 split
 ·rename_i y q;rw[q]at e;exact congrArg some e
 ·rename_i q;rw[q]at e;have a:es.toList.any (·.refKey)=false:=by
   rw[List.any_eq_false];intro y hy;obtain⟨z,t,hkey⟩:=hk y (Array.mem_toList_iff.mp hy);simp[DictEntry.refKey,hkey]
  have a':¬ es.toList.any (·.refKey)=true:=by rw[a];exact W16
  rw[if_neg a'];exact congrArg some e
theorem ObjM.look{h:Heap}{x dx C:Addr}{mA:Str→Option Value}(I:ObjM h x dx C mA):∃od,PySem.W.InstAt h x (PySem.W.instObj C dx) C (some od)∧∀name,PySem.W.lookIn name od=some (mA name):=
 let ⟨od,ho,hl⟩:=Ep I.ns
 ⟨od,⟨I.obj,rfl,rfl,ho⟩,hl⟩
section
variable{prog:Program}{w:World}{A:Around}{E:Value→Shared→Prop}{s:Shared}{K:Fg9}{x dx C f:Addr}{mA:Str→Option Value}{name:Str}{v:Value}
theorem get_map{expr:Bool}{Q:Value→Shared→Prop}(X:K.In s.heap)(I:ObjM s.heap x dx C mA)(hg:PySem.W.plainGet K C name=true)(hh:PySem.W.hasDictIn K C=true)
  (ha:PySem.W.findIn K (.ref C) name=some none)(hv:mA name=some v)(hv':PySem.W.handedIn v=true)(h:Q v { s with toks:=s.toks+1 }):
  wpAny (model prog w) A (getAttr (.ref x) name expr) Q E s:=by
 obtain⟨od,J,hl⟩:=I.look;exact PySem.W.get_value X J (PySem.W.plainGet_of hg).1 (PySem.W.findObj_own hh ha rfl (by rw[hl,hv])) hv' h
theorem Hy{pl:Sem Bool}{Q:Value×List Value→Shared→Prop}(X:K.In s.heap)(I:ObjM s.heap x dx C mA)(hg:PySem.W.plainGet K C name=true)
  (hf:PySem.W.findIn K (.ref C) name=some (some (.ref f)))(ht:PySem.W.isFn K (.ref f)=true)(hv:mA name=none)(h:Q (.ref f,[.ref x]) s):
  wpAny (model prog w) A (getMethod (.ref x) name pl) Q E s:=by
 obtain⟨od,J,hl⟩:=I.look;exact PySem.W.method_fn X J (PySem.W.plainGet_of hg).1 (PySem.W.plainGet_of hg).2 hf (W40.mp ht) (by show(PySem.W.lookIn name od).map (·.isSome)=some false;rw[hl,hv];rfl) h
theorem Pj{ns:List Str}{Q:Unit→Shared→Prop}(X:K.In s.heap)(I:ObjM s.heap x dx C mA)
  (hs:PySem.W.findIn K (.ref C) "__setattr__"=some (some (.builtin "object.__setattr__")))(hp:PySem.W.plainOver K C=true)(ht:PySem.W.takerIn K C name=some none)(hh:PySem.W.hasDictIn K C=true)
  (hw:PySem.Within mA ns)(hsz:ns.length≤sizeLine)
  (h:∀h',ObjM h' x dx C (fun y=>if y=name then some v else mA y)→Heap.SameBut dx s.heap h'→Q () { s with heap:=h',toks:=s.toks+2 }):
  wpAny (model prog w) A (setAttr (.ref x) name v) Q E s:=by
 obtain⟨od,J,hl⟩:=I.look;refine PySem.W.set_plain X J hs (PySem.W.osa_open (s:={ s with toks:=s.toks+1 }) (r:=none) X J hp ht fun b=>?_);obtain⟨cd,hc,hd'⟩:=PySem.W.any_some hh;have hx:s.heap.get? x=some ⟨.ref C,some dx,.plain,#[]⟩:=I.obj;refine Y10 (Z10 (Y10 (Y10 (wpAny_loadPart hx (Y10 (PySem.W.Looks.here (s:={ s with toks:=s.toks+1 }) (PySem.W.looks_clsIn X hc) ?_))))));rw[hd'];refine Z10 (a:=some dx) (Y10 (Z10 (Y10 ?_)));refine wpAny_nsSet1 (s:={ s with toks:=s.toks+1 }) I.ns fun h' hn2 hs2=>?_;obtain⟨oD,esD,epD,hoD,hdD,hcD⟩:=hn2.count (PySem.Within.cons name v hw);refine Y10 (wpAny_lookBehind hoD (by rw[hdD];exact pastItsLine_dict (Y14 hcD (by rw[Z14];lia))) ?_);exact Z10 (h _ ⟨(hs2.2 _ (Ne.symm I.ne)).trans I.obj,hn2,I.ne⟩ hs2)
theorem Hz{R:Result→Shared→Prop}{vs:List Value}(X:K.In s.heap)(hm:PySem.W.makesIn K C=true)
  (hi:PySem.W.findIn K (.ref C) "__init__"=some (some (.ref f)))(hf:PySem.W.typeIn K (.ref f)=some (.type "function"))
  (h:codeAny (model prog w) (A.under (.builtin "type.__call__" ⟨.ref C::vs,kw⟩)) (.call (.ref f) ⟨.ref (s.heap.objs.size+1)::vs,kw⟩) (PySem.W.InitBack (s.heap.objs.size+1) R)
   { s with heap:=(s.heap.push PySem.W.emptyDict).push (PySem.W.instObj C s.heap.objs.size) }):
  codeAny (model prog w) A (.call (.ref C) ⟨vs,kw⟩) R s:=by
 obtain⟨hh,g,d,t,os⟩:=s;exact PySem.W.make_core (PySem.W.makes_of X hm) (PySem.W.looks_findIn X hi) (fun self=>PySem.W.bind_fn X self hf) (.inl rfl) h
end
def gL(f:Str)(v:V):List (Str×V)→List (Str×V)
 |[]=>[(f,v)]
 |(g,x)::r=>if g=f then(g,v)::r else(g,x)::gL f v r
theorem oJ(f g:Str)(v:V):∀fs:List (Str×V),(gL f v fs).lookup g=if g=f then some v else fs.lookup g
 |[]=>by
  show List.lookup g [(f,v)]=_
  by_cases h:g=f
  ·have hb:(g==f)=true:=W40.mpr h;simp only[List.lookup,hb,if_pos h]
  ·have hb:(g==f)=false:=V28.mpr h;simp only[List.lookup,hb,if_neg h]
 |(k,x)::r=>by
  have ih:=oJ f g v r;rw[show gL f v ((k,x)::r)=(if k=f then(k,v)::r else(k,x)::gL f v r) from rfl]
  by_cases hk:k=f
  ·rw[if_pos hk]
   by_cases h:g=k
   ·have hb:(g==k)=true:=W40.mpr h;simp only[List.lookup,hb,if_pos (h.trans hk)]
   ·have hb:(g==k)=false:=V28.mpr h;simp only[List.lookup,hb,if_neg (fun e:g=f=>h (e.trans hk.symm))]
  ·rw[if_neg hk]
   by_cases h:g=k
   ·have hb:(g==k)=true:=W40.mpr h;simp only[List.lookup,hb,if_neg (fun e:g=f=>hk (h.symm.trans e))]
   ·have hb:(g==k)=false:=V28.mpr h;simp only[List.lookup,hb];exact ih
theorem nB(f:Str)(v:V):∀fs:List (Str×V),f∈(gL f v fs).map (·.1)∧∀g,g∈fs.map (·.1)→g∈(gL f v fs).map (·.1)
 |[]=>⟨by simp[gL],fun g h=>by simp at h⟩
 |(k,x)::r=>by
  obtain⟨i1,i2⟩:=nB f v r;rw[show gL f v ((k,x)::r)=(if k=f then(k,v)::r else(k,x)::gL f v r) from rfl]
  by_cases hk:k=f
  ·rw[if_pos hk];subst hk;exact⟨by simp,fun g h=>by simpa using h⟩
  ·rw[if_neg hk];refine⟨?_,fun g h=>?_⟩
   ·rw[Z12];exact U11 _ i1
   ·rw[Z12]at h⊢;rcases Z13.mp h with e|e
    ·exact Z13.mpr (.inl e)
    ·exact U11 _ (i2 g e)
theorem oK(f:Str)(v:V):∀fs:List (Str×V),(gL f v fs).length≤fs.length+1
 |[]=>by simp[gL]
 |(k,x)::r=>by
  have ih:=oK f v r;rw[show gL f v ((k,x)::r)=(if k=f then(k,v)::r else(k,x)::gL f v r) from rfl]
  by_cases hk:k=f
  ·rw[if_pos hk,Z14,Z14];lia
  ·rw[if_neg hk,Z14,Z14];lia
theorem jZ.some_of{v:V}{o:Option Value}(r:jZ (some v) o):∃u,o=some u∧RelV v u:=by
 cases o with
 |none=>exact(show False from r).elim
 |some u=>exact⟨u,rfl,r⟩
theorem jZ.none_of{o:Option Value}(r:jZ none o):o=none:=by
 cases o with
 |none=>rfl
 |some u=>exact(show False from r).elim
theorem Er{v:V}{u:Value}(r:RelV v u):PySem.W.handedIn u=true:=by
 cases v with
 |non=>cases (show u=Value.none from r);rfl
 |bl b=>cases (show u=Value.bool b from r);rfl
 |int i=>obtain⟨t,e⟩:=(show ∃t,u=Value.int i t from r);cases e;rfl
 |str x=>obtain⟨t,e⟩:=(show ∃t,u=Value.str x t from r);cases e;rfl
 |byt b=>obtain⟨t,e⟩:=(show ∃t,u=Value.bytes b t from r);cases e;rfl
 |flt b=>obtain⟨t,e⟩:=(show ∃t,u=Value.float b t from r);cases e;rfl
 |ref a=>cases (show u=Value.ref a from r);rfl
 |ty n=>cases (show u=Value.type n from r);rfl
section
variable{P:Program}{w:World}{H H':Hp}{h h':Heap}{a C dx:Addr}{fs fs':List (Str×V)}
theorem pF(hok:HOk P w H h)(e:H a=some (.ins C dx fs)):∃mA,ObjM h a dx C mA∧(∀f,jZ (fs.lookup f) (mA f))∧PySem.Within mA (fs.map (·.1))∧fs.length≤1000∧H dx=some (.own a):=by
 obtain⟨d,z,ne,ob,mA,n,r,q⟩:=(show cK P w H h a (.ins C dx fs) from hok a _ e);exact⟨mA,⟨ob,n,ne⟩,r,q,z,d⟩
end
structure Cls (K:Fg9) (C:Addr):Prop where
 pg:PySem.W.plainGet K C Str.empty=true
 hd:PySem.W.hasDictIn K C=true
 po:PySem.W.plainOver K C=true
 sa:PySem.W.findIn K (.ref C) "__setattr__"=some (some (.builtin "object.__setattr__"))
theorem Cls.get{K:Fg9}{C:Addr}(c:Cls K C)(f:Str):PySem.W.plainGet K C f=true:=c.pg
def fI(K:Fg9)(C:Addr)(f:Str):Prop:=PySem.W.findIn K (.ref C) f=some none
theorem fI.taker{K:Fg9}{C:Addr}{f:Str}(n:fI K C f):PySem.W.takerIn K C f=some none:=by
 unfold PySem.W.takerIn;rw[show PySem.W.findIn K (.ref C) f=some none from n]
 rfl
structure Meth (K:Fg9) (C:Addr) (m:Str) (f:Addr):Prop where
 at_:PySem.W.findIn K (.ref C) m=some (some (.ref f))
 fn:PySem.W.isFn K (.ref f)=true
 kp:PySem.W.keepIn K (.ref f)=true
section
variable {Q:Value→Shared→Prop}
variable{X:Cx}{pins:List (Addr×Obj)}{σ:St}{H:Hp}{s:Shared}{a C dx:Addr}{fs:List (Str×V)}{f:Str}{v:V}{A:Around}{E:Value→Shared→Prop}
theorem qA{b:Bool}(I:Inv X pins σ H s)(e:H a=some (.ins C dx fs))(c:Cls X.K C)(n:fI X.K C f)(l:fs.lookup f=some v)
  (h:∀u s',Inv X pins σ H s'→RelV v u→Q u s'):wpAny (model X.prog X.w) A (getAttr (.ref a) f b) Q E s:=by
 obtain⟨mA,O,r,_,_,_⟩:=pF I.hok e;obtain⟨u,hu,ru⟩:=jZ.some_of (v:=v) (o:=mA f) (by rw[←l];exact r f);exact get_map I.kIn O (c.get f) c.hd n hu (Er ru) (h u _ (I.tok _) ru)
theorem qB{m:Str}{g:Addr}{pl:Sem Bool}{Q:Value×List Value→Shared→Prop}(I:Inv X pins σ H s)(e:H a=some (.ins C dx fs))(c:Cls X.K C)(k:Meth X.K C m g)(l:fs.lookup m=none)
  (h:Q (.ref g,[.ref a]) s):wpAny (model X.prog X.w) A (getMethod (.ref a) m pl) Q E s:=by
 obtain⟨mA,O,r,_,_,_⟩:=pF I.hok e;have hn:mA m=none:=jZ.none_of (by rw[←l];exact r m);exact Hy I.kIn O (c.get m) k.at_ k.fn hn h
theorem qC{y:V}{u:Value}{Q:Unit→Shared→Prop}(I:Inv X pins σ H s)(e:H a=some (.ins C dx fs))(c:Cls X.K C)(n:fI X.K C f)(hl:fs.length<1000)(ry:RelV y u)
  (h:∀s',Inv X pins σ (upd H a (.ins C dx (gL f y fs))) s'→Q () s'):wpAny (model X.prog X.w) A (setAttr (.ref a) f u) Q E s:=by
 obtain⟨mA,O,r,wi,_,ho⟩:=pF I.hok e;have hz:(fs.map (·.1)).length≤sizeLine:=by rw[U12,Y12];lia
 refine Pj I.kIn O c.sa c.po n.taker c.hd wi hz fun h' O' sb=>h _ ?_;have hd:∃o,h'.get? dx=some o:=let ⟨o,_,_,e',_⟩:=O'.ns;⟨o,e'⟩;refine I.write (x:=a) (e:=dx) (by rw[e];exact True.intro) (.inr ho) (fun b q hb z=>(sb.2 b hb).trans z) hd ?_;refine⟨by rw[aQ O.ne];exact ho,?_,O.ne,O'.obj,_,O'.ns,fun g=>?_,fun g hg=>?_⟩
 ·have:=oK f y fs;lia
 ·show jZ ((gL f y fs).lookup g) (if g=f then some u else mA g);rw[oJ]
  by_cases q:g=f
  ·rw[if_pos q,if_pos q];exact ry
  ·rw[if_neg q,if_neg q];exact r g
 ·by_cases q:g=f
  ·rw[q];exact(nB f y fs).1
  ·refine(nB f y fs).2 g (wi g fun z=>hg ?_);show(if g=f then some u else mA g)=none;rw[if_neg q];exact z
theorem Inv.made(I:Inv X pins σ H s):Inv X pins σ (upd (upd H s.heap.objs.size (.own (s.heap.objs.size+1))) (s.heap.objs.size+1) (.ins C s.heap.objs.size []))
  { s with heap:=(s.heap.push PySem.W.emptyDict).push (PySem.W.instObj C s.heap.objs.size) }:=by
 have e1:(s.heap.push PySem.W.emptyDict).get? s.heap.objs.size=some PySem.W.emptyDict:=Z11 s.heap rfl;have e2:((s.heap.push PySem.W.emptyDict).push (PySem.W.instObj C s.heap.objs.size)).get? (s.heap.objs.size+1)=some (PySem.W.instObj C s.heap.objs.size):=by
  have:=Z11 (s.heap.push PySem.W.emptyDict) (o:=PySem.W.instObj C s.heap.objs.size) rfl
  rwa [V20]at this
 have e3:(s.heap.push PySem.W.emptyDict).Ns s.heap.objs.size (fun _=>none):=⟨PySem.W.emptyDict,#[],_,e1,rfl,(fun e he=>absurd he (by simp)),fun _=>rfl⟩;have I1:=I.laid (a:=s.heap.objs.size) (o:=.own (s.heap.objs.size+1)) (h':=s.heap.push PySem.W.emptyDict) (t':=s.toks) (fun b u q=>V10 _ q) (W11 _) ⟨_,e1⟩;refine I1.laid (a:=s.heap.objs.size+1) (o:=.ins C s.heap.objs.size []) (t':=s.toks) (fun b u q=>V10 _ q) (W44 (V20 _ _)) ?_;have ne:s.heap.objs.size≠s.heap.objs.size+1:=U14 (W42 _);refine⟨by rw[aQ ne,bO],V24 _,ne,e2,fun _=>none,(Heap.Ns1.of_empty e3).at fun o q=>V10 _ q,fun _=>True.intro,fun y hy=>absurd rfl hy⟩
theorem Pk{prog:Program}{w:World}{env:Env}{e:Expr}{pos:Pos}(hb:attributeBase e f env (eval e env)=eval e env)
  (h:wpAny (model prog w) A (eval e env) (fun o s₁=>wpAny (model prog w) A (getAttr o f true) Q E s₁) E s):wpAny (model prog w) A (eval (.Attribute e f pos) env) Q E s:=
 Attribute_any_ h (by rw[arm_eval_Attribute,hb])
end
def ID(K:Fg9)(ta:TE)(f:Str):TE:=fun σ H Q=>ta σ H fun x H1=>∃a C dx fs v,x=.ref a∧H1 a=some (.ins C dx fs)∧Cls K C∧fI K C f∧fs.lookup f=some v∧Q v H1
def IE(K:Fg9)(ta tv:TE)(f:Str):TS:=fun D σ H=>tv σ H fun y H1=>ta σ H1 fun x H2=>∃a C dx fs,x=.ref a∧H2 a=some (.ins C dx fs)∧Cls K C∧fI K C f∧fs.length<1000∧
 D.nx σ (upd H2 a (.ins C dx (gL f y fs)))
def IF(X:Cx)(op:Operator)(rd:V→V→Hp→VK→Prop):Prop:=
 ∀(pins:List (Addr×Obj)) (s:Shared) (σ:St) (H:Hp) (x y:V) (u v:Value) (Q:VK),Inv X pins σ H s→RelV x u→RelV y v→rd x y H Q→wpAny (model X.prog X.w) X.A (inplaceOp op u v) (EP X pins σ Q) X.xe s
def Pl(K:Fg9)(ta tv:TE)(rd:V→V→Hp→VK→Prop)(f:Str):TS:=fun D σ H=>ta σ H fun x H1=>∃a C dx fs v,x=.ref a∧H1 a=some (.ins C dx fs)∧Cls K C∧fI K C f∧fs.lookup f=some v∧
 tv σ H1 fun y H2=>rd v y H2 fun z H3=>∃dx' fs',H3 a=some (.ins C dx' fs')∧fs'.length<1000∧D.nx σ (upd H3 a (.ins C dx' (gL f z fs')))
section
variable{X:Cx}{o e value:Expr}{f:Str}{pos pos' tpos:Pos}{ta tv:TE}
theorem Ws(he:PE X e ta)(hb:attributeBase e f X.env (eval e X.env)=eval e X.env):PE X (.Attribute e f pos) (ID X.K ta f):=by
 intro pins s σ H Q I h;refine Pk hb (thn (he pins s σ H _ I h) fun u s1 ⟨x,H1,I1,rx,a,C,dx,fs,v,ex,ea,c,n,l,q⟩=>?_);subst ex;obtain rfl:u=Value.ref a:=rx;exact qA I1 ea c n l fun u' s2 I2 ru=>⟨v,H1,I2,ru,q⟩
theorem Wt(ha:PE X o ta)(hv:PE X value tv)(hs:swapsWith value (some (.Attribute o f pos')) pos.line X.env=pure false):PS X (.Assign [.Attribute o f pos'] value pos) (IE X.K ta tv f):=by
 intro pins s σ H D I h;refine plainObj_wpAny_Assign_Attribute (thn (hv pins s σ H _ I h) fun u s1 ⟨y,H1,I1,ry,q⟩=>thn (ha pins s1 σ H1 _ I1 q) fun ov s2 ⟨x,H2,I2,rx,a,C,dx,fs,ex,ea,c,n,l,q2⟩=>?_) hs;subst ex;obtain rfl:ov=Value.ref a:=rx;exact qC I2 ea c n l ry fun s3 I3=>⟨σ,_,I3,q2⟩
theorem Es{op:Operator}{rd:V→V→Hp→VK→Prop}(ha:PE X o ta)(hv:PE X value tv)(hop:IF X op rd):PS X (.AugAssign (.Attribute o f tpos) op value pos) (Pl X.K ta tv rd f):=by
 intro pins s σ H D I h;refine wpAny_AugAssign_AttributeAny (thn (ha pins s σ H _ I h) fun ov s1 ⟨x,H1,I1,rx,a,C,dx,fs,v,ex,ea,c,n,l,q⟩=>?_);subst ex;obtain rfl:ov=Value.ref a:=rx;refine qA I1 ea c n l fun u s2 I2 ru=>thn (hv pins s2 σ H1 _ I2 q) fun w3 s3 ⟨y,H2,I3,ry,q3⟩=>thn (hop pins s3 σ H2 v y u w3 _ I3 ru ry q3) fun w4 s4 ⟨z,H3,I4,rz,dx',fs',ea',l',q4⟩=>?_;exact qC I4 ea' c n l' rz fun s5 I5=>⟨σ,_,I5,q4⟩
end
section
variable{X:Cx}{pins:List (Addr×Obj)}{σ:St}{H:Hp}{s:Shared}{A:Around}{E:Value→Shared→Prop}{Q:Value→Shared→Prop}{c:Value}{b:Bool}
inductive TyOf (K:Fg9) (H:Hp):V→Value→Prop where
 |non:TyOf K H .non (.type "NoneType")
 |bl (x:Bool):TyOf K H (.bl x) (.type "bool")
 |int (i:Int):TyOf K H (.int i) (.type "int")
 |str (x:Str):TyOf K H (.str x) (.type "str")
 |flt (x:UInt64):TyOf K H (.flt x) (.type "float")
 |lst {a:Addr} {xs:List V} (e:H a=some (.lst xs)):TyOf K H (.ref a) (.type "list")
 |frz {a:Addr} {o:Obj} {xs:List V} (e:H a=some (.frz o (.lst xs))):TyOf K H (.ref a) (.type "list")
 |tup {a:Addr} {xs:List V} (e:H a=some (.tup xs)):TyOf K H (.ref a) (.type "tuple")
 |dK {a:Addr} {kvs:List (Key×V)} (e:H a=some (.dK kvs)):TyOf K H (.ref a) (.type "dict")
 |dT {a:Addr} {kvs:List (List Key×V)} (e:H a=some (.dT kvs)):TyOf K H (.ref a) (.type "dict")
 |ins {a C dx:Addr} {fs:List (Str×V)} (e:H a=some (.ins C dx fs)) (cl:Cls K C) (ha:PySem.W.findIn K (.ref C) "__class__"=some (some (.builtin "object.__class__")))
   (hn:PySem.W.specialIn K (.builtin "object.__class__") "__get__"=some (some (.builtin "getset_descriptor.__get__"))) (htk:PySem.W.takesIn K (.builtin "object.__class__")=some true)
   (hm:PySem.W.mroIn K C (.type "object")=some true):TyOf K H (.ref a) (.ref C)
theorem Et{x:V}{u t:Value}(I:Inv X pins σ H s)(rx:RelV x u)(ty:TyOf X.K H x t)(e:PySem.W.kitOne X.K t c=some b)(h:∀tk,Q (.bool b) { s with toks:=tk }):
  wpAny (model X.prog X.w) A (call (.builtin "isinstance") [u,c]) Q E s:=by
 cases ty with
 |non=>cases (show u=Value.none from rx);exact U23 PySem.W.kitx_none I.kIn True.intro e (fun z=>nomatch z) h
 |bl y=>cases (show u=Value.bool y from rx);exact U23 PySem.W.kitx_bool I.kIn True.intro e (fun z=>nomatch z) h
 |int i=>obtain⟨t,q⟩:=(show ∃t,u=Value.int i t from rx);cases q;exact U23 PySem.W.kitx_int I.kIn True.intro e (fun z=>nomatch z) h
 |str y=>obtain⟨t,q⟩:=(show ∃t,u=Value.str y t from rx);cases q;exact U23 PySem.W.kitx_str I.kIn True.intro e (fun z=>nomatch z) h
 |flt y=>obtain⟨t,q⟩:=(show ∃t,u=Value.float y t from rx);cases q;exact U23 PySem.W.kitx_float I.kIn True.intro e (fun z=>nomatch z) h
 |@lst a xs ea=>
  cases (show u=Value.ref a from rx);obtain⟨_,_,n,_,h1⟩:=(show cK X.prog X.w H s.heap a (.lst xs) from I.hok a _ ea);exact U23 PySem.W.kitx_list I.kIn ⟨_,h1,rfl⟩ e (fun z=>nomatch z) h
 |@frz a ob xs ea=>
  cases (show u=Value.ref a from rx);obtain⟨_,_,_,n,_,h1⟩:=(show cK X.prog X.w H s.heap a (.frz ob (.lst xs)) from I.hok a _ ea);exact U23 PySem.W.kitx_list I.kIn ⟨_,h1,rfl⟩ e (fun z=>nomatch z) h
 |@tup a xs ea=>
  cases (show u=Value.ref a from rx);obtain⟨_,_,_,p⟩:=(show cK X.prog X.w H s.heap a (.tup xs) from I.hok a _ ea);obtain⟨o,h1,h2,_⟩:=p;exact U23 PySem.W.kitx_tuple I.kIn ⟨o,h1,h2⟩ e (fun z=>nomatch z) h
 |@dK a kvs ea=>
  cases (show u=Value.ref a from rx);obtain⟨_,_,vs,_,p⟩:=(show cK X.prog X.w H s.heap a (.dK kvs) from I.hok a _ ea);obtain⟨o,es,ep,h1,h2,_⟩:=p;exact U23 PySem.W.kitx_dict I.kIn ⟨o,h1,h2.1⟩ e (fun z=>nomatch z) h
 |@dT a kvs ea=>
  cases (show u=Value.ref a from rx);obtain⟨_,_,xs,_,o,es,ep,h1,h2,_⟩:=(show cK X.prog X.w H s.heap a (.dT kvs) from I.hok a _ ea);exact U23 PySem.W.kitx_dict I.kIn ⟨o,h1,h2.1⟩ e (fun z=>nomatch z) h
 |@ins a C dx fs ea cl ha hn htk hm=>
  cases (show u=Value.ref a from rx);obtain⟨mA,O,_⟩:=pF I.hok ea;obtain⟨od,J,_⟩:=O.look;exact U23 (PySem.W.kitx_own (cl.get _) cl.hd ha hn htk hm) I.kIn J e (fun z=>nomatch z) h
end
structure Room (k:Nat) (A:Around):Prop where
 hd:A.handled=none
 dp:A.depth+3*k+5<recursionLimit
 un:A.units+16*k+1000<cLine
theorem Room.mono{j k:Nat}{A:Around}(r:Room k A)(h:j≤k):Room j A:=⟨r.hd,by have:=r.dp;lia,by have:=r.un;lia⟩
theorem Room.deeper{k:Nat}{A:Around}(r:Room (k+1) A)(env:Env):Room k (A.deeper env):=
 ⟨r.hd,by have:=r.dp;show A.depth+1+3*k+5 < _;lia,by have:=r.un;show A.units+3+16*k+1000 < _;lia⟩
theorem zF{A:Around}{C:Addr}{us:List Value}:(A.under (.builtin "type.__call__" ⟨.ref C::us,kw⟩)).depth=A.depth+1:=by
 first|rfl|simp[Around.under,Code.weight,Code.isCreation,Code.isGuard,Code.isCaller,Code.frames,Code.isFrame,guardIds]
theorem zG{A:Around}{C:Addr}{us:List Value}:(A.under (.builtin "type.__call__" ⟨.ref C::us,kw⟩)).units=A.units+1:=by
 first|rfl|simp[Around.under,Code.cUnits,Code.frames,Code.isFrame]
theorem Room.make{k:Nat}{A:Around}(r:Room (k+1) A)(C:Addr)(us:List Value)(kw:List (Str×Value)):Room k (A.under (.builtin "type.__call__" ⟨.ref C::us,kw⟩)):=
 ⟨r.hd,by have:=r.dp;rw[zF];lia,by have:=r.un;rw[zG];lia⟩
theorem Room.depth{k:Nat}{A:Around}(r:Room k A):A.depth<recursionLimit:=by have:=r.dp;lia
theorem Room.units{k:Nat}{A:Around}(r:Room k A):A.units+64<cLine:=by have:=r.un;lia
def Wu:TA:=fun _ H Q=>Q [] H
def DJ(ta:TE)(tr:TA):TA:=fun σ H Q=>ta σ H fun x H1=>tr σ H1 fun xs H2=>Q (x::xs) H2
section
variable{X:Cx}{e:Expr}{es:List Expr}{te:TE}{t:TA}{pos:Pos}
theorem Wv:PA X [] Wu:=fun _ _ _ _ H Q I h=>U40 ⟨[],H,I,.nil,h⟩
theorem Po(ha:PE X e te)(hr:PA X es t)(hs:starEach (e::es) X.env=(false,eval e X.env)::starEach es X.env:=by rfl):PA X (e::es) (DJ te t):=by
 intro pos pins s σ H Q I h;rw[hs];show wpAny _ _ (spliced ((false,eval e X.env)::backTo pos (starEach es X.env))) _ _ s;refine Z33 (thn (ha pins s σ H _ I h) fun u s1 ⟨x,H1,I1,r1,q1⟩=>?_);exact thn (hr pos pins s1 σ H1 _ I1 q1) fun us s2 ⟨xs,H2,I2,r2,q2⟩=>⟨x::xs,H2,I2,.cons r1 r2,q2⟩
def IG(t:TA):TE:=fun σ H Q=>t σ H fun xs H1=>xs.length≤sizeLine∧∀p,H1 p=none→Q (.ref p) (upd H1 p (.tup xs))
def IH(t:TA):TE:=fun σ H Q=>t σ H fun xs H1=>xs.length≤sizeLine∧∀p,H1 p=none→Q (.ref p) (upd H1 p (.lst xs))
theorem Ww{x1}(h:PA X es t):PE X (.Tuple es x1 pos) (IG t):=by
 intro pins s σ H Q I hq;refine wpAny_Tuple_spliced (thn (h pos pins s σ H _ I hq) fun us s1 ⟨xs,H1,I1,r,z,q⟩=>⟨by rw[←r.length];exact z,?_⟩);have hf:H1 s1.heap.objs.size=none:=I1.hok.fresh (W11 _);refine⟨.ref s1.heap.objs.size,upd H1 s1.heap.objs.size (.tup xs),I1.laid (t':=s1.toks) (fun b u e=>V10 _ e) (W11 _) ?_,rfl,q _ hf⟩;exact⟨z,us,r,⟨_,Z11 _ rfl,rfl,_,rfl⟩⟩
theorem Wx(h:PA X es t):PE X (.List es pos) (IH t):=by
 intro pins s σ H Q I hq;refine wpAny_List_spliced (thn (h pos pins s σ H _ I hq) fun us s1 ⟨xs,H1,I1,r,z,q⟩=>⟨by rw[←r.length];exact z,?_⟩);have hf:H1 s1.heap.objs.size=none:=I1.hok.fresh (W11 _);refine⟨.ref s1.heap.objs.size,upd H1 s1.heap.objs.size (.lst xs),I1.laid (t':=s1.toks) (fun b u e=>V10 _ e) (W11 _) ?_,rfl,q _ hf⟩;exact⟨z,us,0,r,Z11 _ rfl⟩
end
abbrev Sp:=List V→Hp→VK→XK→Prop
abbrev CXT:=List Env→Hp→Shared→XK→Value→Shared→Prop
structure Env0 (P:Program) (w:World) (K:Fg9) (mg:Str→Option Value) (base:Heap) (A:Around) (outer:List Env) (s:Shared) (H:Hp):Prop where
 frames:A.frames=some outer
 mod:Mod K mg base
 bs:∀b o,base.get? b=some o→s.heap.get? b=some o∧H b=none
 bsz:base.objs.size≤s.heap.objs.size
 funs:s.heap.FunFrames base outer
 frf:∀b∈frs outer,H b=none
 hok:HOk P w H s.heap
 bare:AllBare s.gens
def CE(outer:List Env)(P:Program)(w:World)(H:Hp)(s:Shared)(Q:VK)(u:Value)(s':Shared):Prop:=
 ∃v H',s'.os=s.os∧AllBare s'.gens∧Un (frs outer) [] H H' s.heap s'.heap∧HOk P w H' s'.heap∧RelV v u∧Q v H'
def CR(CX:CXT)(outer:List Env)(P:Program)(w:World)(H:Hp)(s:Shared)(Q:VK)(E:XK)(r:Result)(s':Shared):Prop:=
 match r with
 |.ok (.ret u)=>CE outer P w H s Q u s'
 |.ok _=>False
 |.error e=>CX outer H s E e s'
structure FnOk (P:Program) (w:World) (K:Fg9) (mg:Str→Option Value) (base:Heap) (CX:CXT) (k:Nat) (f:Addr) (fd:FuncData) (ps:List Str) (sp:Sp):Prop where
 len:∀vs H Q E,sp vs H Q E→vs.length=ps.length
 run:∀(A:Around) (outer:List Env) (s:Shared) (H:Hp) (args:Args) (us:List Value) (vs:List V) (Q:VK) (E:XK),Room k A→Env0 P w K mg base A outer s H→BindsTo s fd args (ps.zip us)→Vals vs us→sp vs H Q E→
  codeAny (model P w) A (.call (.ref f) args) (CR CX outer P w H s Q E) s
theorem FnOk.mono{P:Program}{w:World}{K:Fg9}{CX:CXT}{j k:Nat}{f:Addr}{fd:FuncData}{ps:List Str}{sp:Sp}(F:FnOk P w K mg base CX j f fd ps sp)(h:j≤k):
  FnOk P w K mg base CX k f fd ps sp:=⟨F.len,fun A outer s H args us vs Q E hr=>F.run A outer s H args us vs Q E (hr.mono h)⟩
theorem Env0.make{P:Program}{w:World}{K:Fg9}{A:Around}{outer:List Env}{s:Shared}{H:Hp}(e:Env0 P w K mg base A outer s H)(C:Addr)(us:List Value)(kw:List (Str×Value)):
  Env0 P w K mg base (A.under (.builtin "type.__call__" ⟨.ref C::us,kw⟩)) outer s H:=⟨by first|exact e.frames|(simpa[Around.under,Code.envs,Code.isFrame,pushEnvs]using e.frames),e.mod,e.bs,e.bsz,e.funs,e.frf,e.hok,e.bare⟩
section
variable{X:Cx}{pins:List (Addr×Obj)}{σ:St}{H:Hp}{s s':Shared}
theorem Inv.env0(I:Inv X pins σ H s):Env0 X.prog X.w X.K X.mg X.base X.A X.stack s H:=
 ⟨I.ok.frames,I.ok.mod,I.bs,Y14 I.ok.bsz I.sz,I.stack,I.stkFree,I.hok,I.bare⟩
theorem Inv.after{Q:VK}{u:Value}(I:Inv X pins σ H s)(h:CE X.stack X.prog X.w H s Q u s'):EP X pins σ Q u s':=by
 obtain⟨v,H',os,bare,un,hok,r,q⟩:=h;obtain⟨hh,g,d,t,os'⟩:=s';obtain rfl:os'=s.os:=os;exact⟨v,H',I.call (h':=hh) (g':=g) (d':=d) (t':=t) (ch:=[]) un hok bare (fun b z=>absurd z (by simp)),r,q⟩
end
def DK(sp:Sp)(dvs:List V)(E:XK)(t:TA):TE:=fun σ H Q=>t σ H fun vs H1=>sp (vs++dvs) H1 Q E
def Ia(C:Addr)(m:Str)(sp:Sp)(dvs:List V)(E:XK)(ta:TE)(t:TA):TE:=fun σ H Q=>ta σ H fun x H1=>∃a dx fs,x=.ref a∧H1 a=some (.ins C dx fs)∧fs.lookup m=none∧
 t σ H1 fun vs H2=>sp (x::(vs++dvs)) H2 Q E
def DL(C:Addr)(sp:Sp)(dvs:List V)(E:XK)(t:TA):TE:=fun σ H Q=>t σ H fun vs H1=>∀x dx,H1 x=none→H1 dx=none→dx≠x→
 sp (.ref x::(vs++dvs)) (upd (upd H1 dx (.own x)) x (.ins C dx [])) (fun v H2=>v=.non∧Q (.ref x) H2) E
def Binds(K:Fg9)(fd:FuncData)(ps:List Str)(ds:List Value):Prop:=
 ∀(s:Shared) (us:List Value),K.In s.heap→(us++ds).length=ps.length→BindsTo s fd ⟨us,[]⟩ (ps.zip (us++ds))
theorem Binds.all{K:Fg9}{fd:FuncData}{ps:List Str}(h:∀us:List Value,us.length=ps.length→bindArgs fd ⟨us,[]⟩=pure (ps.zip us)):Binds K fd ps []:=fun s us _ hl=>by
 rw[U19]at hl⊢;exact .of_eq (h us hl)
def Passes(CX:CXT)(X:Cx)(E:XK):Prop:=∀(pins:List (Addr×Obj)) (σ:St) (H:Hp) (s:Shared) (e:Value) (s':Shared),Inv X pins σ H s→CX X.stack H s E e s'→X.xe e s'
section
variable {pins:List (Addr×Obj)}{σ:St}{H:Hp}{s:Shared}{Q:VK}{us:List Value}{vs:List V}{pl:Sem Bool}
variable{X:Cx}{CX:CXT}{k:Nat}{f C:Addr}{fd:FuncData}{ps:List Str}{sp:Sp}{dvs:List V}{ds:List Value}{E:XK}{x m:Str}{p pos apos:Pos}{e o:Expr}{es:List Expr}{ta:TE}{t:TA}
theorem uQ(F:FnOk X.prog X.w X.K X.mg X.base CX k f fd ps sp)(hr:Room k X.A)(hb:Binds X.K fd ps ds)(hd:Vals dvs ds)(hx:Passes CX X E)
  (I:Inv X pins σ H s)(r:Vals vs us)(h:sp (vs++dvs) H Q E):wpAny (model X.prog X.w) X.A (call (.ref f) us) (EP X pins σ Q) X.xe s:=by
 have r2:Vals (vs++dvs) (us++ds):=r.append hd;have hl:(us++ds).length=ps.length:=by rw[←r2.length];exact F.len _ _ _ _ h
 refine wpAny_call (U41 (F.run X.A X.stack s H ⟨us,[]⟩ (us++ds) (vs++dvs) Q E hr I.env0 (hb s us I.kIn hl) r2 h) fun r s' hq=>?_);cases r with
 |error e=>exact hx pins σ H s e s' I hq
 |ok fl=>
  cases fl with
  |ret u=>exact I.after hq
  |next=>exact False.elim hq
  |brk=>exact False.elim hq
  |cont=>exact False.elim hq
theorem Pp(F:FnOk X.prog X.w X.K X.mg X.base CX k f fd ps sp)(hr:Room k X.A)(hg:Gl X x)(hm:X.mg x=some (.ref f))(hk:PySem.W.keepIn X.K (.ref f)=true)(hb:Binds X.K fd ps ds)(hd:Vals dvs ds)(hx:Passes CX X E)
  (ha:PA X (e::es) t)(hdb:(x==("__debug__":Str))=false:=by decide)(he:starEach (e::es) X.env=(false,eval e X.env)::starEach es X.env:=by rfl)(hpl:(backTo pos (starEach es X.env)).any (·.1)=false:=by rfl):
  PE X (.Call (.Name x p) (e::es) [] pos) (DK sp dvs E t):=by
 intro pins s σ H Q I h;refine Y23 (uN I hg hm ?_ hdb);refine PySem.W.callWith_K (h₀:=X.base) I.ok.mod.kin hk (thn (ha pos pins s σ H _ I h) fun us s1 ⟨vs,H1,I1,r,q⟩=>⟨I1.kIn,?_⟩) he hpl;exact uQ F hr hb hd hx I1 r q
theorem Pq(he:PE X o ta)(c:Cls X.K C)(hm:Meth X.K C m f)(F:FnOk X.prog X.w X.K X.mg X.base CX k f fd ps sp)(hr:Room k X.A)(hb:Binds X.K fd ps ds)(hd:Vals dvs ds)(hx:Passes CX X E)(ha:PA X (e::es) t)
  (hst:starEach (e::es) X.env=(false,eval e X.env)::starEach es X.env:=by rfl)(hpl:(backTo pos (starEach es X.env)).any (·.1)=false:=by rfl)
  (ht:eval (.Call (.Attribute o m apos) (e::es) [] pos) X.env=(do
   let ov ←eval o X.env
   standAt apos.atName
   let (f,first) ←holding [ov] (getMethod ov m pl)
   callWith pos f first (backTo pos (starEach (e::es) X.env)) (backToKw pos (keywordEach [] X.env))):=by rfl):
  PE X (.Call (.Attribute o m apos) (e::es) [] pos) (Ia C m sp dvs E ta t):=by
 intro pins s σ H Q I h;refine PySem.W.methodCall_KW (pl:=pl) (thn (he pins s σ H _ I h) fun u s1 ⟨x,H1,I1,rx,a,dx,fs,ex,ea,l,q⟩=>?_) ht;subst ex;obtain rfl:u=Value.ref a:=rx;refine qB I1 ea c hm l ?_;refine PySem.W.callWith_K (first:=[.ref a]) (h₀:=X.base) I.ok.mod.kin hm.kp (thn (ha pos pins s1 σ H1 _ I1 q) fun us s2 ⟨vs,H2,I2,r,q2⟩=>⟨I2.kIn,?_⟩) hst hpl;exact uQ (us:=.ref a::us) (vs:=.ref a::vs) F hr hb hd hx I2 (.cons rfl r) q2
theorem Ib(he:PE X o ta)(c:Cls X.K C)(hm:Meth X.K C m f)(F:FnOk X.prog X.w X.K X.mg X.base CX k f fd ps sp)(hr:Room k X.A)(hb:Binds X.K fd ps ds)(hd:Vals dvs ds)(hx:Passes CX X E)
  (ht:eval (.Call (.Attribute o m apos) [] [] pos) X.env=(do
   let ov ←eval o X.env
   standAt apos.atName
   let (f,first) ←holding [ov] (getMethod ov m pl)
   callWith pos f first (backTo pos (starEach [] X.env)) (backToKw pos (keywordEach [] X.env))):=by rfl):
  PE X (.Call (.Attribute o m apos) [] [] pos) (Ia C m sp dvs E ta Wu):=by
 intro pins s σ H Q I h;refine PySem.W.methodCall_KW (pl:=pl) (thn (he pins s σ H _ I h) fun u s1 ⟨x,H1,I1,rx,a,dx,fs,ex,ea,l,q⟩=>?_) ht;subst ex;obtain rfl:u=Value.ref a:=rx;refine qB I1 ea c hm l ?_;exact PySem.W.callWith_K0 (first:=[.ref a]) I1.kIn hm.kp (uQ (us:=[.ref a]) (vs:=[.ref a]) F hr hb hd hx I1 (.cons rfl .nil) q)
structure Mk (K:Fg9) (C f:Addr):Prop where
 makes:PySem.W.makesIn K C=true
 init:PySem.W.findIn K (.ref C) "__init__"=some (some (.ref f))
 fn:PySem.W.isFn K (.ref f)=true
 kp:PySem.W.keepIn K (.ref C)=true
theorem Ic(M:Mk X.K C f)(F:FnOk X.prog X.w X.K X.mg X.base CX k f fd ps sp)(hr:Room (k+1) X.A)(hb:Binds X.K fd ps ds)(hd:Vals dvs ds)
  (hx:Passes CX X E)(I:Inv X pins σ H s)(r:Vals vs us)
  (h:∀x dx,H x=none→H dx=none→dx≠x→sp (.ref x::(vs++dvs)) (upd (upd H dx (.own x)) x (.ins C dx [])) (fun v H2=>v=.non∧Q (.ref x) H2) E):
  wpAny (model X.prog X.w) X.A (call (.ref C) us) (EP X pins σ Q) X.xe s:=by
 have hq:=h (s.heap.objs.size+1) s.heap.objs.size (I.hok.fresh (Nat.le_succ _)) (I.hok.fresh (W11 _)) (U14 (W42 _));have I2:=Inv.made (C:=C) I;have r2:Vals (V.ref (s.heap.objs.size+1)::(vs++dvs)) (Value.ref (s.heap.objs.size+1)::(us++ds)):=.cons rfl (r.append hd);have hl:(Value.ref (s.heap.objs.size+1)::us++ds).length=ps.length:=by
  have e:=r2.length;rw[F.len _ _ _ _ hq]at e;exact e.symm
 refine wpAny_call (Hz (f:=f) I.kIn M.makes M.init (W40.mp M.fn) (U41 (F.run _ X.stack _ _ ⟨Value.ref (s.heap.objs.size+1)::us,[]⟩ (Value.ref (s.heap.objs.size+1)::(us++ds)) _ _ E (hr.make C us [])
  (I2.env0.make C us []) (hb _ (Value.ref (s.heap.objs.size+1)::us) I2.kIn hl) r2 hq) fun r s' hq'=>?_))
 cases r with
 |error e=>exact hx pins σ _ _ e s' I2 hq'
 |ok fl=>
  cases fl with
  |ret u=>
   obtain⟨v,H',I3,rv,ev,q3⟩:=I2.after hq';subst ev;exact⟨rv,⟨V.ref (s.heap.objs.size+1),H',I3,rfl,q3⟩⟩
  |next=>exact False.elim hq'
  |brk=>exact False.elim hq'
  |cont=>exact False.elim hq'
theorem Pr(M:Mk X.K C f)(F:FnOk X.prog X.w X.K X.mg X.base CX k f fd ps sp)(hr:Room (k+1) X.A)(hg:Gl X x)(hm:X.mg x=some (.ref C))(hb:Binds X.K fd ps ds)(hd:Vals dvs ds)(hx:Passes CX X E)
  (ha:PA X (e::es) t)(hdb:(x==("__debug__":Str))=false:=by decide)(he:starEach (e::es) X.env=(false,eval e X.env)::starEach es X.env:=by rfl)(hpl:(backTo pos (starEach es X.env)).any (·.1)=false:=by rfl):
  PE X (.Call (.Name x p) (e::es) [] pos) (DL C sp dvs E t):=by
 intro pins s σ H Q I h;refine Y23 (uN I hg hm ?_ hdb);refine PySem.W.callWith_K (h₀:=X.base) I.ok.mod.kin M.kp (thn (ha pos pins s σ H _ I h) fun us s1 ⟨vs,H1,I1,r,q⟩=>⟨I1.kIn,?_⟩) he hpl;exact Ic M F hr hb hd hx I1 r q
end
structure FnScope (N P:List Str) (sc:Scope):Prop where
 kind:sc.kind=.function
 co:sc.isCoroutine=false
 gen:sc.isGenerator=false
 nd:N.Nodup
 pre:N.take P.length=P
 par:∀x∈P,sc.names.lookup x=some .local∨sc.names.lookup x=some .cell
 nofree:∀y∈sc.names,y.2≠.free
theorem sT{kindOf:Str→Option NameKind}{x:Str}:∀{binds:List (Str×Value)} {m:Str→Option Value},(∀v,(x,v)∉binds)→bindL kindOf binds m x=m x
 |[],_,_=>rfl
 |(n,v)::r,m,h=>by
  unfold bindL;rw[sT fun w hw=>h w (U11 _ hw)]
  split
  ·have:x≠n:=by rintro rfl;exact h v List.mem_cons_self
   simp[this]
  ·rfl
theorem sU{kindOf:Str→Option NameKind}{x:Str}:∀{binds:List (Str×Value)} {m:Str→Option Value},(∀v,(x,v)∉binds)→bindC kindOf binds m x=m x
 |[],_,_=>rfl
 |(n,v)::r,m,h=>by
  unfold bindC;rw[sU fun w hw=>h w (U11 _ hw)]
  split
  ·rfl
  ·have:x≠n:=by rintro rfl;exact h v List.mem_cons_self
   simp[this]
theorem sV{kindOf:Str→Option NameKind}{x:Str}{v:Value}:∀{P:List Str} {vs:List Value} {i:Nat} {m:Str→Option Value},P.Nodup→P[i]?=some x→vs[i]?=some v→kindOf x=some .local→
  bindL kindOf (P.zip vs) m x=some v
 |[],_,_,_,_,h,_,_=>by simp at h
 |_::_,[],_,_,_,_,h,_=>by simp at h
 |p::P,w::vs,0,m,nd,h1,h2,hk=>by
  simp at h1 h2;subst h1;subst h2;show bindL kindOf ((p,w)::P.zip vs) m p=_;unfold bindL;rw[sT fun v hv=>(Z31.mp nd).1 (List.of_mem_zip hv).1,if_pos hk];simp
 |p::P,w::vs,i+1,m,nd,h1,h2,hk=>by
  show bindL kindOf ((p,w)::P.zip vs) m x=_;unfold bindL;exact sV (i:=i) (Z31.mp nd).2 (by simpa using h1) (by simpa using h2) hk
theorem sX{kindOf:Str→Option NameKind}{x:Str}{v:Value}:∀{P:List Str} {vs:List Value} {i:Nat} {m:Str→Option Value},P.Nodup→P[i]?=some x→vs[i]?=some v→kindOf x≠some .local→
  bindC kindOf (P.zip vs) m x=some v
 |[],_,_,_,_,h,_,_=>by simp at h
 |_::_,[],_,_,_,_,h,_=>by simp at h
 |p::P,w::vs,0,m,nd,h1,h2,hk=>by
  simp at h1 h2;subst h1;subst h2;show bindC kindOf ((p,w)::P.zip vs) m p=_;unfold bindC;rw[sU fun v hv=>(Z31.mp nd).1 (List.of_mem_zip hv).1,if_neg hk];simp
 |p::P,w::vs,i+1,m,nd,h1,h2,hk=>by
  show bindC kindOf ((p,w)::P.zip vs) m x=_;unfold bindC;exact sX (i:=i) (Z31.mp nd).2 (by simpa using h1) (by simpa using h2) hk
def start(N:List Str)(vs:List V):St:=vs.map some++List.replicate (N.length-vs.length) none
def zH(CX:CXT)(P:Program)(w:World)(K:Fg9)(mg:Str→Option Value)(base:Heap)(N:List Str)(qual:Str)(scope:Scope)(f:Addr)(cd:Value)(A:Around)(outer:List Env)(s:Shared)(H:Hp)(E:XK):Cx where
 prog:=P
 w:=w
 K:=K
 mg:=mg
 base:=base
 A:=A.deeper (envOfC qual scope s.heap.objs.size f cd)
 N:=N
 s₀:=s
 H₀:=H
 env:=envOfC qual scope s.heap.objs.size f cd
 outer:=outer
 stack:=envOfC qual scope s.heap.objs.size f cd::outer
 ex:=[]
 calm:=true
 fn:=fun _=>true
 pn:=[]
 xe:=fun e s'=>wpAny (model P w) (A.deeper (envOfC qual scope s.heap.objs.size f cd)) (leaving (envOfC qual scope s.heap.objs.size f cd) e) (fun _ s''=>CX outer H s E e s'') (fun e' s''=>CX outer H s E e' s'') s'
theorem qD{sc:Scope}{n:Nat}{x:Str}(h:sc.names.lookup x=some .cell):∃c,(cellsFrom n sc.names []).lookup x=some c:=by
 have q:=PySem.W.cellsFrom_some sc.names n [] (.inl h);exact Option.isSome_iff_exists.mp q
theorem Eu{CX:CXT}{P:Program}{w:World}{K:Fg9}{N ps:List Str}{f:Addr}{cd:Value}{A:Around}{outer:List Env}{s s1:Shared}{H:Hp}{E:XK}{us:List Value}{vs:List V}
  (S:FnScope N ps scope)(hd:A.handled=none)(e0:Env0 P w K mg base A outer s H)(hl:vs.length=ps.length)(r:Vals vs us)
  (x:InCallC s s.heap.objs.size (bindL (envOfC qual scope s.heap.objs.size f cd).kindOf (ps.zip us) fun _=>none) (cellsFrom (s.heap.objs.size+1) scope.names []) (bindC (envOfC qual scope s.heap.objs.size f cd).kindOf (ps.zip us) fun _=>none) s1):
  Inv (zH CX P w K mg base N qual scope f cd A outer s H E) [] (start N vs) H s1:=by
 have hpl:ps.length≤N.length:=by have:=congrArg List.length S.pre;rw[V22]at this;lia
 obtain⟨h1,tk,rfl,hk⟩:=x.done;have noA:∀b:Addr,b∉(zH CX P w K mg base N qual scope f cd A outer s H E).ex:=fun b z=>absurd (show b∈([]:List Addr) from z) (by simp);refine⟨⟨e0.mod,S.kind,rfl,rfl,W11 _,fun y z c h1 h2=>?_,fun y hy=>?_,fun y c _ h=>?_,fun _=>hd,Around.frames_deeper e0.frames,.inr ⟨rfl,rfl⟩,fun b z=>absurd z (noA b),e0.bs,e0.bsz,fun b _ _=>noA b,fun b z=>absurd z (noA b),e0.funs,e0.frf⟩,
  rfl,e0.bare,Un.kept hk,⟨_,x.toInCall.ns,fun i y v h1 h2 h3=>?_⟩,fun y c h=>⟨_,x.cell y c h⟩,e0.hok.fresh (W11 _),fun y c h=>?_,fun p hp=>absurd (show p∈([]:List (Addr×Obj)) from hp) (by simp),e0.hok.kept hk,?_⟩
 ·exact name_of_addr x.apart (U20 h1) (U20 h2)
 ·have hy:scope.names.lookup y=some .cell∨scope.names.lookup y=some .free:=hy;rcases hy with hy|hy
  ·exact qD hy
  ·exact absurd rfl (S.nofree _ (U20 hy))
 ·exact V33 (x.above y c (U20 h))
 ·have hi:i<vs.length:=by
   unfold start at h2
   by_cases hi:i<vs.length
   ·exact hi
   ·rw[Y18 (by simpa using hi)]at h2;rw[Z32]at h2
    split at h2<;>cases h2
  have ha:vs[i]?=some v:=by
   unfold start at h2;rw[Z17 (by simpa using hi),W14]at h2;cases e:vs[i]? with
   |none=>rw[e]at h2;cases h2
   |some a=>rw[e]at h2;cases h2;rfl
  obtain⟨u,hu,rv⟩:=r.get ha;have hp:ps[i]?=some y:=by
   rw[←S.pre,List.getElem?_take_of_lt (by lia)];exact h1
  have ndP:ps.Nodup:=by rw[←S.pre];exact S.nd.sublist (List.take_sublist _ _)
  refine⟨u,rv,?_⟩;rcases S.par y (U27 hp) with k|k
  ·exact .inl ⟨k,sV ndP hp hu k⟩
  ·obtain⟨c,e⟩:=qD (n:=s.heap.objs.size+1) k;refine .inr ⟨.inl k,c,e,?_⟩;have q:=x.cell y c e;rw[sX ndP hp hu (by show scope.names.lookup y≠_;rw[k];decide)]at q;exact q
 ·exact e0.hok.fresh (V33 (x.above y c (U20 h)))
 ·unfold start;show _=N.length;rw[V12,U12,Y42]
  lia
theorem DM{CX:CXT}{P:Program}{w:World}{K:Fg9}{k:Nat}{f:Addr}{name:Str}{params:Arguments}{body:List Stmt}{dV kV doc pm cdv ct oc:Value}{an od:Option Addr}
  {osl:Array (Option Value)}{N ps:List Str}{sp:Sp}(lk:K.lookup f=some ⟨oc,od,.func (PySem.W.fnOf name qual params body scope dV kV doc pm an cdv ct),osl⟩)(hcd:PySem.W.codeIn K cdv qual=true)(S:FnScope N ps scope)
  (len:∀vs H Q E,sp vs H Q E→vs.length=ps.length)
  (hbody:∀(A:Around) (outer:List Env) (s:Shared) (H:Hp) (vs:List V) (Q:VK) (E:XK),Room k (A.deeper (envOfC qual scope s.heap.objs.size f cdv))→sp vs H Q E→
   ∃t,PSs (zH CX P w K mg base N qual scope f cdv A outer s H E) body t∧t { nx:=fun _ H'=>Q .non H',rt:=Q } (start N vs) H):
  FnOk P w K mg base CX (k+1) f (PySem.W.fnOf name qual params body scope dV kV doc pm an cdv ct) ps sp:=by
 refine⟨len,fun A outer s H args us vs Q E hr e0 hb r hsp=>?_⟩;have hl:=len _ _ _ _ hsp;have KX:K.In s.heap:=e0.mod.kin.keeps fun b o e=>(e0.bs b o e).1;have lim:s.heap.NoLimit:=e0.mod.nolimit.keeps fun b o e=>(e0.bs b o e).1;have hkind:∀y∈ps.zip us,scope.names.lookup y.1=some .local∨(scope.names.lookup y.1=some .cell∧((cellsFrom (s.heap.objs.size+1) scope.names []).lookup y.1).isSome=true):=fun⟨n,v⟩ hy=>by
  rcases S.par n (List.of_mem_zip hy).1 with q|q
  ·exact .inl q
  ·exact .inr ⟨q,PySem.W.cellsFrom_some _ _ _ (.inl q)⟩
 refine codeAny_call_function hr.depth (KX _ _ lk) rfl S.co S.gen rfl (PySem.W.codeRec_of KX hcd) (hb _ _ _ _ ?_);refine wpAny_newFunctionEnv_cells S.kind hkind fun env he s1 x=>?_;subst he;refine⟨lim.keeps x.toInCall.keep,codeAny_func ?_⟩;obtain⟨t,ht,hq⟩:=hbody A outer s H vs Q E (hr.deeper _) hsp;have I:Inv (zH CX P w K mg base N qual scope f cdv A outer s H E) [] (start N vs) H s1:=Eu S hr.hd e0 hl r x;refine Z27 (ht [] s1 (start N vs) H _ I hq) (fun fl s' hs=>?_) fun e s' hs=>hs;have fin:∀{σ':St} {H':Hp} {v:V} {u:Value},Inv (zH CX P w K mg base N qual scope f cdv A outer s H E) [] σ' H' s'→RelV v u→Q v H'→CE outer P w H s Q u s':=
  fun {σ' H' v u} J rv q=>⟨v,H',J.os,J.bare,J.base,J.hok,rv,q⟩
 cases fl with
 |ret u=>
  obtain⟨v,σ',H',J,rv,q⟩:=hs;exact fin J rv q
 |next=>
  obtain⟨σ',H',J,q⟩:=hs;exact fin (v:=V.non) (u:=Value.none) J rfl q
 |brk=>
  obtain⟨_,_,_,q⟩:=hs;exact False.elim q
 |cont=>
  obtain⟨_,_,_,q⟩:=hs;exact False.elim q
section
variable{X:Cx}{x:Str}{p pos:Pos}{e:Expr}{es:List Expr}{t:TA}{id T:String}{r:List V→Hp→VK→Prop}
def II(r:List V→Hp→VK→Prop)(t:TA):TE:=fun σ H Q=>t σ H fun vs H1=>r vs H1 Q
theorem Ie(hc:dB X (.builtin id) r)(hg:Gl X x)(hm:X.mg x=none)(hv:bootBuiltins x=some (.builtin id))(ha:PA X (e::es) t)(hn:x≠"__name__":=by decide)(hdb:(x==("__debug__":Str))=false:=by decide)
  (he:starEach (e::es) X.env=(false,eval e X.env)::starEach es X.env:=by rfl)(hpl:(backTo pos (starEach es X.env)).any (·.1)=false:=by rfl):PE X (.Call (.Name x p) (e::es) [] pos) (II r t):=by
 intro pins s σ H Q I h;refine Y23 (gX I hg hm hv ?_ hn hdb);exact PyProof.Rows.callWith_builtin1 (thn (ha pos pins s σ H _ I h) fun us s1 ⟨vs,H1,I1,r1,q1⟩=>hc pins s1 σ H1 vs us Q I1 r1 q1) he hpl
theorem Ew(hc:dB X (.type T) r)(hg:Gl X x)(hm:X.mg x=none)(hv:bootBuiltins x=some (.type T))(ha:PA X (e::es) t)(hn:x≠"__name__":=by decide)(hdb:(x==("__debug__":Str))=false:=by decide)
  (he:starEach (e::es) X.env=(false,eval e X.env)::starEach es X.env:=by rfl)(hpl:(backTo pos (starEach es X.env)).any (·.1)=false:=by rfl):PE X (.Call (.Name x p) (e::es) [] pos) (II r t):=by
 intro pins s σ H Q I h;refine Y23 (gX I hg hm hv ?_ hn hdb);exact Z18 (thn (ha pos pins s σ H _ I h) fun us s1 ⟨vs,H1,I1,r1,q1⟩=>hc pins s1 σ H1 vs us Q I1 r1 q1) he hpl
theorem zI(hc:dB X (.type T) r)(hg:Gl X x)(hm:X.mg x=none)(hv:bootBuiltins x=some (.type T))(hn:x≠"__name__":=by decide)(hdb:(x==("__debug__":Str))=false:=by decide):
  PE X (.Call (.Name x p) [] [] pos) (II r Wu):=by
 intro pins s σ H Q I h;refine Y23 (gX I hg hm hv ?_ hn hdb);exact PyProof.Rows.callWith_type0 (hc pins s σ H [] [] Q I .nil h)
end
end L2
namespace HT
open PySem PyProof.Rows
section
variable {Q:Value→Shared→Prop}{sl:Addr}
variable{prog:Program}{w:World}{A:Around}{E:Value→Shared→Prop}{s:Shared}
theorem Pt{t b:Addr}{vs ws:List Value}(ht:IsTup s.heap t vs.toArray)(hb:IsTup s.heap b ws.toArray)(hv:vs≠[])
  (h1:ws=[]→Q (.ref t) s)(h2:ws≠[]→Q (.ref s.heap.objs.size) { s with heap:=s.heap.push { cls:=.type "tuple",data:=.seq (vs++ws).toArray } })
  (hsz:vs.length+ws.length≤sizeLine):wpAny (model prog w) A (binaryOp .Add (.ref t) (.ref b)) Q E s:=by
 obtain⟨⟨cls,dd,data,sl⟩,ho,hc,n,hd⟩:=id ht;obtain⟨⟨cls2,dd2,data2,sl2⟩,ho2,hc2,n2,hd2⟩:=id hb;simp only at hc hd hc2 hd2;subst hc hd hc2 hd2;have e:vs.toArray++ws.toArray=(vs++ws).toArray:=by simp
 by_cases hw:ws=[]
 ·exact concat_meets ⟨_,ho,rfl⟩ ⟨_,ho2,rfl⟩ noFill_tuple_add seq_tuple_add V40 V38 (U37 _ _)
   (tuple_addW1 t b vs.toArray ws.toArray n n2 dd dd2 sl sl2 (by simpa using hv) (by simp[hw])) ⟨ho,ho2,h1 hw⟩
 ·refine concat_meets ⟨_,ho,rfl⟩ ⟨_,ho2,rfl⟩ noFill_tuple_add seq_tuple_add V40 V38 (U37 _ _)
   (tuple_addW2 t b vs.toArray ws.toArray n n2 dd dd2 sl sl2 (by simpa using hv) (by simpa using hw) (by rw[V11,V11];exact hsz)) ⟨ho,ho2,?_⟩
  rw[e];exact h2 hw
def dY(n d:Nat):Option Int→Nat
 |none=>d
 |some v=>if v<0 then(v+(n:Int)).toNat else min v.toNat n
theorem Wy(n d:Nat)(hd:d≤n)(o:Option Int):dY n d o≤n:=by
 cases o with
 |none=>exact hd
 |some v=>
  show(if v<0 then(v+(n:Int)).toNat else min v.toNat n)≤n
  by_cases hv:v<0
  ·rw[if_pos hv];lia
  ·rw[if_neg hv];exact Nat.min_le_right _ _
theorem Bt(v:Int)(n d:Nat):(if v<0 then max (v+(n:Int)) 0 else min v (n:Int))=((dY n d (some v):Nat):Int):=by
 show(if v<0 then max (v+(n:Int)) 0 else min v (n:Int))=(((if v<0 then(v+(n:Int)).toNat else min v.toNat n):Nat):Int)
 by_cases hv:v<0
 ·simp only[if_pos hv];lia
 ·simp only[if_neg hv];lia
theorem zJ(lo hi:Option Int)(n:Nat):Builtin.Slice.sliceAdjust lo hi 1 (n:Int)=(((dY n 0 lo:Nat):Int),((dY n n hi:Nat):Int)):=by
 have h1:¬ ((1:Int)<0):=by lia
 unfold Builtin.Slice.sliceAdjust;simp only[h1,if_false];refine Prod.ext ?_ ?_
 ·cases lo with
  |none=>rfl
  |some v=>exact Bt v n 0
 ·cases hi with
  |none=>rfl
  |some v=>exact Bt v n n
theorem zK(i j:Nat):Builtin.Slice.slicePlaces (i:Int) (j:Int) 1=j-i:=by
 unfold Builtin.Slice.slicePlaces;have h1:(1:Int) > 0:=by lia
 simp only[h1,if_true,Int.ediv_one]
 split<;>lia
theorem qE{v:Value}{o:Option Int}{Q:Option Int→Shared→Prop}(p:IsPart v o)(h:Q o s):wpAny (model prog w) A (Builtin.Slice.slicePartIndex v) Q E s:=by
 cases p with
 |none=>exact slicePart_none h
 |int i t=>exact slicePart_int h
theorem jA{vl vu:Value}{lo hi:Option Int}{n:Nat}{Q:Int×Int×Nat→Shared→Prop}(hs:s.heap.IsSliceOf sl vl vu .none)(pl:IsPart vl lo)(pu:IsPart vu hi)
  (h:Q (((dY n 0 lo:Nat):Int),1,dY n n hi-dY n 0 lo) s):wpAny (model prog w) A (Builtin.Slice.sliceApplied (.ref sl) (pure (n:Int))) Q E s:=by
 obtain⟨os,hos,hcs,hds⟩:=id hs;unfold Builtin.Slice.sliceApplied Builtin.Slice.sliceFields;refine Y10 (Y10 (Y21 hos hds (x:=vl) rfl (Y10 (Y21 hos hds (x:=vu) rfl (Y10 (Y21 hos hds (x:=.none) rfl (Z10 ?_)))))));refine Y10 (slicePart_none ?_);show wpAny _ _ (if((1:Int)==0)=true then _ else _) _ _ s;rw[if_neg (by decide)];refine Y10 (qE pl (Y10 (qE pu (Y10 (Z10 ?_)))));show wpAny _ _ (match Builtin.Slice.sliceAdjust lo hi 1 (n:Int) with |(lo,hi)=>pure (lo,(1:Int),Builtin.Slice.slicePlaces lo hi 1)) _ _ s;rw[zJ lo hi n];show wpAny _ _ (pure (((dY n 0 lo:Nat):Int),(1:Int),Builtin.Slice.slicePlaces ((dY n 0 lo:Nat):Int) ((dY n n hi:Nat):Int) 1)) _ _ s;rw[zK];exact Z10 h
theorem Ig(xs:Array Value)(i k:Nat):((List.range k).filterMap fun(m:Nat)=>xs[((i:Int)+(m:Int)*1).toNat]?).toArray=((xs.toList.drop i).take k).toArray:=by
 have e:(fun(m:Nat)=>xs[((i:Int)+(m:Int)*1).toNat]?)=fun m=>xs[i+m]?:=by
  funext m
  have:((i:Int)+(m:Int)*1).toNat=i+m:=by lia
  rw[this]
 rw[e];have:=pick_run xs i k;rw[List.filterMap_map]at this;have e2:((fun x=>xs[x]?) ∘ fun x=>i+x)=fun m=>xs[i+m]?:=rfl;rw[e2]at this;rw[this]
theorem mJ{t:Addr}{items:Array Value}{vl vu:Value}{lo hi:Option Int}(ht:IsTup s.heap t items)(hs:s.heap.IsSliceOf sl vl vu .none)(pl:IsPart vl lo)(pu:IsPart vu hi)
  (hw:¬ (dY items.size 0 lo=0∧dY items.size items.size hi=items.size))
  (h:Q (.ref s.heap.objs.size) { s with heap:=s.heap.push { cls:=.type "tuple",data:=.seq ((items.toList.drop (dY items.size 0 lo)).take (dY items.size items.size hi-dY items.size 0 lo)).toArray } })
  (hsz:items.size≤sizeLine):wpAny (model prog w) A (getItem (.ref t) (.ref sl)) Q E s:=by
 have htake:sizeOk (.seq ((items.toList.drop (dY items.size 0 lo)).take (dY items.size items.size hi-dY items.size 0 lo)).toArray):=by
  show((items.toList.drop (dY items.size 0 lo)).take (dY items.size items.size hi-dY items.size 0 lo)).toArray.size≤sizeLine;rw[V11,V22,W22,W28]
  lia
 have hj:dY items.size items.size hi≤items.size:=Wy _ _ (W11 _) hi;obtain⟨os,hos,hcs,hds⟩:=id hs;have hTs:s.TypeIs (.ref sl) "slice":=⟨os,hos,hcs⟩;unfold getItem
 try with_reducible refine U16 ?_
 first|refine Y10 (Z10 ?_)|skip
 refine Y10 (wpAny_sequenceKey ht.typeIs (by decide) ?_);refine Y10 (V15 (name:=Str.ofString "__getitem__") ht.typeIs Y20
  (V16 Y20 ht.typeIs entry_tuple_getitem ?_ (args_tuple_getitem _ _)))
 show wpAny _ _ (Builtin.Tuple.tupleItemsOf (.ref t) >>=_) _ _ s;refine Y10 (tupleItemsOf_ ht ?_);refine Y10 (W33 hTs ?_);rw[if_pos (by decide)];refine Y10 (jA hs pl pu ?_);have hno:¬ ((((dY items.size 0 lo:Nat):Int)==0&&(1:Int)==1&&(dY items.size items.size hi-dY items.size 0 lo)==items.size)=true):=by
  intro q;rw[Y11,Y11]at q;have q1:((dY items.size 0 lo:Nat):Int)=0:=eq_of_beq q.1.1;have q2:dY items.size items.size hi-dY items.size 0 lo=items.size:=eq_of_beq q.2;exact hw ⟨by lia,by lia⟩
 show wpAny _ _ (if(((dY items.size 0 lo:Nat):Int)==0&&(1:Int)==1&&(dY items.size items.size hi-dY items.size 0 lo)==items.size)=true then _ else _) _ _ s;rw[if_neg hno,Ig]
 first
  |exact Y10 (m:=Builtin.Tuple.tupleExact _) (Y16 (Z10 ⟨_,rfl,Z10 h⟩) htake)
  |exact Y10 (m:=Builtin.Tuple.tupleExact _) (Y16 (Y10 (Z10 (Z10 ⟨_,rfl,Z10 h⟩))) htake)
  |exact Y10 (Y10 (m:=Builtin.Tuple.tupleExact _) (Y16 (Z10 (Z10 ⟨_,rfl,Z10 h⟩)) htake))
  |exact Y10 (Y10 (m:=Builtin.Tuple.tupleExact _) (Y16 (Z10 ⟨_,rfl,Z10 h⟩) htake))
end
end HT
namespace L2
variable {α:Type}{i:Int}
open PySem PySem.Spec PyProof.Rows
abbrev TO:=St→Hp→(Option Int→Hp→Prop)→Prop
def PO(X:Cx)(e:Option Expr)(t:TO):Prop:=
 ∀(pins:List (Addr×Obj)) (s:Shared) (σ:St) (H:Hp) (Q:Option Int→Hp→Prop),Inv X pins σ H s→t σ H Q→
  wpAny (model X.prog X.w) X.A (evalPart e X.env) (fun u s'=>∃o H',Inv X pins σ H' s'∧IsPart u o∧Q o H') X.xe s
def Pu:TO:=fun _ H Q=>Q none H
def DN(t:TE):TO:=fun σ H Q=>t σ H fun x H1=>∃i,x=.int i∧Q (some i) H1
section
variable {r:V→Option Int→Option Int→Hp→VK→Prop}
variable{X:Cx}{e:Expr}{te:TE}{lo hi:Option Expr}{tl th:TO}{pos p2:Pos}
theorem Pw:PO X none Pu:=by
 intro pins s σ H Q I h;rw[evalPart_none];exact Z10 ⟨none,H,I,.none,h⟩
theorem Px(h:PE X e te):PO X (some e) (DN te):=by
 intro pins s σ H Q I hw;rw[evalPart_some];refine thn (h pins s σ H _ I hw) fun u s1 ⟨x,H1,I1,r1,q1⟩=>?_;obtain⟨i,rfl,q⟩:=q1;obtain⟨t,rfl⟩:=r1;exact⟨some i,H1,I1,.int i t,q⟩
def Ex(X:Cx)(r:V→Option Int→Option Int→Hp→VK→Prop):Prop:=
 ∀(pins:List (Addr×Obj)) (s:Shared) (σ:St) (H:Hp) (x:V) (v vl vu:Value) (lo hi:Option Int) (sl:Addr) (Q:VK),Inv X pins σ H s→RelV x v→s.heap.IsSliceOf sl vl vu .none→IsPart vl lo→IsPart vu hi→r x lo hi H Q→
  ∃T id,typeLookup (.type T) "__getitem__"=pure (some (.builtin id))∧s.TypeIs v T∧wpAny (model X.prog X.w) X.A (getItem v (.ref sl)) (EP X pins σ Q) X.xe s
theorem Ex.or{r':V→Option Int→Option Int→Hp→VK→Prop}(h:Ex X r)(h':Ex X r'):Ex X (fun x lo hi H Q=>r x lo hi H Q∨r' x lo hi H Q):=by
 intro pins s σ H x v vl vu lo hi sl Q I rx hs pl pu q;rcases q with q|q
 ·exact h pins s σ H x v vl vu lo hi sl Q I rx hs pl pu q
 ·exact h' pins s σ H x v vl vu lo hi sl Q I rx hs pl pu q
def KJ(r:V→Option Int→Option Int→Hp→VK→Prop)(te:TE)(tl th:TO):TE:=fun σ H Q=>te σ H fun x H1=>tl σ H1 fun l H2=>th σ H2 fun u H3=>r x l u H3 Q
theorem Ih(hr:Ex X r)(he:PE X e te)(hl:PO X lo tl)(hu:PO X hi th):PE X (.Subscript e (.Slice lo hi none p2) pos) (KJ r te tl th):=by
 intro pins s σ H Q I h;refine Subscript_ (thn (he pins s σ H _ I h) fun v s1 ⟨x,H1,I1,r1,q1⟩=>?_);refine wpAny_Slice (thn (hl pins s1 σ H1 _ I1 q1) fun vl s2 ⟨l,H2,I2,pl,q2⟩=>thn (hu pins s2 σ H2 _ I2 q2) fun vu s3 ⟨u,H3,I3,pu,q3⟩=>?_);rw[evalPart_none];refine Z10 ?_;have I4:Inv X pins σ H3 { s3 with heap:=s3.heap.push { cls:=.type "slice",data:=.fields #[vl,vu,.none] } }:=I3.kept (t':=s3.toks) fun b ob q=>V10 _ q;obtain⟨T,id,hT,ht,hg⟩:=hr pins { s3 with heap:=s3.heap.push { cls:=.type "slice",data:=.fields #[vl,vu,.none] } } σ H3 x v vl vu l u s3.heap.objs.size Q I4 r1 (Heap.IsSliceOf.new ..) pl pu q3;show wpAny (model X.prog X.w) X.A (subscriptTail e (.Slice lo hi none p2) v (.ref s3.heap.objs.size)) (EP X pins σ Q) X.xe { s3 with heap:=s3.heap.push { cls:=.type "slice",data:=.fields #[vl,vu,.none] } };exact tail_any (ops:=[.ref s3.heap.objs.size,v]) ht hT hg (by with_unfolding_all rfl)
def qF(xs:List V)(lo hi:Option Int):List V:=(xs.drop (HT.dY xs.length 0 lo)).take (HT.dY xs.length xs.length hi-HT.dY xs.length 0 lo)
theorem oM(xs:List V)(lo hi:Option Int):(qF xs lo hi).length≤xs.length:=by
 unfold qF;rw[V22,W22]
 lia
def IJ(K:Fg9):V→Option Int→Option Int→Hp→VK→Prop:=fun x lo hi H Q=>∃a xs,x=.ref a∧gR K H a xs∧
 ¬ (HT.dY xs.length 0 lo=0∧HT.dY xs.length xs.length hi=xs.length)∧∀p,H p=none→Q (.ref p) (upd H p (.tup (qF xs lo hi)))
theorem Wz:Ex X (IJ X.K):=by
 intro pins s σ H x v vl vu lo hi sl Q I rx hs pl pu h;obtain⟨a,xs,rfl,hx,hw,q⟩:=h;cases rx;obtain⟨its,r,ht,hz⟩:=I.tuple hx;have hlen:its.toArray.size=xs.length:=by rw[V11];exact r.length.symm
 refine⟨"tuple",_,Y20.lookup,ht.typeIs,?_⟩;refine HT.mJ ht hs pl pu (by rw[hlen];exact hw) ?_ (by rw[hlen];exact hz);rw[hlen];refine⟨.ref s.heap.objs.size,_,I.laid (t':=s.toks) (o:=.tup (qF xs lo hi)) (fun b ob q=>V10 _ q) (W11 _) ?_,rfl,q _ (I.hok.fresh (W11 _))⟩;exact⟨Y14 (oM xs lo hi) hz,_,(r.drop (HT.dY xs.length 0 lo)).take (HT.dY xs.length xs.length hi-HT.dY xs.length 0 lo),IsTup.new _ _⟩
def DO(K:Fg9):R2:=fun x y H Q=>∃a b xs ys,x=.ref a∧y=.ref b∧gR K H a xs∧gR K H b ys∧xs≠[]∧xs.length+ys.length≤sizeLine∧
 (ys=[]→Q (.ref a) H)∧(ys≠[]→∀p,H p=none→Q (.ref p) (upd H p (.tup (xs++ys))))
theorem Vals.nil_iff{xs:List V}{us:List Value}(r:Vals xs us):us=[] ↔ xs=[]:=by
 cases r with
 |nil=>simp
 |cons _ _=>simp
theorem Py:eG X (binaryOp .Add) (DO X.K):=by
 intro pins s σ H x y v u Q I rx ry h;obtain⟨a,b,xs,ys,rfl,rfl,ha,hb,hx,hz,q1,q2⟩:=h;cases rx;cases ry;obtain⟨its,r1,p1,_⟩:=I.tuple ha;obtain⟨its2,r2,p2,_⟩:=I.tuple hb;refine HT.Pt p1 p2 (fun z=>hx (r1.nil_iff.mp z)) (fun z=>⟨.ref a,H,I,rfl,q1 (r2.nil_iff.mp z)⟩) (fun z=>?_) (by rw[←r1.length,←r2.length];exact hz);refine⟨.ref s.heap.objs.size,_,I.laid (t':=s.toks) (o:=.tup (xs++ys)) (fun b ob q=>V10 _ q) (W11 _) ?_,rfl,q2 (fun w=>z (r2.nil_iff.mpr w)) _ (I.hok.fresh (W11 _))⟩;exact⟨by rw[V12];exact hz,_,r1.append r2,IsTup.new _ _⟩
end
def wO(n:Nat)(i:Int):Option Nat:=if 0≤i then(if i<n then some i.toNat else none) else if -(n:Int)≤i then some (i+n).toNat else none
def atI(xs:List α)(i:Int):Option α:=(wO xs.length i).bind fun j=>xs[j]?
theorem Bu{n:Nat}{j:Nat}(h:wO n i=some j):seqIndex? i n=some j∧j<n∧-(n:Int)≤i∧i<n:=by
 unfold wO at h
 by_cases h0:0≤i
 ·rw[if_pos h0]at h
  by_cases h1:i<n
  ·rw[if_pos h1]at h;have e:i.toNat=j:=Y17 h;exact⟨by rw[seqIndex_of h0 h1,e],by lia,by lia,h1⟩
  ·rw[if_neg h1]at h;cases h
 ·rw[if_neg h0]at h
  by_cases h1:-(n:Int)≤i
  ·rw[if_pos h1]at h;have e:(i+n).toNat=j:=Y17 h;exact⟨by rw[seqIndex_neg (by lia) h1,e],by lia,h1,by lia⟩
  ·rw[if_neg h1]at h;cases h
theorem uR{xs:List α}{v:α}(h:atI xs i=some v):∃j,seqIndex? i xs.length=some j∧xs[j]?=some v∧j<xs.length∧-(xs.length:Int)≤i∧i<xs.length:=by
 unfold atI at h;cases e:wO xs.length i with
 |none=>rw[e]at h;cases h
 |some j=>
  rw[e]at h;obtain⟨h1,h2,h3,h4⟩:=Bu e;exact⟨j,h1,h,h2,h3,h4⟩
theorem fS{xs:List α}{j:Nat}{v:α}(h:xs[j]?=some v):atI xs (j:Int)=some v:=by
 have hj:j<xs.length:=(U10.mp h).1;have e:wO xs.length (j:Int)=some j:=by
  unfold wO;rw[if_pos (by lia),if_pos (by lia)];simp
 unfold atI;rw[e];exact h
theorem qG(xs:List α)(v:α):atI (xs++[v]) (-1)=some v:=by
 have hl:(xs++[v]).length=xs.length+1:=by simp
 have e:wO (xs++[v]).length (-1)=some xs.length:=by
  unfold wO;rw[hl,if_neg (by decide),if_pos (by lia)]
  congr 1
  lia
 unfold atI;rw[e];show(xs++[v])[xs.length]?=some v;simp
def uS(b:Expr):Prop:=∀o i,subscripted b false o i=operate [o,i] (getItem o i)
def Pz(X:Cx)(r:R2):Prop:=
 ∀(value slice:Expr) (pins:List (Addr×Obj)) (s:Shared) (σ:St) (H:Hp) (x y:V) (v u:Value) (Q:VK),Inv X pins σ H s→RelV x v→RelV y u→r x y H Q→
  subscripted slice false v u=operate [v,u] (getItem v u)→wpAny (model X.prog X.w) X.A (subscriptTail value slice v u) (EP X pins σ Q) X.xe s
def sD(X:Cx)(id:String)(r:V→List V→Hp→VK→Prop):Prop:=
 ∀(pins:List (Addr×Obj)) (s:Shared) (σ:St) (H:Hp) (x:V) (xs:List V) (v:Value) (us:List Value) (Q:VK),Inv X pins σ H s→RelV x v→Vals xs us→r x xs H Q→
  wpAny (model X.prog X.w) X.A (call (.builtin id) (v::us)) (EP X pins σ Q) X.xe s
section
variable {pins:List (Addr×Obj)}{σ:St}{s:Shared}{v:Value}
variable{X:Cx}{a b:Expr}{ta tb:TE}{pos:Pos}
theorem Pz.or{r r':R2}(h:Pz X r)(h':Pz X r'):Pz X (fun x y H Q=>r x y H Q∨r' x y H Q):=by
 intro value slice pins s σ H x y v u Q I rx ry q hs;rcases q with q|q
 ·exact h value slice pins s σ H x y v u Q I rx ry q hs
 ·exact h' value slice pins s σ H x y v u Q I rx ry q hs
theorem sD.or{id:String}{r r':V→List V→Hp→VK→Prop}(h:sD X id r)(h':sD X id r'):sD X id (fun x xs H Q=>r x xs H Q∨r' x xs H Q):=by
 intro pins s σ H x xs v us Q I rx rs q;rcases q with q|q
 ·exact h pins s σ H x xs v us Q I rx rs q
 ·exact h' pins s σ H x xs v us Q I rx rs q
theorem DP{r:R2}(hr:Pz X r)(ha:PE X a ta)(hb:PE X b tb)(hs:uS b):PE X (.Subscript a b pos) (DA r ta tb):=by
 intro pins s σ H Q I h;exact Subscript_ (Wh ha hb I h fun v u s2 x y H2 I2 rx ry q=>hr a b pins s2 σ H2 x y v u Q I2 rx ry q (hs _ _))
def DQ(K:Fg9):R2:=fun x y H Q=>∃p xs i v,x=.ref p∧y=.int i∧fE K H p xs∧atI xs i=some v∧Q v H
def DR(K:Fg9):R2:=fun x y H Q=>∃p xs i v,x=.ref p∧y=.int i∧gR K H p xs∧atI xs i=some v∧Q v H
def DS:R2:=fun x y H Q=>∃z i c,x=.str z∧y=.int i∧z.length≤sizeLine∧atI z.cps.toList i=some c∧Q (.str ⟨#[c]⟩) H
theorem Qa:Pz X (DQ X.K):=by
 intro value slice pins s σ H x y v u Q I rx ry h hs;obtain⟨p,xs,i,z,rfl,rfl,hq,he,q⟩:=h;cases rx;obtain⟨t,rfl⟩:=ry;obtain⟨its,r,pl,hz⟩:=I.list hq;obtain⟨j,h1,h2,h3,h4,h5⟩:=uR he;obtain⟨w,ew,rw'⟩:=r.get h2;have hl:=r.length;have hn:=line63;have fin:EP X pins σ Q w s:=⟨z,H,I,rw',q⟩
 by_cases h0:0≤i
 ·have hj:i.toNat=j:=by
   rw[seqIndex_of h0 h5]at h1;exact Y17 h1
  exact item_listR pl.isList h0 (by lia) (by rw[hj];simpa using ew) fin hs
 ·have hj:(i+(its.toArray.size:Int)).toNat=j:=by
   rw[seqIndex_neg (by lia) h4]at h1;rw[V11,←hl];exact Y17 h1
  exact subscriptTail_builtinR (x:=w) pl.isList.typeIs slot_list_getitem.lookup
   (wpAny_getItem_list_neg (Q:=fun r s'=>r=w∧EP X pins σ Q r s') pl.isList (by lia) (by rw[V11]<;>lia) (by lia) (by rw[hj];simpa using ew) ⟨rfl,fin⟩) hs
theorem Xa:Pz X (DR X.K):=by
 intro value slice pins s σ H x y v u Q I rx ry h hs;obtain⟨p,xs,i,z,rfl,rfl,hq,he,q⟩:=h;cases rx;obtain⟨t,rfl⟩:=ry;obtain⟨its,r,pl,hz⟩:=I.tuple hq;obtain⟨j,h1,h2,h3,h4,h5⟩:=uR he;obtain⟨w,ew,rw'⟩:=r.get h2;have hl:=r.length;have hn:=line63;have fin:EP X pins σ Q w s:=⟨z,H,I,rw',q⟩;exact subscriptTail_builtinR (x:=w) pl.typeIs slot_tuple_getitem.lookup
  (getItem_tuple (j:=j) (Q:=fun r s'=>r=w∧EP X pins σ Q r s') pl (by lia) (by lia) (by rw[V11,←hl];exact h1) (by simpa using ew) ⟨rfl,fin⟩) hs
theorem Xb:Pz X DS:=by
 intro value slice pins s σ H x y v u Q I rx ry h hs;obtain⟨z,i,c,rfl,rfl,hz,he,q⟩:=h;obtain⟨t,rfl⟩:=rx;obtain⟨t',rfl⟩:=ry;obtain⟨j,h1,h2,h3,h4,h5⟩:=uR he;have hl:z.cps.toList.length=z.length:=by simp[Str.length]
 rw[hl]at h1 h4 h5;have hn:=line63;exact tail_any (typeIs_str s z t) slot_str_getitem.lookup (getItem_str (c:=c) (by
  have e1:decide (i < -(2^63:Int))=false:=W19 (by lia);have e2:decide (i≥2^63)=false:=W19 (by lia);rw[e1,e2,Bool.or_false]) (by rw[h1];simpa using h2) ⟨.str ⟨#[c]⟩,H,I.tok _,⟨_,rfl⟩,q⟩) hs
def JV(K:Fg9):R2:=fun x y H Q=>DQ K x y H Q∨DR K x y H Q∨DS x y H Q
theorem Xc:Pz X (JV X.K):=Qa.or (Xa.or Xb)
theorem zL(its:List Value)(n j:Nat)(u:Value):Obj.mapSeq (·.setIfInBounds j u) { cls:=.type "list",data:=.seq its.toArray n }={ cls:=.type "list",data:=.seq (its.set j u).toArray n }:=by
 simp[Obj.mapSeq]
theorem Inv.lst{pins:List (Addr×Obj)}{σ:St}{H:Hp}{s:Shared}{p:Addr}{xs:List V}(I:Inv X pins σ H s)(h:H p=some (.lst xs)):
  ∃(its:List Value) (n:Nat),Vals xs its∧s.heap.get? p=some { cls:=.type "list",data:=.seq its.toArray n }∧xs.length≤sizeLine:=by
 obtain⟨z,its,n,r,e⟩:=I.hok p _ h;exact⟨its,n,r,e,z⟩
theorem Inv.lstUpd{H:Hp}{p:Addr}{xs ys:List V}{its its':List Value}{n n':Nat}{f:Obj→Obj}(I:Inv X pins σ H s)(h:H p=some (.lst xs))
  (ho:s.heap.get? p=some { cls:=.type "list",data:=.seq its.toArray n })(hf:f { cls:=.type "list",data:=.seq its.toArray n }={ cls:=.type "list",data:=.seq its'.toArray n' })(r:Vals ys its')(hz:ys.length≤sizeLine)(t:Nat):
  Inv X pins σ (upd H p (.lst ys)) { s with heap:=s.heap.update p f,toks:=t }:=by
 have e:(s.heap.update p f).get? p=some { cls:=.type "list",data:=.seq its'.toArray n' }:=by
  rw[Y27 f ho (by rw[hf]<;>rfl),hf]
 refine I.write (x:=p) (e:=p) (by rw[h];trivial) (.inl rfl) (fun b u hb q=>(V23 _ _ (Ne.symm hb)).trans q) ⟨_,e⟩ ?_;exact⟨hz,its',n',r,e⟩
def DT:V→V→V→Hp→(Hp→Prop)→Prop:=fun o i v H Q=>∃p xs k j,o=.ref p∧i=.int k∧H p=some (.lst xs)∧wO xs.length k=some j∧Q (upd H p (.lst (xs.set j v)))
theorem set_list:PSet X DT:=by
 intro pins s σ H o i v ov iv u Q I ro ri rv h;obtain⟨p,xs,k,j,rfl,rfl,hp,hj,q⟩:=h;cases ro;obtain⟨t,rfl⟩:=ri;obtain⟨its,n,r,ho,hz⟩:=I.lst hp;obtain⟨h1,h2,h3,h4⟩:=Bu hj;have hl:=r.length;have hn:=line63;have I':Inv X pins σ (upd H p (.lst (xs.set j v))) { s with heap:=s.heap.update p (Obj.mapSeq (·.setIfInBounds j u)) }:=
  I.lstUpd hp ho (zL its n j u) (r.set rv j) (by rw[U33];exact hz) s.toks
 by_cases h0:0≤k
 ·have hk:k.toNat=j:=by
   rw[seqIndex_of h0 h4]at h1;exact Y17 h1
  exact PySem.W.ki_setAt ho h0 (by lia) (by rw[V11,←hl];exact h4) (by rw[hk];exact⟨_,I',q⟩)
 ·have hk:(k+(its.toArray.size:Int)).toNat=j:=by
   rw[seqIndex_neg (by lia) h3]at h1;rw[V11,←hl];exact Y17 h1
  exact PySem.W.ki_setBack ho (by lia) (by rw[V11,←hl];exact h3) (by lia) (by rw[hk];exact⟨_,I',q⟩)
theorem uT(lo hi:Option Int)(n:Nat):(sliceBounds lo hi none n).1=((HT.dY n 0 lo:Nat):Int)∧(sliceBounds lo hi none n).2.1=((HT.dY n n hi:Nat):Int)∧(sliceBounds lo hi none n).2.2=1:=by
 refine⟨?_,?_,rfl⟩
 ·cases lo with
  |none=>simp[sliceBounds,HT.dY]
  |some i=>
   simp only[sliceBounds,HT.dY,Option.getD_none,show(1:Int) > 0 by decide,if_true]
   by_cases h:i<0
   ·simp only[h,if_true]<;>lia
   ·simp only[h,if_false]<;>lia
 ·cases hi with
  |none=>simp[sliceBounds,HT.dY]
  |some i=>
   simp only[sliceBounds,HT.dY,Option.getD_none,show(1:Int) > 0 by decide,if_true]
   by_cases h:i<0
   ·simp only[h,if_true]<;>lia
   ·simp only[h,if_false]<;>lia
theorem sH(its:List Value)(lo hi:Option Int):slicePick its.toArray lo hi none=((its.drop (HT.dY its.length 0 lo)).take (HT.dY its.length its.length hi-HT.dY its.length 0 lo)).toArray:=by
 obtain⟨h1,h2,h3⟩:=uT lo hi its.toArray.size;unfold slicePick;rw[h1,h2,h3];simp only[sliceRange_one,pick_run,V11]<;>rfl
def IK(K:Fg9):V→Option Int→Option Int→Hp→VK→Prop:=fun x lo hi H Q=>∃a xs,x=.ref a∧fE K H a xs∧∀p,H p=none→Q (.ref p) (upd H p (.lst (qF xs lo hi)))
theorem Qb:Ex X (IK X.K):=by
 intro pins s σ H x v vl vu lo hi sl Q I rx hs pl pu h;obtain⟨a,xs,rfl,hx,q⟩:=h;cases rx;obtain⟨its,r,ht,hz⟩:=I.list hx;have hlen:=r.length;refine⟨"list",_,slot_list_getitem.lookup,ht.isList.typeIs,?_⟩;refine wpAny_getItem_list_slice ht.isList hs pl pu .none (by simp) ?_ (by rw[V11]<;>lia);rw[sH,←hlen];refine⟨.ref s.heap.objs.size,_,I.laid (t':=s.toks) (o:=.lst (qF xs lo hi)) (fun b ob q=>V10 _ q) (W11 _) ?_,rfl,q _ (I.hok.fresh (W11 _))⟩;exact⟨Y14 (oM xs lo hi) hz,_,0,(r.drop (HT.dY xs.length 0 lo)).take (HT.dY xs.length xs.length hi-HT.dY xs.length 0 lo),Z11 _ rfl⟩
def jB:V→Bool
 |.non=>true
 |.bl _=>true
 |.int _=>true
 |.str _=>true
 |_=>false
noncomputable def Uh:V→V→Bool
 |.non,.non=>true
 |.bl a,.bl b=>a==b
 |.bl a,.int b=>(if a then 1 else 0)==b
 |.int a,.bl b=>a==(if b then 1 else 0)
 |.int a,.int b=>a==b
 |.str a,.str b=>a==b
 |_,_=>false
theorem Xd{A:Around}{y x:V}{u:Value}(ry:RelV y u)(rx:RelV x v)(fy:jB y=true)(fx:jB x=true):SeqAt.EqAt A s u v (Uh y x):=by
 cases y with
 |non=>
  cases ry;cases x with
  |non=>cases rx;exact SeqAt.EqAt.same _
  |bl b=>cases rx;exact SeqAt.EqAt.none_bool b
  |int b=>obtain⟨t,rfl⟩:=rx;exact SeqAt.EqAt.none_int b t
  |str b=>obtain⟨t,rfl⟩:=rx;exact SeqAt.EqAt.none_str b t
  |_=>exact absurd (show false=true from fx) W16
 |bl a=>
  cases ry;cases x with
  |non=>cases rx;exact SeqAt.EqAt.bool_none a
  |bl b=>cases rx;exact SeqAt.EqAt.bool_bool a b
  |int b=>obtain⟨t,rfl⟩:=rx;exact SeqAt.EqAt.bool_int a b t
  |str b=>obtain⟨t,rfl⟩:=rx;exact SeqAt.EqAt.bool_str a b t
  |_=>exact absurd (show false=true from fx) W16
 |int a=>
  obtain⟨t',rfl⟩:=ry;cases x with
  |non=>cases rx;exact SeqAt.EqAt.int_none a t'
  |bl b=>cases rx;exact SeqAt.EqAt.int_bool a t' b
  |int b=>obtain⟨t,rfl⟩:=rx;exact SeqAt.EqAt.int_int a t' b t
  |str b=>obtain⟨t,rfl⟩:=rx;exact SeqAt.EqAt.int_str a t' b t
  |_=>exact absurd (show false=true from fx) W16
 |str a=>
  obtain⟨t',rfl⟩:=ry;cases x with
  |non=>cases rx;exact SeqAt.EqAt.str_none a t'
  |bl b=>cases rx;exact SeqAt.EqAt.str_bool a t' b
  |int b=>obtain⟨t,rfl⟩:=rx;exact SeqAt.EqAt.str_int a t' b t
  |str b=>obtain⟨t,rfl⟩:=rx;exact SeqAt.EqAt.str_str a t' b t
  |_=>exact absurd (show false=true from fx) W16
 |_=>exact absurd (show false=true from fy) W16
def zM(x:V)(u:Value):Bool:=match u with
 |.none=>Uh .non x
 |.bool b=>Uh (.bl b) x
 |.int i _=>Uh (.int i) x
 |.str z _=>Uh (.str z) x
 |_=>false
theorem Ii{x y:V}{u:Value}(r:RelV y u)(f:jB y=true):zM x u=Uh y x:=by
 cases y with
 |non=>cases r;rfl
 |bl b=>cases r;rfl
 |int i=>obtain⟨t,rfl⟩:=r;rfl
 |str z=>obtain⟨t,rfl⟩:=r;rfl
 |_=>exact absurd (show false=true from f) W16
theorem mK{x:V}:∀{xs:List V} {us:List Value},Vals xs us→xs.all jB=true→us.any (zM x)=xs.any fun y=>Uh y x
 |_,_,.nil,_=>rfl
 |y::xs,u::us,.cons r t,f=>by
  rw[Z24,Y11]at f;rw[W38,W38,Ii r f.1,mK t f.2]
theorem kA{A:Around}{s:Shared}{x:V}{v:Value}(rx:RelV x v)(fx:jB x=true):∀{xs:List V} {us:List Value},Vals xs us→xs.all jB=true→∀u∈us,SeqAt.EqAt A s u v (zM x u)
 |_,_,.nil,_=>fun u hu=>by cases hu
 |y::xs,u::us,.cons r t,f=>fun u' hu=>by
  rw[Z24,Y11]at f;rcases Z13.mp hu with rfl|hu
  ·rw[Ii r f.1];exact Xd r rx f.1 fx
  ·exact kA rx fx t f.2 u' hu
def wZ(x:V)(xs:List V):Bool:=xs.any fun y=>Uh y x
def JW(K:Fg9)(neg:Bool):R2:=fun x y H Q=>∃p xs,y=.ref p∧(fE K H p xs∨gR K H p xs)∧jB x=true∧xs.all jB=true∧Q (.bl (if neg then !wZ x xs else wZ x xs)) H
theorem Ey:eG X (compareOp .In) (JW X.K false):=by
 intro pins s σ H x y v u Q I rx ry h;obtain⟨p,xs,rfl,hq,fx,fs,q⟩:=h;cases ry;rcases hq with hq|hq
 ·obtain⟨its,r,pl,hz⟩:=I.list hq;refine SeqAt.in_listAt (zM x) pl.isList (fun w hw=>kA rx fx r fs w (by simpa using hw)) ⟨.bl _,H,I,rfl,?_⟩;rw[show its.toArray.any (zM x)=its.any (zM x) by simp,mK r fs];exact q
 ·obtain⟨its,r,pl,hz⟩:=I.tuple hq;refine SeqAt.in_tupleAt (zM x) pl (fun w hw=>kA rx fx r fs w (by simpa using hw)) ⟨.bl _,H,I,rfl,?_⟩;rw[show its.toArray.any (zM x)=its.any (zM x) by simp,mK r fs];exact q
theorem uU:eG X (compareOp .NotIn) (JW X.K true):=by
 intro pins s σ H x y v u Q I rx ry h;obtain⟨p,xs,rfl,hq,fx,fs,q⟩:=h;cases ry;rcases hq with hq|hq
 ·obtain⟨its,r,pl,hz⟩:=I.list hq;refine SeqAt.notIn_listAt (zM x) pl.isList (fun w hw=>kA rx fx r fs w (by simpa using hw)) ⟨.bl _,H,I,rfl,?_⟩;rw[show its.toArray.any (zM x)=its.any (zM x) by simp,mK r fs];exact q
 ·obtain⟨its,r,pl,hz⟩:=I.tuple hq;refine SeqAt.notIn_tupleAt (zM x) pl (fun w hw=>kA rx fx r fs w (by simpa using hw)) ⟨.bl _,H,I,rfl,?_⟩;rw[show its.toArray.any (zM x)=its.any (zM x) by simp,mK r fs];exact q
theorem uV:dB X (.type "list") (fun xs H Q=>∃p ys,xs=[.ref p]∧(fE X.K H p ys∨gR X.K H p ys)∧∀l,H l=none→Q (.ref l) (upd H l (.lst ys))):=by
 intro pins s σ H xs us Q I r h;obtain⟨p,ys,rfl,hq,q⟩:=h;obtain⟨u,rfl,rx⟩:=vals1 r;cases rx;have fin:∀(its:List Value),Vals ys its→ys.length≤sizeLine→∀(h':Heap) (c':Nat),(∀b o',s.heap.get? b=some o'→h'.get? b=some o')→
   h'.get? s.heap.objs.size=some { cls:=.type "list",dict:=none,data:=.seq its.toArray c',slots:=#[] }→EP X pins σ Q (.ref s.heap.objs.size) { s with heap:=h' }:=fun its r' hz h' c' kp e=>
  ⟨.ref s.heap.objs.size,_,I.laid (t':=s.toks) kp (W11 _) (show cK X.prog X.w _ h' _ (.lst ys) from⟨hz,its,c',r',e⟩),rfl,q _ (I.hok.fresh (W11 _))⟩
 rcases hq with hq|hq
 ·obtain⟨its,r',pl,hz⟩:=I.list hq;have hlen:=r'.length;obtain⟨o,ho,hc,n,hd⟩:=pl.isList;exact call_list_seq p (.inl rfl) ho hc hd (fun h' c' kp e=>fin its r' hz h' c' kp e) (by simp only[V11]<;>lia)
 ·obtain⟨its,r',pl,hz⟩:=I.tuple hq;have hlen:=r'.length;obtain⟨o,ho,hc,n,hd⟩:=pl;exact call_list_seq p (.inr rfl) ho hc hd (fun h' c' kp e=>fin its r' hz h' c' kp e) (by simp only[V11]<;>lia)
theorem sJ:dB X (.type "tuple") (fun xs H Q=>∃p ys,xs=[.ref p]∧((fE X.K H p ys∧∀l,H l=none→Q (.ref l) (upd H l (.tup ys)))∨(gR X.K H p ys∧Q (.ref p) H))):=by
 intro pins s σ H xs us Q I r h;obtain⟨p,ys,rfl,h⟩:=h;obtain⟨u,rfl,rx⟩:=vals1 r;cases rx;rcases h with⟨hq,q⟩|⟨hq,q⟩
 ·obtain⟨its,r',pl,hz⟩:=I.list hq;have hlen:=r'.length;refine call_tuple_list pl.isList (fun h' kp=>?_) (by simp only[V11]<;>lia);have I1:Inv X pins σ H { s with heap:=h' }:=I.kept (t':=s.toks) kp;have I2:Inv X pins σ (upd H h'.objs.size (.tup ys)) { s with heap:=h'.push { cls:=.type "tuple",data:=.seq its.toArray } }:=
   I1.laid (t':=s.toks) (fun b o e=>V10 _ e) (W11 _) (show cK X.prog X.w _ _ _ (.tup ys) from⟨hz,its,r',IsTup.new _ _⟩)
  exact⟨.ref h'.objs.size,_,I2,rfl,q _ (I1.hok.fresh (W11 _))⟩
 ·obtain⟨its,r',pl,hz⟩:=I.tuple hq;exact call_tuple_same pl ⟨.ref p,H,I,rfl,q⟩
def HA(K:Fg9)(T:String)(x:V)(H:Hp):Prop:=match x with
 |.str _=>T="str"
 |.int _=>T="int"
 |.ref p=>(T="list"∧∃xs,fE K H p xs)∨(T="tuple"∧∃o,K.lookup p=some o∧o.cls=.type "tuple"∧o.dict=none)∨
   (T="dict"∧((∃kvs,H p=some (.dK kvs))∨∃kvs,H p=some (.dT kvs)))∨(T="set"∧∃S n,H p=some (.set S n))
 |_=>False
theorem Ij{H:Hp}{T:String}{x:V}(I:Inv X pins σ H s)(r:RelV x v)(ty:HA X.K T x H):
  s.TypeIs v T∧∀a,v=.ref a→∃ob,s.heap.get? a=some ob∧ob.dict=none:=by
 cases x with
 |str z=>
  obtain⟨t,rfl⟩:=r;cases (show T="str" from ty);exact⟨typeIs_str s z t,fun _ e=>nomatch e⟩
 |int i=>
  obtain⟨t,rfl⟩:=r;cases (show T="int" from ty);exact⟨typeIs_int s i t,fun _ e=>nomatch e⟩
 |ref p=>
  cases r;rcases ty with⟨rfl,xs,hq⟩|⟨rfl,o,hk,hc,hd⟩|⟨rfl,hk⟩|⟨rfl,S,n,hk⟩
  ·obtain⟨its,_,pl,_⟩:=I.list hq;refine⟨pl.isList.typeIs,fun a e=>?_⟩;cases e;obtain⟨o,n,e,c,hd,_⟩:=pl;exact⟨o,e,hd⟩
  ·refine⟨⟨o,I.kIn p o hk,hc⟩,fun a e=>?_⟩;cases e;exact⟨o,I.kIn _ o hk,hd⟩
  ·have z:∃o,s.heap.get? p=some o∧o.ExactDict:=by
    rcases hk with⟨kvs,hk⟩|⟨kvs,hk⟩
    ·obtain⟨_,_,_,_,o,_,_,e,ex,_⟩:=I.hok p _ hk;exact⟨o,e,ex⟩
    ·obtain⟨_,_,_,_,o,_,_,e,ex,_⟩:=I.hok p _ hk;exact⟨o,e,ex⟩
   obtain⟨o,e,ex⟩:=z;refine⟨⟨o,e,ex.1⟩,fun a e2=>?_⟩;cases e2;exact⟨o,e,ex.2.1⟩
  ·obtain⟨o,_,_,_,e,ex,_⟩:=I.hok p _ hk;refine⟨⟨o,e,ex.1⟩,fun a e2=>?_⟩;cases e2;exact⟨o,e,ex.2.1⟩
 |_=>exact False.elim ty
def IL(K:Fg9)(T:String)(r:V→List V→Hp→VK→Prop)(to:TE):TE:=fun σ H Q=>to σ H fun x H1=>HA K T x H1∧r x [] H1 Q
def KL(K:Fg9)(T:String)(r:V→List V→Hp→VK→Prop)(to:TE)(t:TA):TE:=fun σ H Q=>to σ H fun x H1=>HA K T x H1∧t σ H1 fun xs H2=>r x xs H2 Q
variable{o e:Expr}{es:List Expr}{to:TE}{t:TA}{name:Str}{apos cpos:Pos}{T id:String}{r:V→List V→Hp→VK→Prop}
theorem Xe(pa:PlainAttrs T)(slot:Slot T name id)(hty:typeOf (.builtin id)=pure (.type "method_descriptor"))(hm:sD X id r)(ho:PE X o to)
  (hbase:attributeBase o name X.env (eval o X.env)=eval o X.env:=by rfl)(hline:(apos.endLine==cpos.line)=true:=by rfl):PE X (.Call (.Attribute o name apos) [] [] cpos) (IL X.K T r to):=by
 intro pins s σ H Q I h;refine wpAny_Call_method0_late hbase hline (thn (ho pins s σ H _ I h) fun v s1 ⟨x,H1,I1,r1,ty,q1⟩=>?_);obtain⟨h1,h2⟩:=Ij I1 r1 ty;exact⟨T,id,pa,slot,hty,h1,h2,Y29 rfl (PySem.evalArgs_none (hm pins s1 σ H1 x [] v [] Q I1 r1 .nil q1))⟩
theorem DU(pa:PlainAttrs T)(slot:Slot T name id)(hty:typeOf (.builtin id)=pure (.type "method_descriptor"))(hm:sD X id r)(ho:PE X o to)(ha:PA X (e::es) t)
  (hbase:attributeBase o name X.env (eval o X.env)=eval o X.env:=by rfl)
  (hfew:((backTo cpos (starEach (e::es) X.env)).all (fun x=>!x.1)&&(backToKw cpos (keywordEach [] X.env)).all (fun x=>x.1.isSome)
   &&decide ((e::es).length+([]:List Keyword).length+(if([]:List Keyword).isEmpty then 0 else 1)<30))=true:=by rfl)
  (hline:(apos.endLine==cpos.line)=true:=by rfl)(hs:starEach (e::es) X.env=(false,eval e X.env)::starEach es X.env:=by rfl)(hplain:(backTo cpos (starEach es X.env)).any (·.1)=false:=by rfl):
  PE X (.Call (.Attribute o name apos) (e::es) [] cpos) (KL X.K T r to t):=by
 intro pins s σ H Q I h;refine wpAny_Call_method_late hbase hfew hline rfl (thn (ho pins s σ H _ I h) fun v s1 ⟨x,H1,I1,r1,ty,q1⟩=>?_);obtain⟨h1,h2⟩:=Ij I1 r1 ty;refine⟨T,id,pa,slot,hty,h1,h2,?_⟩;have hA:=ha cpos pins s1 σ H1 _ I1 q1;rw[hs]at hA⊢;refine Y29 (by show(false || (backTo cpos (starEach es X.env)).any (·.1))=false;rw[hplain]<;>rfl) (Calls.evalArgs_plain ?_);exact thn hA fun us s2 ⟨vs,H2,I2,r2,q2⟩=>hm pins s2 σ H2 x vs v us Q I2 r1 r2 q2
end
def HB(X:Cx)(id:String)(r:V→List V→Hp→VK→Prop):Prop:=
 ∀(pins:List (Addr×Obj)) (s:Shared) (σ:St) (H:Hp) (x:V) (xs:List V) (v:Value) (us:List Value) (Q:VK),Inv X pins σ H s→RelV x v→Vals xs us→r x xs H Q→
  wpAny (model X.prog X.w) X.A (call (.builtin id) (v::us)) (EP X pins σ Q) X.xe s
theorem Vals.one:∀{x:V} {us:List Value},Vals [x] us→∃u,us=[u]∧RelV x u
 |_,_,.cons r .nil=>⟨_,rfl,r⟩
theorem Vals.zero:∀{us:List Value},Vals [] us→us=[]
 |_,.nil=>rfl
theorem Vals.dropLast{xs:List V}{us:List Value}(h:Vals xs us):Vals xs.dropLast us.dropLast:=by
 induction h with
 |nil=>exact .nil
 |cons r t ih=>
  cases t with
  |nil=>exact .nil
  |cons q t'=>exact .cons r ih
theorem zN(l:List α):l.eraseIdx (l.length-1)=l.dropLast:=by
 induction l with
 |nil=>rfl
 |cons a r ih=>
  cases r with
  |nil=>rfl
  |cons b r=>
   have e:(a::b::r).length-1=((b::r).length-1)+1:=by
    have h1:(a::b::r).length=r.length+2:=rfl;have h2:(b::r).length=r.length+1:=rfl
    lia
   rw[e,List.eraseIdx_cons_succ,ih]
   all_goals rfl
section
variable {n t':Nat}
variable{X:Cx}{pins:List (Addr×Obj)}{σ:St}{H:Hp}{s:Shared}{l b:Addr}{xs ys zs:List V}
theorem Inv.lset{its its':List Value}{f:Array Value→Array Value}(I:Inv X pins σ H s)(hH:H l=some (.lst xs))
  (e:s.heap.get? l=some { cls:=.type "list",data:=.seq its.toArray n })(hf:f its.toArray=its'.toArray)(hv:Vals ys its')(hz:ys.length≤sizeLine):
  Inv X pins σ (upd H l (.lst ys)) { s with heap:=s.heap.update l (Obj.mapSeq f),toks:=t' }:=by
 have q:=PySem.IsL.update e f;rw[hf]at q;refine I.write (x:=l) (e:=l) (by rw[hH];exact trivial) (.inl rfl) (fun b' u hb hu=>(V23 s.heap (Obj.mapSeq f) (Ne.symm hb)).trans hu) ⟨_,q⟩ ?_;exact⟨hz,its',_,hv,q⟩
theorem Inv.lnew{its:List Value}(I:Inv X pins σ H s)(hv:Vals ys its)(hz:ys.length≤sizeLine):
  Inv X pins σ (upd H s.heap.objs.size (.lst ys)) { s with heap:=s.heap.push { cls:=.type "list",data:=.seq its.toArray },toks:=t' }:=
 I.laid (fun _ _ q=>V10 _ q) (W11 _) ⟨hz,its,0,hv,Z11 _ rfl⟩
theorem Inv.fresh(I:Inv X pins σ H s):H s.heap.objs.size=none:=I.hok.fresh (W11 _)
theorem Inv.lstM(I:Inv X pins σ H s)(hH:H l=some (.lst xs)):xs.length≤sizeLine∧∃(its:List Value) (n:Nat),Vals xs its∧xs.length=its.length∧s.heap.get? l=some { cls:=.type "list",data:=.seq its.toArray n }:=by
 obtain⟨z,its,n,r,e⟩:=I.hok l _ hH;exact⟨z,its,n,r,r.length,e⟩
theorem qH(h:n≤sizeLine):Builtin.List.listTooLong n=false:=by
 unfold Builtin.List.listTooLong;exact W19 (by lia)
end
section
variable{X:Cx}
def Bv:V→List V→Hp→VK→Prop:=fun x vs H Q=>∃l xs y,x=.ref l∧vs=[y]∧H l=some (.lst xs)∧xs.length<sizeLine∧Q .non (upd H l (.lst (xs++[y])))
theorem Ez:HB X "list.append" Bv:=by
 intro pins s σ H x vs v us Q I rx rv h;obtain⟨l,xs,y,rfl,rfl,hH,hz,q⟩:=h;cases rx;obtain⟨u,rfl,ru⟩:=rv.one;obtain⟨z,its,n,r,hl,e⟩:=I.lstM hH;refine call_meets F.slot_list_append ⟨_,e,rfl⟩ F.entry_list_append (F.args_list_append_2 _ _) (PySem.list_append l its.toArray n u (by rw[V11];lia)) ⟨e,?_⟩;refine⟨.non,_,I.lset (its':=its++[u]) hH e (by simp) (r.append (.cons ru .nil)) ?_,rfl,q⟩;rw[V12,List.length_singleton]
 lia
def Bw:V→List V→Hp→VK→Prop:=fun x vs H Q=>∃l b xs zs,x=.ref l∧vs=[.ref b]∧H l=some (.lst xs)∧H b=some (.lst zs)∧xs.length+zs.length≤sizeLine∧Q .non (upd H l (.lst (xs++zs)))
theorem Fb:HB X "list.extend" Bw:=by
 intro pins s σ H x vs v us Q I rx rv h;obtain⟨l,b,xs,zs,rfl,rfl,hH,hB,hz,q⟩:=h;cases rx;obtain⟨u,rfl,ru⟩:=rv.one;cases ru;obtain⟨z,its,n,r,hl,e⟩:=I.lstM hH;obtain⟨z2,its2,n2,r2,hl2,e2⟩:=I.lstM hB;have hsz:its.toArray.size+its2.toArray.size≤sizeLine:=by rw[V11,V11];lia
 have hlong:¬ (!its.toArray.isEmpty&&Builtin.List.listTooLong (its.toArray.size+its2.toArray.size))=true:=by
  rw[qH hsz,Bool.and_false];exact W16
 refine call_meets F.slot_list_extend ⟨_,e,rfl⟩ F.entry_list_extend (F.args_list_extend_2 _ _)
  (AutoSeq1.list_extend_list_list_0 l its.toArray n b its2.toArray n2 hlong (by rw[V11];lia) (by lia)) ⟨e,e2,?_⟩
 refine⟨.non,_,I.lset (its':=its++its2) hH e (by simp) (r.append r2) ?_,rfl,q⟩;rw[V12]
 lia
def DV:V→List V→Hp→VK→Prop:=fun x vs H Q=>∃l xs y,x=.ref l∧vs=[]∧H l=some (.lst xs)∧xs[xs.length-1]?=some y∧Q y (upd H l (.lst xs.dropLast))
theorem Xf:HB X "list.pop" DV:=by
 intro pins s σ H x vs v us Q I rx rv h;obtain⟨l,xs,y,rfl,rfl,hH,hy,q⟩:=h;cases rx;have hus:=rv.zero;subst hus;obtain⟨z,its,n,r,hl,e⟩:=I.lstM hH;obtain⟨u,hu,ru⟩:=r.get hy;have hy':its.toArray[its.toArray.size-1]?=some u:=by
  show its.toArray[its.length-1]?=some u;rw[←W24,←hl];exact hu
 refine call_meets F.slot_list_pop ⟨_,e,rfl⟩ F.entry_list_pop (F.args_list_pop_1 _) (MeetsSeq.list_pop_last l its.toArray n u hy' (by rw[V11];lia)) ⟨e,?_⟩;refine⟨y,_,I.lset (its':=its.dropLast) hH e ?_ r.dropLast ?_,ru,q⟩
 ·show its.toArray.eraseIdxIfInBounds (its.toArray.size-1)=its.dropLast.toArray;rw[V11,List.eraseIdxIfInBounds_toArray,zN]
 ·rw[List.length_dropLast]
  lia
def IM:R2:=fun x y H Q=>∃l b xs zs,x=.ref l∧y=.ref b∧H l=some (.lst xs)∧H b=some (.lst zs)∧xs.length+zs.length≤sizeLine∧∀p,H p=none→Q (.ref p) (upd H p (.lst (xs++zs)))
theorem Xg:eG X (binaryOp .Add) IM:=by
 intro pins s σ H x y v u Q I rx ry h;obtain⟨l,b,xs,zs,rfl,rfl,hH,hB,hz,q⟩:=h;cases rx;cases ry;obtain⟨z,its,n,r,hl,e⟩:=I.lstM hH;obtain⟨z2,its2,n2,r2,hl2,e2⟩:=I.lstM hB;refine PySem.P.add_list e e2 ?_ (by rw[V11,V11];lia);have ea:its.toArray++its2.toArray=(its++its2).toArray:=by simp
 rw[ea];exact⟨.ref _,_,I.lnew (t':=s.toks) (r.append r2) (by rw[V12];lia),rfl,q _ I.fresh⟩
end
end L2
namespace Att
variable {P:Params}{h:Heap}{l:OpenLaw}{n:Nat}
open PySem PySem.W PySem.Calls PyProof.Rows
theorem pB:∀(ns:List Int) (vs:List Value),WellAll P h vs (ns.map WData.int)→IntsAre vs ns:=by
 intro ns
 induction ns with
 |nil=>
  intro vs w;rw[W21]at w;cases w;exact .nil
 |cons n ns ih=>
  intro vs w;rw[Z12]at w;cases w with
  |cons a b=>
   cases a;exact .cons _ _ (ih _ b)
theorem Fc(hn:l.most=some n){args:List WData}{vals:List Value}
  (hpre:l.row.toRowW.claim.pre args=true)(hwl:WellAll P h vals args):
  ∃a vs ns,vals=[Value.ref a]∧args=[WData.list (ns.map WData.int)]∧h.get? a=some { cls:=.type "list",data:=.seq vs.toArray }∧IntsAre vs ns∧ns.length≤n:=by
 have hsh:WShape.hasAll [] args [.list .int]=true:=(pre_splitW hpre).1;have hc:l.pre.holds [] { args:=args }=true:=(pre_splitW hpre).2;obtain⟨d,r,rfl,h1,h2⟩:=hasAllW_cons hsh;obtain rfl:=hasAllW_nil h2;obtain⟨xs,rfl,h3⟩:=hasW_list h1;obtain⟨ns,rfl⟩:=items_int h3;have hlen:ns.length≤n:=by
  unfold OpenLaw.pre at hc;have h4:(WTm.not (.lt (.lit (.int (n:Int))) (.len (.arg 0)))).holds [] { args:=[.list (ns.map .int)] }=true:=by
   have h4:=(holds_andW hc).1;rw[hn]at h4;exact h4
  have h5:=condW_of h4 (w_not (w_lt w_lit (w_len_list (w_arg rfl))));rw[U12]at h5;refine Nat.le_of_not_lt fun q=>?_;have q':(n:Int) < ((ns.length:Nat):Int):=by lia
  first
   |(rw[Y33 q']at h5;exact absurd h5 (by decide))
   |(simp at h5;lia)
 cases hwl with
 |cons w1 w2=>
  cases w2;cases w1 with
  |list ho hall=>exact⟨_,_,ns,rfl,rfl,ho,pB ns _ hall,hlen⟩
theorem Fd(l:OpenLaw)(args:List WData):l.row.toRowW.claim.post args (.bool true) args=true:=
 postW_of (r:=l.row.toRowW) (X:=(true==true))
  (show WShape.has [] (.bool true) .bool=true by first|rfl|decide|simp[WShape.has,WShape.arms,WShape.armsAll])
  (show(WTm.eq .res (.lit (.bool true))).value [] { args:=args,res:=some (.bool true),after:=args }=some (.bool (true==true)) from w_eq_bool (w_res rfl) w_lit) rfl
theorem attach_call{q:Program}{loose:List Str}{XP:(Str→Option Value)→Heap→Prop}{YP:World→Heap→Prop}{d:DefRec}
  (hn:l.most=some n)(hdf:d.params.defaults=[])
  (call:∀(w:World) (s₀ s₁:Shared) (mg mb:Str→Option Value) (fa:Addr) (o:Obj) (pm cd doc:Value) (a:Addr) (vs:List Value) (ns:List Int),
   Ground q loose [] XP w s₀ mg mb s₁.heap→YP w s₁.heap→
   s₁.heap.get? fa=some o→o.data=.func (docDef d.name d.params d.body d.scope pm cd doc)→s₁.heap.CodeRec cd d.name→mg d.name=some (.ref fa)→
   s₁.heap.get? a=some { cls:=.type "list",data:=.seq vs.toArray }→IntsAre vs ns→ns.length≤n→s₁.gens=#[]→
   codeAny (model l.prog w) callerA (.call (.ref fa) ⟨[.ref a],[]⟩) (fun r s'=>r=.ok (.ret (.bool true))∧OldK s₁.heap s'.heap∧s'.os=s₁.os∧AllBare s'.gens) s₁):
  WalkO q loose XP YP l.row.toRowW d [] (fun f vs=>PySem.call f vs):=by
 intro w s₀ s₁ mg mb G Y fa o pm cd doc dV kV ho hd hcd hD hmg hg args vals as hpre hlay hrd hwl hlo;obtain rfl:dV=.none:=Dflts.none hD hdf;obtain rfl:kV=.none:=Dflts.noKw hD;obtain⟨a,vs,ns,rfl,rfl,hobj,hints,hlen⟩:=Fc hn hpre hwl;refine enter_call (U41 (call w s₀ s₁ mg mb fa o pm cd doc a vs ns G Y ho (fd_plain hd) hcd hmg hobj hints hlen hg) fun r s' hq=>?_);obtain⟨rfl,h2,h3,h4⟩:=hq;exact⟨.inl ⟨.bool true,.bool true,[],rfl,fun _=>rfl,.bool true,Fd l _,fun _=>⟨List.Pairwise.nil,fun _ hm=>(nomatch hm)⟩⟩,h2,h3,h4⟩
end Att
namespace L2
variable {k:Nat}
open PySem PySem.Spec PyProof.Rows
theorem sY:∀{vs:List Value} {ns:List Int},IntsAre vs ns→Vals (ns.map V.int) vs
 |_,_,.nil=>.nil
 |_,_,.cons n t h=>.cons ⟨t,rfl⟩ (sY h)
def Only(H:Hp):Prop:=∀b,H b=none∨∃o xs,H b=some (.frz o (.lst xs))
theorem Ik{P:Program}{w:World}{K:Fg9}{mg mb:Str→Option Value}{CX:CXT}{fa a:Addr}{fd:FuncData}{x:Str}{sp:Sp}{s₁:Shared}{vs:List Value}{ns:List Int}
  (KX:K.In s₁.heap)(hns:s₁.heap.Ns mainGlobals mg)(hb:s₁.heap.Ns builtinsNs mb)(hbb:∀x:Str,x≠"__name__"→mb x=bootBuiltins x)(hlim:s₁.heap.NoLimit)(hg:s₁.gens=#[])
  (ha:s₁.heap.get? a=some { cls:=.type "list",data:=.seq vs.toArray })(hi:IntsAre vs ns)(hl:ns.length≤sizeLine)(hr:Room k callerA)
  (F:∀base:Heap,K.In base→base.Ns mainGlobals mg→FnOk P w K mg base CX k fa fd [x] sp)(hbind:∀(s:Shared) (u:Value),BindsTo s fd ⟨[u],[]⟩ [(x,u)])
  (hsp:∀H:Hp,Only H→fE K H a (ns.map V.int)→sp [.ref a] H (fun v _=>v=.bl true) fun _ _ _=>False)
  (hCX:∀H e s',CX [] H s₁ (fun _ _ _=>False) e s'→False):
  codeAny (model P w) callerA (.call (.ref fa) ⟨[.ref a],[]⟩) (fun r s'=>r=.ok (.ret (.bool true))∧OldK s₁.heap s'.heap∧s'.os=s₁.os∧AllBare s'.gens) s₁:=by
 have rv:=sY hi;have xS:=hi.length;have core:∀H:Hp,Only H→fE K H a (ns.map V.int)→HOk P w H s₁.heap→(∀b,H b≠none→b=a)→(H a≠none→K.lookup a=none)→
   codeAny (model P w) callerA (.call (.ref fa) ⟨[.ref a],[]⟩) (fun r s'=>r=.ok (.ret (.bool true))∧OldK s₁.heap s'.heap∧s'.os=s₁.os∧AllBare s'.gens) s₁:=by
  intro H hO hS hok hA hK;have fT:∀{b:Addr} {o:Obj},s₁.heap.get? b=some o→H b=none→(uM s₁.heap H).get? b=some o:=fun e n=>Hn e n;have noA:∀{b:Addr} {o:Obj} {es:Array DictEntry} {ep:Nat},s₁.heap.get? b=some o→o.data=.dict es ep→H b=none:=fun {b o es ep} e d=>by
   cases q:H b with
   |none=>rfl
   |some u=>
    have e':b=a:=hA b (by rw[q];simp);subst e';rw[ha]at e;cases e;have d':Data.seq vs.toArray _=Data.dict es ep:=d;cases d'
  have nsK:∀{b:Addr} {m:Str→Option Value},s₁.heap.Ns b m→(uM s₁.heap H).Ns b m:=fun {b m} ⟨o,es,ep,e,d,r⟩=>⟨o,es,ep,fT e (noA e d),d,r⟩;have hKb:K.In (uM s₁.heap H):=fun b o e=>fT (KX b o e) (by
   cases q:H b with
   |none=>rfl
   |some u=>
    have e':b=a:=hA b (by rw[q];simp);subst e';rw[hK (by rw[q];simp)]at e;cases e)
  have hM:Mod K mg (uM s₁.heap H):=⟨hKb,nsK hns,⟨mb,nsK hb,hbb⟩,let ⟨mc,h1,h2⟩:=hlim;⟨mc,nsK h1,h2⟩⟩;have e0:Env0 P w K mg (uM s₁.heap H) callerA [] s₁ H:=⟨rfl,hM,fun b o e=>Oq e,W44 (Ei _ _),trivial,fun b hb=>absurd (show b∈([]:List Addr) from hb) (by simp),hok,.of_eq hg⟩;refine U41 ((F _ hKb (nsK hns)).run callerA [] s₁ H ⟨[.ref a],[]⟩ [.ref a] [.ref a] _ _ hr e0 (hbind s₁ (.ref a)) (.cons rfl .nil) (hsp H hO hS)) fun r s' h=>?_;cases r with
  |error e=>exact(hCX H e s' h).elim
  |ok fl=>
   cases fl with
   |next=>exact False.elim h
   |brk=>exact False.elim h
   |cont=>exact False.elim h
   |ret u=>
    obtain⟨v,H',os,bare,un,hok',r',q⟩:=h;have q':v=.bl true:=q;subst q';obtain rfl:u=Value.bool true:=r';refine⟨rfl,OldK.of_keep fun b o e=>?_,os,bare⟩;cases q:H b with
    |none=>exact un.keep b o e q (by intro z;exact absurd (show b∈([]:List Addr) from z) (by simp)) (by simp)
    |some u=>
     rcases hO b with z|⟨ob,xs,z⟩
     ·rw[q]at z;cases z
     ·have z2:=un.frzs b ob _ z;obtain⟨e1,_⟩:=hok b _ z;obtain⟨e2,_⟩:=hok' b _ z2;rw[e]at e1;cases e1;exact e2
 cases hk:K.lookup a with
 |some o=>
  have e:=KX a o hk;rw[ha]at e;cases e;refine core (fun _=>none) (fun _=>.inl rfl) (.inr ⟨_,vs.toArray,_,hk,rfl,rfl,rfl,by rw[V11,xS];exact hl,by simpa using rv⟩) (fun b u z=>by have z':(none:Option HO)=some u:=z;cases z') (fun b z=>absurd rfl z) fun z=>absurd rfl z
 |none=>
  refine core (fun b=>if b=a then some (.frz { cls:=.type "list",data:=.seq vs.toArray } (.lst (ns.map V.int))) else none) (fun b=>?_) (.inl (.inr ⟨{ cls:=.type "list",data:=.seq vs.toArray },if_pos rfl⟩)) (fun b u z=>?_) (fun b z=>?_) fun _=>hk
  ·by_cases hb:b=a
   ·exact .inr ⟨_,_,if_pos hb⟩
   ·exact .inl (if_neg hb)
  ·by_cases hb:b=a
   ·have z':=(if_pos hb).symm.trans z;cases z';subst hb;exact⟨ha,by rw[U12];exact hl,vs,_,rv,ha⟩
   ·have z':=(if_neg hb).symm.trans z;cases z'
  ·by_cases hb:b=a
   ·exact hb
   ·exact absurd (if_neg hb) z
abbrev CX0:CXT:=fun _ _ _ _ _ _=>False
abbrev E0:XK:=fun _ _ _=>False
theorem pass0{X:Cx}:Passes CX0 X E0:=fun _ _ _ _ _ _ _ h=>h.elim
structure Fun (K:Fg9) (x qual:Str) (st:Stmt) (f:Addr) (fd:FuncData):Prop where
 ex:∃(oc:Value) (od:Option Addr) (kV doc pm:Value) (an:Option Addr) (cdv ct:Value) (osl:Array (Option Value)),
  fd=PySem.W.fnOf x qual (defArgs st) (defBody st) (defScope st) .none kV doc pm an cdv ct∧K.lookup f=some ⟨oc,od,.func fd,osl⟩∧PySem.W.codeIn K cdv qual=true
 kp:PySem.W.keepIn K (.ref f)=true
section
variable {qual:Str}{st:Stmt}{f:Addr}{fd:FuncData}{ps:List Str}
variable{P:Program}{w:World}{K:Fg9}{mg:Str→Option Value}{base:Heap}
theorem Fun.ok{x:Str}{N:List Str}{sp:Sp}(F:Fun K x qual st f fd)(S:FnScope N ps (defScope st))(len:∀vs H Q E,sp vs H Q E→vs.length=ps.length)
  (hbody:∀(cdv:Value) (A:Around) (outer:List Env) (s:Shared) (H:Hp) (vs:List V) (Q:VK) (E:XK),Room k (A.deeper (envOfC qual (defScope st) s.heap.objs.size f cdv))→sp vs H Q E→
   ∃t,PSs (zH CX0 P w K mg base N qual (defScope st) f cdv A outer s H E).nox (defBody st) t∧t { nx:=fun _ H'=>Q .non H',rt:=Q } (start N vs) H):FnOk P w K mg base CX0 (k+1) f fd ps sp:=by
 obtain⟨oc,od,kV,doc,pm,an,cdv,ct,osl,rfl,lk,hcd⟩:=F.ex;refine DM lk hcd S len fun A outer s H vs Q E hr hsp=>?_;obtain⟨t,h,q⟩:=hbody cdv A outer s H vs Q E hr hsp;exact⟨t,h.nox,q⟩
theorem Fun.binds{x:Str}(F:Fun K x qual st f fd)
  (h:∀(kV doc pm:Value) (an:Option Addr) (cdv ct:Value) (us:List Value),us.length=ps.length→bindArgs (PySem.W.fnOf x qual (defArgs st) (defBody st) (defScope st) .none kV doc pm an cdv ct) ⟨us,[]⟩=pure (ps.zip us)):Binds K fd ps []:=by
 obtain⟨oc,od,kV,doc,pm,an,cdv,ct,osl,rfl,lk,hcd⟩:=F.ex;exact .all (h kV doc pm an cdv ct)
theorem zO{x:Str}{oc:Value}{od an:Option Addr}{osl:Array (Option Value)}{kV doc pm cdv ct:Value}(l:K.lookup f=some ⟨oc,od,.func (PySem.W.fnOf x qual (defArgs st) (defBody st) (defScope st) .none kV doc pm an cdv ct),osl⟩)
  (c:PySem.W.codeIn K cdv qual=true)(k:PySem.W.keepIn K (.ref f)=true):Fun K x qual st f (PySem.W.fnOf x qual (defArgs st) (defBody st) (defScope st) .none kV doc pm an cdv ct):=⟨⟨oc,od,kV,doc,pm,an,cdv,ct,osl,rfl,l,c⟩,k⟩
end
theorem DW{A:Around}(hr:Room k A):A.units+1<cLine:=Nat.lt_of_le_of_lt (Nat.add_le_add_left (by decide:1≤64) _) hr.units
def Same(H H':Hp):Prop:=∀b o,H b=some o→H' b=some o
theorem Same.refl(H:Hp):Same H H:=fun _ _ h=>h
def aZ(X:Cx)(N:List Str)(scope:Scope)(cl:List (Str×Addr))(C:Addr)(ex:List Addr)(s:Shared)(H:Hp):Cx:=
 { X with N:=N,s₀:=s,H₀:=H,env:=compEnvC scope cl C X.env,outer:=X.stack,ex:=ex,fn:=fun _=>false,pn:=[],xe:=fun _ _=>False }
def dN(caps:List Nat)(σ:St):St:=caps.map fun j=>(σ[j]?).getD none
structure Caps (X:Cx) (scope:Scope) (x:Str) (cl:List (Str×Addr)) (cn:List Str) (caps:List Nat):Prop where
 clos:closureFor scope X.env=pure cl
 cell:∀y∈scope.names,y.2≠.cell
 kind:scope.kind=.function
 names:∀y∈scope.names,y.2=.local→scope.names.lookup y.1=some .local
 hx:scope.names.lookup x=some .local
 sub:∀y c,cl.lookup y=some c→X.env.cells.lookup y=some c
 has:∀y,((relabel scope X.env).names.lookup y=some .cell∨(relabel scope X.env).names.lookup y=some .free)→∃c,cl.lookup y=some c
 nd:(x::cn).Nodup
 len:cn.length=caps.length
 cap:∀(k:Nat) (y:Str),cn[k]?=some y→∃j:Nat,caps[k]?=some j∧X.N[j]?=some y∧Vis X.env.scope y∧(X.env.kindOf y=some .cell∨X.env.kindOf y=some .free)∧((relabel scope X.env).names.lookup y=some .cell∨(relabel scope X.env).names.lookup y=some .free)
def gH(us:List Value)(n:Nat):Obj:={ cls:=.type "list",data:=.seq us.toArray n }
def Its(x:Str):It:=⟨fun i _=>i<x.cps.size,fun i H v H'=>H'=H∧∃c,x.cps[i]?=some c∧v=.str ⟨#[c]⟩,fun i _=>x.cps.size≤i⟩
theorem Il{P:Program}{w:World}{K:Fg9}{tg:Expr}(it:Addr)(x:Str)(t:Tok)(ty:String)(hty:ty="str_ascii_iterator"∨ty="str_iterator"):Turn P w K tg (Its x) [it] it (fun i h=>h.IsStrIter it ty x t i) where
 mem:=by simp
 obj:=fun i h st b hb=>by
  have e:b=it:=by simpa using hb
  subst e;obtain⟨o,e,c,d⟩:=st;exact⟨o,e,fun v z=>by rw[d]at z;cases z⟩
 keep:=fun i h h' st k=>by
  obtain⟨o,e,r⟩:=st;exact⟨o,k it (by simp) o e,r⟩
 item:=by
  intro X hP hw hK hc i pins s σ H E I hf st hg;subst hP hw hK;obtain⟨f0,f1,f2,f3,f4,f5⟩:=hf it (by simp);have hlt:i<x.cps.size:=hg;have hx:x.cps[i]?=some x.cps[i]:=by simp[hlt]
  have fin:∀h',h'.IsStrIter it ty x t (i+1)→Heap.SameBut it s.heap h'→∃u,some (Value.str ⟨#[x.cps[i]]⟩ s.toks)=some u∧
   wpAny (model X.prog X.w) X.A (letOwnedTupleGo tg (.ref it) u) (fun _ s2=>∃y H',Inv X pins σ H' s2∧RelV y u∧(Its x).yld i H y H'∧s2.heap.IsStrIter it ty x t (i+1)∧∀b∈[it],H' b=none) E { s with heap:=h',toks:=s.toks+1 }:=fun h' st' sb=>by
   have I1:Inv X pins σ H { s with heap:=h',toks:=s.toks+1 }:=I.turned (fun b o hb e=>(sb.2 b hb).trans e) f0 f1 f3 f4 f5;obtain⟨o,e,c,d⟩:=id st';refine⟨_,rfl,Bs (s:={ s with heap:=h',toks:=s.toks+1 }) (n:=ty) e c d ?_ ⟨.str ⟨#[x.cps[i]]⟩,H,I1,⟨_,rfl⟩,⟨rfl,_,hx,rfl⟩,st',fun b hb=>(hf b hb).1⟩⟩;rcases hty with rfl|rfl<;>decide
  rcases hty with rfl|rfl
  ·exact wpAny_pyNext_ascii_item st hx fin
  ·exact wpAny_pyNext_wide_item st hx fin
 done:=by
  intro X hP hw hK hc i pins s σ H E I hf st hg;subst hP hw hK;obtain⟨f0,f1,f2,f3,f4,f5⟩:=hf it (by simp);have hx:x.cps[i]?=none:=by
   have:x.cps.size≤i:=hg
   simpa using this
  have fin:∀h',Heap.ExtBut it s.heap h'→(none:Option Value)=none∧Inv X pins σ H { s with heap:=h' }:=fun h' eb=>⟨rfl,I.turned (t':=s.toks) (fun b o hb e=>eb b o hb e) f0 f1 f3 f4 f5⟩;rcases hty with rfl|rfl
  ·exact wpAny_pyNext_ascii_end (I.ok.hd hc) st hx fin
  ·exact wpAny_pyNext_wide_end (I.ok.hd hc) st hx fin
 self:=fun _ _ _ _ _ st h=>by
  rcases hty with rfl|rfl
  ·exact wpAny_pyIter_striter_ascii st h
  ·exact wpAny_pyIter_striter_wide st h
def IP(tl:TE):TI:=fun σ H R=>tl σ H fun v H1=>∃x,v=.str x∧R (Its x) H1
section
variable{X:Cx}{tg:Expr}
theorem Xh{l:Expr}{tl:TE}(hl:PE X l tl):PI X tg l (IP tl):=by
 intro pins s σ H R I h;refine thn (hl pins s σ H _ I h) fun v s1 ⟨y,H1,I1,r1,q1⟩=>?_;obtain⟨x,rfl,q⟩:=q1;obtain⟨t,rfl⟩:=r1;refine wpAny_pyIter_strU ?_;refine⟨s1.heap.objs.size,[s1.heap.objs.size],_,_,H1,rfl,I1.kept (t':=s1.toks) fun b o e=>V10 _ e,Il _ x t (strIterType x) (by unfold strIterType;split<;>simp),⟨_,Z11 _ rfl,rfl,rfl⟩,fun b hb=>?_,q⟩;have e:b=s1.heap.objs.size:=by simpa using hb
 subst e;exact I1.fpOk (W11 _) (I1.hok.fresh (W11 _))
theorem xA:∀{bs:List Bool} {us:List Value},Vals (bs.map V.bl) us→us=bs.map Value.bool
 |[],_,r=>by cases r;rfl
 |b::bs,_,r=>by
  rw[Z12]at r;cases r with
  |cons r1 r2=>
   have e:_=Value.bool b:=r1;rw[e,xA r2,Z12]
theorem Im(hc:X.calm=true):dB X (.builtin "all") (fun xs H Q=>∃(p:Addr) (bs:List Bool),xs=[.ref p]∧fE X.K H p (bs.map V.bl)∧Q (.bl (bs.all id)) H):=by
 intro pins s σ H xs us Q I r h;obtain⟨p,bs,rfl,hq,q⟩:=h;obtain⟨u,rfl,rx⟩:=vals1 r;cases rx;obtain⟨its,rv,pl,hz⟩:=I.list hq;obtain rfl:=xA rv;have hl:=pl.isList;have hlt:p<s.heap.objs.size:=by obtain⟨_,e,_⟩:=hl;exact W12 e
 refine call_all_walk (wpAny_pyIter_list hl ?_);refine⟨s.heap.objs.size,[s.heap.objs.size,p],[s.heap.objs.size],(bs.map Value.bool).toArray.size,_,_,fun i=>(bs[i]?).getD true,rfl,Walks.list (A:=X.A.in1) (I.ok.hd hc) _ p (U14 hlt) _,
  ⟨⟨_,Z11 _ rfl,rfl,rfl⟩,hl.push _⟩,fun i v s' Q' E' hP hQ=>?_,fun h' tk hk=>?_⟩
 ·have hP':(bs.map Value.bool)[i]?=some v:=by simpa using hP
  rw[W14]at hP';cases e:bs[i]? with
  |none=>rw[e]at hP';cases hP'
  |some b=>
   rw[e]at hP';obtain rfl:Value.bool b=v:=Y17 hP';simp only[e,Option.getD_some]at hQ;exact U30 hQ
 ·have e:((List.range (bs.map Value.bool).toArray.size).all fun i=>(bs[i]?).getD true)=bs.all id:=by
   rw[V11,U12];exact LSm.range_all bs
  rw[e];exact⟨.bl _,H,I.kept (t':=tk) (LSm.kept_iter hk),rfl,q⟩
theorem xB:dB X (.builtin "isinstance") (fun xs H Q=>∃(x:V) (t:Value) (c:String) (b:Bool),xs=[x,.ty c]∧TyOf X.K H x t∧PySem.W.kitOne X.K t (.type c)=some b∧Q (.bl b) H):=by
 intro pins s σ H xs us Q I r h;obtain⟨x,t,c,b,rfl,ty,e,q⟩:=h;obtain⟨u,v,rfl,r1,r2⟩:=vals2 r;cases r2;exact Et I r1 ty e fun tk=>⟨.bl b,H,I.tok _,rfl,q⟩
theorem Xi:Ex X (fun x lo hi H Q=>∃z:Str,x=.str z∧z.length≤sizeLine∧Q (.str (Txt.slice z lo hi)) H):=by
 intro pins s σ H x v vl vu lo hi sl Q I rx hs pl pu h;obtain⟨z,rfl,hz,q⟩:=h;obtain⟨t,rfl⟩:=rx;have fin:∀t' k,EP X pins σ Q (.str (Txt.slice z lo hi) t') { s with toks:=k }:=fun t' k=>⟨.str _,H,I.tok _,⟨_,rfl⟩,q⟩;refine⟨"str",_,F.slot_str_getitem.lookup,typeIs_str _ _ _,?_⟩;cases pl<;>cases pu
 ·exact V32 (l:=none) (u:=none) (st:=none) hs rfl (post_val_or_str ⟨Y14 (Txt.slice_le z _ _) hz,fin⟩)
 ·rename_i j tj;exact V32 (l:=none) (u:=some (j,tj)) (st:=none) hs rfl (post_val_or_str ⟨Y14 (Txt.slice_le z _ _) hz,fin⟩)
 ·rename_i j tj;exact V32 (l:=some (j,tj)) (u:=none) (st:=none) hs rfl (post_val_or_str ⟨Y14 (Txt.slice_le z _ _) hz,fin⟩)
 ·rename_i j tj k tk;exact V32 (l:=some (j,tj)) (u:=some (k,tk)) (st:=none) hs rfl (post_val_or_str ⟨Y14 (Txt.slice_le z _ _) hz,fin⟩)
theorem Bx:∀{ts:List Str} {us:List Value},Vals (ts.map V.str) us→∃l:List (Str×Tok),us=strValues l∧l.map (·.1)=ts
 |[],_,r=>by cases r;exact⟨[],rfl,rfl⟩
 |x::ts,_,r=>by
  rw[Z12]at r;cases r with
  |cons r1 r2=>
   obtain⟨t,e⟩:=(show ∃t,_=Value.str x t from r1);obtain⟨l,e1,e2⟩:=Bx r2;exact⟨(x,t)::l,by rw[e,e1];rfl,by rw[Z12,e2]⟩
theorem Qc:sD X "str.join" (fun x xs H Q=>∃(z:Str) (p:Addr) (ts:List Str),x=.str z∧xs=[.ref p]∧fE X.K H p (ts.map V.str)∧JoinOk z ts=true∧Q (.str (Txt.join z ts)) H):=by
 intro pins s σ H x xs v us Q I rx rs h;obtain⟨z,p,ts,rfl,rfl,hq,hj,q⟩:=h;obtain⟨t,rfl⟩:=rx;obtain⟨u,rfl,ru⟩:=vals1 rs;cases ru;obtain⟨its,rv,pl,hz⟩:=I.list hq;obtain⟨l,rfl,e⟩:=Bx rv;exact SC.join pl.isList e hj fun t' k=>⟨.str _,H,I.tok _,⟨_,rfl⟩,q⟩
end
end L2
namespace HT
open PySem PySem.Spec PyProof.Rows
open AutoSeq1 (wpAny_loadPart')
theorem tuple_addW0(l b:Addr)(items items2:Array Value)(n n2:Nat)(dd dd2:Option Addr)(sl sl2:Array (Option Value))(hc0:items.isEmpty=true):
  Meets (Builtin.«tuple.__add__» ⟨[.ref l,.ref b],[]⟩) (fun _ R s=>s.heap.get? l=some { cls:=.type "tuple",dict:=dd,data:=.seq items n,slots:=sl }∧s.heap.get? b=some { cls:=.type "tuple",dict:=dd2,data:=.seq items2 n2,slots:=sl2 }∧R (.ok (.ret (Value.ref b))) { s with heap:=s.heap,toks:=s.toks }):=
 .of_wp fun prog w A R s h=>by obtain⟨hp,g,d,tk,os⟩:=s;obtain⟨hl,hb,h⟩:=h;have f1:=AutoSeq1.idx_int;have f2:=Y38;have f3:=AutoSeq1.sub_list_list;have f4:=U38;have f5:=Y39;wp_walk using wpAny_loadPart' hl,wpAny_loadPart' hb;exact⟨_,rfl,h⟩
section
variable {Q:Value→Shared→Prop}
variable{prog:Program}{w:World}{A:Around}{E:Value→Shared→Prop}{s:Shared}
theorem Io{t b:Addr}{ws:List Value}(ht:IsTup s.heap t ([]:List Value).toArray)(hb:IsTup s.heap b ws.toArray)
  (h1:Q (.ref b) s):wpAny (model prog w) A (binaryOp .Add (.ref t) (.ref b)) Q E s:=by
 obtain⟨⟨cls,dd,data,sl⟩,ho,hc,n,hd⟩:=id ht;obtain⟨⟨cls2,dd2,data2,sl2⟩,ho2,hc2,n2,hd2⟩:=id hb;simp only at hc hd hc2 hd2;subst hc hd hc2 hd2;exact concat_meets ⟨_,ho,rfl⟩ ⟨_,ho2,rfl⟩ noFill_tuple_add seq_tuple_add V40 V38 (U37 _ _)
   (tuple_addW0 t b ([]:List Value).toArray ws.toArray n n2 dd dd2 sl sl2 rfl) ⟨ho,ho2,h1⟩
theorem lO{t sl:Addr}{items:Array Value}{vl vu:Value}{lo hi:Option Int}(ht:IsTup s.heap t items)(hs:s.heap.IsSliceOf sl vl vu .none)(pl:IsPart vl lo)(pu:IsPart vu hi)
  (hw:dY items.size 0 lo=0∧dY items.size items.size hi=items.size)
  (h:Q (.ref t) s):wpAny (model prog w) A (getItem (.ref t) (.ref sl)) Q E s:=by
 obtain⟨os,hos,hcs,hds⟩:=id hs;have hTs:s.TypeIs (.ref sl) "slice":=⟨os,hos,hcs⟩;unfold getItem
 try with_reducible refine U16 ?_
 first|refine Y10 (Z10 ?_)|skip
 refine Y10 (wpAny_sequenceKey ht.typeIs (by decide) ?_);refine Y10 (V15 (name:=Str.ofString "__getitem__") ht.typeIs Y20
  (V16 Y20 ht.typeIs entry_tuple_getitem ?_ (args_tuple_getitem _ _)))
 show wpAny _ _ (Builtin.Tuple.tupleItemsOf (.ref t) >>=_) _ _ s;refine Y10 (tupleItemsOf_ ht ?_);refine Y10 (W33 hTs ?_);rw[if_pos (by decide)];refine Y10 (jA hs pl pu ?_);show wpAny _ _ (if(((dY items.size 0 lo:Nat):Int)==0&&(1:Int)==1&&(dY items.size items.size hi-dY items.size 0 lo)==items.size)=true then _ else _) _ _ s;rw[hw.1,hw.2];rw[if_pos (by simp)];refine Y10 ?_;show wpAny _ _ (do return (←typeOf (.ref t))==.type "tuple") _ _ s;refine Y10 (W33 ht.typeIs (Z10 ?_));rw[if_pos (by decide)];refine Y10 (V27 ?_)
 first
  |exact Z10 ⟨_,rfl,Z10 h⟩
  |exact Y10 (Z10 (Z10 ⟨_,rfl,Z10 h⟩))
  |exact Y10 (Y10 (Z10 (Z10 ⟨_,rfl,Z10 h⟩)))
  |exact Y10 (Y10 (Y10 (Z10 (Z10 (Z10 ⟨_,rfl,Z10 h⟩)))))
  |exact Y10 (Z10 (Z10 (Z10 ⟨_,rfl,Z10 h⟩)))
  |trace_state
end
end HT
namespace L2
open PySem PySem.Spec PyProof.Rows
section
variable{X:Cx}
def DX:R2:=fun x y H Q=>∃a b xs ys,x=.ref a∧y=.ref b∧H a=some (.tup xs)∧H b=some (.tup ys)∧xs.length+ys.length≤sizeLine∧∀p H',H' p=some (.tup (xs++ys))→Same H H'→Q (.ref p) H'
theorem Qd:eG X (binaryOp .Add) DX:=by
 intro pins s σ H x y v u Q I rx ry h;obtain⟨a,b,xs,ys,rfl,rfl,ha,hb,hz,q⟩:=h
 by_cases hx:xs=[]
 ·subst hx;cases rx;cases ry;obtain⟨its,r1,p1,_⟩:=I.tuple (gR.of ha);obtain⟨its2,r2,p2,_⟩:=I.tuple (gR.of hb);cases r1;exact HT.Io p1 p2 ⟨.ref b,H,I,rfl,q b H hb (Same.refl H)⟩
 ·refine Py pins s σ H _ _ v u Q I rx ry ⟨a,b,xs,ys,rfl,rfl,gR.of ha,gR.of hb,hx,hz,fun z=>?_,fun z p hp=>?_⟩
  ·subst z;exact q a H (by rw[U19];exact ha) (Same.refl H)
  ·exact q p _ bO fun c o e=>by rw[aQ (aV e hp)];exact e
def IQ:V→Option Int→Option Int→Hp→VK→Prop:=fun x lo hi H Q=>∃a xs,x=.ref a∧H a=some (.tup xs)∧∀p H',H' p=some (.tup (qF xs lo hi))→Same H H'→Q (.ref p) H'
theorem Qe:Ex X IQ:=by
 intro pins s σ H x v vl vu lo hi sl Q I rx hs pl pu h;obtain⟨a,xs,rfl,hx,q⟩:=h
 by_cases hw:HT.dY xs.length 0 lo=0∧HT.dY xs.length xs.length hi=xs.length
 ·cases rx;obtain⟨its,r,ht,hz⟩:=I.tuple (gR.of hx);have hlen:its.toArray.size=xs.length:=by rw[V11];exact r.length.symm
  have hcut:qF xs lo hi=xs:=by
   unfold qF;rw[hw.1,hw.2];simp
  exact⟨"tuple",_,Y20.lookup,ht.typeIs,HT.lO ht hs pl pu (by rw[hlen];exact hw) ⟨.ref a,H,I,rfl,q a H (by rw[hcut];exact hx) (Same.refl H)⟩⟩
 ·exact Wz pins s σ H _ v vl vu lo hi sl Q I rx hs pl pu ⟨a,xs,rfl,gR.of hx,hw,fun p hp=>q p _ bO fun c o e=>by rw[aQ (aV e hp)];exact e⟩
end
open AutoSeq1 (wpAny_loadPart')
theorem uW(l:Addr)(items:Array Value)(n:Nat)(b:Addr)(items2:Array Value)(n2:Nat)(dd:Option Addr)(sl:Array (Option Value))(hc0:¬(!items.isEmpty&&Builtin.List.listTooLong (items.size+items2.size))=true)(hc1:items.size≤sizeLine)(hs2:items.size+items2.size≤sizeLine+1):
  Meets (Builtin.«list.extend» ⟨[.ref l,.ref b],[]⟩) (fun _ R s=>s.heap.get? l=some { cls:=.type "list",dict:=none,data:=.seq items n,slots:=#[] }∧s.heap.get? b=some { cls:=.type "tuple",dict:=dd,data:=.seq items2 n2,slots:=sl }∧R (.ok (.ret Value.none)) { s with heap:=s.heap.update l (Obj.mapSeq fun x=>x++items2),toks:=s.toks }):=
 .of_wp fun prog w A R s h=>by
  obtain⟨hp,g,d,tk,os⟩:=s;obtain⟨hl,hb,h⟩:=h;have f1:=AutoSeq1.idx_int;have f2:=Y38;have f3:=AutoSeq1.sub_list_list;have f4:=U38;have f5:=Y39;have hz':(items++items2).size≤sizeLine+1:=by rw[Array.size_append];exact hs2
  wp_walk using (V31 hl rfl (hz:=hc1) (_hz':=hz')),wpAny_loadPart' hl,wpAny_loadPart' hb;exact⟨_,rfl,h⟩
section
variable {pins:List (Addr×Obj)}{σ:St}{H:Hp}{fp:List Addr}
variable{X:Cx}
def xC:V→List V→Hp→VK→Prop:=fun x vs H Q=>∃l b xs zs,x=.ref l∧vs=[.ref b]∧H l=some (.lst xs)∧H b=some (.tup zs)∧xs.length+zs.length≤sizeLine∧Q .non (upd H l (.lst (xs++zs)))
theorem zP:HB X "list.extend" xC:=by
 intro pins s σ H x vs v us Q I rx rv h;obtain⟨l,b,xs,zs,rfl,rfl,hH,hB,hz,q⟩:=h;cases rx;obtain⟨u,rfl,ru⟩:=rv.one;cases ru;obtain⟨z,its,n,r,hl,e⟩:=I.lstM hH;obtain⟨its2,r2,⟨⟨c2,dd2,d2,sl2⟩,e2,hc2,n2,hd2⟩,_⟩:=I.tuple (gR.of hB);have hc2':c2=.type "tuple":=hc2;have hd2':d2=.seq its2.toArray n2:=hd2;subst hc2' hd2';have hl2:=r2.length;have hsz:its.toArray.size+its2.toArray.size≤sizeLine:=by rw[V11,V11];lia
 have hlong:¬ (!its.toArray.isEmpty&&Builtin.List.listTooLong (its.toArray.size+its2.toArray.size))=true:=by
  rw[qH hsz,Bool.and_false];exact W16
 refine call_meets F.slot_list_extend ⟨_,e,rfl⟩ F.entry_list_extend (F.args_list_extend_2 _ _)
  (uW l its.toArray n b its2.toArray n2 dd2 sl2 hlong (by rw[V11];lia) (by lia)) ⟨e,e2,?_⟩
 refine⟨.non,_,I.lset (its':=its++its2) hH e (by simp) (r.append r2) ?_,rfl,q⟩;rw[V12]
 lia
theorem Inv.turnedN{s s':Shared}{T:Addr}{o:HO}(I:Inv X pins σ H s)(ho:s'.os=s.os)(hg:s'.gens=s.gens)(k:∀b u,b∉fp→s.heap.get? b=some u→s'.heap.get? b=some u)
  (hf:∀b∈fp,pY X pins H b)(hT:s.heap.objs.size≤T)(new:cK X.prog X.w (upd H T o) s'.heap T o):Inv X pins σ (upd H T o) s':=by
 have hn:H T=none:=I.hok.fresh hT;have nf:∀b u,H b=some u→b∉fp:=fun b u e z=>by
  have:=(hf b z).1;rw[this]at e;cases e
 refine I.call' (ch:=fp) ho ?_ (fun b u e=>?_) (by rw[hg];exact I.bare) fun b hb=>⟨(hf b hb).2.2.2.1,(hf b hb).2.1,(hf b hb).2.2.2.2.1,(hf b hb).2.2.2.2.2⟩
 ·exact⟨fun b u e _ _ hx=>k b u hx e,fun b u e _ _ hx=>⟨u.slots,k b u hx e⟩,fun b u e n _=>by rw[aQ (U14 (Z15 (W12 e) hT))];exact n,fun b u e hx=>⟨u,k b u hx e⟩,
   fun b xs e=>by rw[aQ (aV e hn)];exact e,fun b u xs e=>by rw[aQ (aV e hn)];exact e,fun b ps e=>⟨#[],by rw[aQ (aV e hn),e];simp⟩⟩
 ·by_cases hb:b=T
  ·subst hb;rw[bO]at e;cases e;exact new
  ·rw[aQ hb]at e;refine(I.hok b u e).stay (fun c v hc q=>k c v ?_ q) (fun c q=>by rw[aQ (aV q hn)];exact q) fun c xs q=>by rw[aQ (aV q hn)];exact q
   rcases hc with z|z
   ·rw[z];exact nf b u e
   ·exact nf c _ z
theorem Inv.turnedF{s s':Shared}(I:Inv X pins σ H s)(ho:s'.os=s.os)(hg:s'.gens=s.gens)(k:∀b u,b∉fp→s.heap.get? b=some u→s'.heap.get? b=some u)
  (hf:∀b∈fp,pY X pins H b):Inv X pins σ H s':=by
 have nf:∀b u,H b=some u→b∉fp:=fun b u e z=>by
  have:=(hf b z).1;rw[this]at e;cases e
 refine I.call' (ch:=fp) ho ?_ (fun b u e=>?_) (by rw[hg];exact I.bare) fun b hb=>⟨(hf b hb).2.2.2.1,(hf b hb).2.1,(hf b hb).2.2.2.2.1,(hf b hb).2.2.2.2.2⟩
 ·exact⟨fun b u e _ _ hx=>k b u hx e,fun b u e _ _ hx=>⟨u.slots,k b u hx e⟩,fun b u e n _=>n,fun b u e hx=>⟨u,k b u hx e⟩,
   fun b xs e=>e,fun b u xs e=>e,fun b ps e=>⟨#[],by rw[e];simp⟩⟩
 ·refine(I.hok b u e).stay (fun c v hc q=>k c v ?_ q) (fun c q=>q) fun c xs q=>q;rcases hc with z|z
  ·rw[z];exact nf b u e
  ·exact nf c _ z
theorem sZ:bootBuiltins "enumerate"=some (.type "enumerate"):=by decide +kernel
end
section
variable {i:Nat}{items:Array Value}{Q:Value→Shared→Prop}
variable{prog:Program}{w:World}{A:Around}{E:Value→Shared→Prop}{s:Shared}
theorem iE{it t:Addr}{x:Value}(hit:s.heap.IsTupleIter it t i)
  (ht:s.heap.IsTuple t items)(hx:items[i]?=some x)
  (hQ:∀h',h'.IsTupleIter it t (i+1)→Heap.SameBut it s.heap h'→Q x { s with heap:=h' }):
  wpAny (model prog w) A (Builtin.SmallTypes.nextOf (.ref it)) Q E s:=by
 obtain⟨o,ho,hc,hd⟩:=id hit;obtain⟨ol,hol,_,nl,hdl⟩:=ht;unfold Builtin.SmallTypes.nextOf;refine Y10 (V15 (name:=Str.ofString "__next__") hit.typeIs V29
  (V16 V29 hit.typeIs F.entry_tuple_iterator_next ?_ (F.args_tuple_iterator_next_1 _)))
 show wpAny _ _ (field (.ref it) 0 >>=_) _ _ s;refine Y10 (Y21 ho hd (x:=.ref t) rfl ?_);show wpAny _ _ (if(Value.ref t==Value.none)=true then _ else _) _ _ s;rw[if_neg (show ¬ ((Value.ref t==Value.none)=true) from W16)];show wpAny _ _ (field (.ref it) 1 >>=_) _ _ s;refine Y10 (Y21 ho hd (x:=.int i 0) rfl ?_);show wpAny _ _ (seqItems? (.ref t) >>=_) _ _ s;refine Y10 (Y24 hol hdl ?_);simp only[Z16,hx];refine Y10 (wpAny_setField ho hd (by simp) (Z10 ⟨x,rfl,Z10 (hQ _ ?_ (U25 ..))⟩));exact⟨_,Y27 _ ho (Obj.isFreed_of_fields (U29 hd _)),(Obj.cls_mapFields ..).trans hc,by
  rw[U29 hd];simp[rawInt]⟩
theorem fJ{it t:Addr}(hh:A.handled=none)
  (hit:s.heap.IsTupleIter it t i)(ht:s.heap.IsTuple t items)(hx:items[i]?=none)
  (hE:∀h' e,Heap.ExtBut it s.heap h'→(∃o,h'.get? e=some o∧o.cls=.type "StopIteration")→E (.ref e) { s with heap:=h' }):
  wpAny (model prog w) A (Builtin.SmallTypes.nextOf (.ref it)) Q E s:=by
 obtain⟨o,ho,hc,hd⟩:=id hit;obtain⟨ol,hol,_,nl,hdl⟩:=ht;unfold Builtin.SmallTypes.nextOf;refine Y10 (V15 (name:=Str.ofString "__next__") hit.typeIs V29
  (V16 V29 hit.typeIs F.entry_tuple_iterator_next ?_ (F.args_tuple_iterator_next_1 _)))
 show wpAny _ _ (field (.ref it) 0 >>=_) _ _ s;refine Y10 (Y21 ho hd (x:=.ref t) rfl ?_);show wpAny _ _ (if(Value.ref t==Value.none)=true then _ else _) _ _ s;rw[if_neg (show ¬ ((Value.ref t==Value.none)=true) from W16)];show wpAny _ _ (field (.ref it) 1 >>=_) _ _ s;refine Y10 (Y21 ho hd (x:=.int i 0) rfl ?_);show wpAny _ _ (seqItems? (.ref t) >>=_) _ _ s;refine Y10 (Y24 hol hdl ?_);simp only[Z16,hx];refine Y10 (V27 (Y10 (wpAny_setField ho hd (by simp) ?_)));show wpAny _ _ (newExc (.type "StopIteration") [] >>=_) _ _ _;refine Y10 ?_;simp only[newExc,newTuple];refine Y10 (Y16 ?_ (by size_fits));refine Y10 (m:=firstArgMember _ _) (W37 (a:=Value.none) (by first|rfl|(simp only[firstArgMember];rfl)) ?_);refine Y16 ?_ (by size_fits);simp only[raiseNew];refine Y10 (Y44 ?_)
 first|rw[show A.in1.handled=none from hh]|rw[hh]
 refine Y10 (Z10 (wpAny_throw ?_));exact hE _ _ (((U25 ..).extBut.push _).push _) ⟨_,Z11 _ rfl,rfl⟩
end
end L2
namespace L2
variable {scope:Scope}{pos:Pos}
open PySem PySem.Spec PyProof.Rows
section
variable{X:Cx}
theorem xD:∀{xs:List V} {us:List Value},Vals xs us→Vals xs.reverse us.reverse
 |_,_,.nil=>.nil
 |_,_,.cons r1 r2=>by rw[List.reverse_cons,List.reverse_cons];exact(xD r2).append (.cons r1 .nil)
end
theorem sL{prog:Program}{w:World}{A:Around}{R:Result→Shared→Prop}{s:Shared}{elt target iter:Expr}{ifs:List Expr}{it acc:Value}{env:Env}(I:Nat→Shared→Prop)
  (turn:∀n s,I n s→wpAny (model prog w) A (pyNext it) (fun r s1=>match r with
   |none=>R (.ok .next) s1
   |some v=>wpAny (model prog w) A (letOwnedTupleGo target it v) (fun _ s2=>wpAny (model prog w) A (assign target env v) (fun _ s3=>
     wpAny (model prog w) A (forIn ifs true fun c r=>if r=true then(isTrue c env (eval c env) >>=fun ok=>pure (ForInStep.yield ok)) else pure (ForInStep.yield r)) (fun ok s4=>
      if ok=true then wpAny (model prog w) A (eval elt env) (fun x s5=>wpAny (model prog w) A (call (.builtin "list.append") [acc,x]) (fun _ s6=>∃m,m<n∧I m s6) (fun _ _=>False) s5) (fun _ _=>False) s4
      else ∃m,m<n∧I m s4) (fun _ _=>False) s3) (fun _ _=>False) s2) (fun _ _=>False) s1) (fun _ _=>False) s)
  (n:Nat)(h:I n s):codeAny (model prog w) A (.compLoop (.ListComp elt [⟨target,iter,ifs,0⟩] scope pos) 0 it acc env) R s:=by
 refine codeAny_loop rfl I (fun n s hI=>?_) n h;change wpAny _ A ((compTurn (.ListComp elt [⟨target,iter,ifs,0⟩] scope pos) 0 it acc env).onRaise (fun x=>do noteFrame x env;theTreesLotGoes x)) _ _ s;refine wpAny_noted ?_;rw[compTurn_list];refine Y10 (U43 (Y10 (Z27 (turn n s hI) (fun r s1 h1=>?_) fun _ _ z=>z.elim)));cases r with
 |none=>exact Z10 h1
 |some v=>
  refine Y10 (Z27 h1 (fun _ s2 h2=>?_) fun _ _ z=>z.elim);refine Y10 (Z27 h2 (fun _ s3 h3=>?_) fun _ _ z=>z.elim);refine Y10 (Z27 h3 (fun ok s4 h4=>?_) fun _ _ z=>z.elim);cases ok with
  |false=>exact Z10 ⟨rfl,h4⟩
  |true=>
   refine Y10 (Y10 (Z27 h4 (fun x s5 h5=>?_) fun _ _ z=>z.elim));exact Y10 (Z27 h5 (fun _ s6 h6=>Z10 (Z10 ⟨rfl,h6⟩)) fun _ _ z=>z.elim)
def PF(X:Cx)(ifs:List Expr)(t:TT):Prop:=∀(pins:List (Addr×Obj)) (s:Shared) (σ:St) (H:Hp) (Q:Bool→Hp→Prop),Inv X pins σ H s→t σ H Q→
 wpAny (model X.prog X.w) X.A (forIn ifs true fun c r=>if r=true then(isTrue c X.env (eval c X.env) >>=fun ok=>pure (ForInStep.yield ok)) else pure (ForInStep.yield r)) (TP X pins σ Q) X.xe s
theorem Xj{X:Cx}:PF X [] (fun _ H Q=>Q true H):=fun pins s σ H Q I h=>Z10 ⟨H,I,h⟩
theorem Xk{X:Cx}{c:Expr}{t:TT}(h:PT X c t):PF X [c] t:=fun pins s σ H Q I q=>by
 change wpAny _ _ ((if true=true then(isTrue c X.env (eval c X.env) >>=fun ok=>pure (ForInStep.yield ok)) else pure (ForInStep.yield true)) >>=_) _ _ s;rw[if_pos rfl];refine Y10 (Y10 (thn (h pins s σ H Q I q) fun ok s1 h1=>Z10 ?_));exact Z10 h1
abbrev nones(k:Nat):St:=List.replicate k none
def uX(k:Nat)(caps:List Nat)(wi:TI)(g:TG)(tc:TT)(te:TE):TE:=fun σ H Q=>wi σ H fun J H1=>∃(n:Nat) (W:Nat→List V→Hp→Prop),n<sizeLine∧W 0 [] H1∧∀i zs H,W i zs H→
 (J.stop i H∧∀p,H p=none→Q (.ref p) (upd H p (.lst zs)))∨(J.go i H∧i<n∧∀x H',J.yld i H x H'→∃vs:List V,vs.length=k∧(g x (nones k++dN caps σ) H' fun σ' H''=>σ'=vs.map some++dN caps σ∧H''=H')∧
  tc (vs.map some++dN caps σ) H' fun b H2=>if b=true then te (vs.map some++dN caps σ) H2 fun z H3=>W (i+1) (zs++[z]) H3 else W (i+1) zs H2)
theorem pgc{X:Cx}{xs cn:List Str}{cl:List (Str×Addr)}{C:Addr}{ex:List Addr}{s:Shared}{H:Hp}{i:Nat}{x:Str}(nd:(xs++cn).Nodup)(hi:(xs++cn)[i]?=some x)(hx:scope.names.lookup x=some .local):PG (aZ X (xs++cn) scope cl C ex s H) (.Name x pos) (oI i):=
 Bq (i:=i) nd hi (.inl (lookup_relabel_local hx)) (.inr (lookup_relabel_local hx))
section
variable {ifs:List Expr}{x:Str}{xs cn:List Str}{cl:List (Str×Addr)}{caps:List Nat}{wi:TI}{g:TG}{tc:TT}{te:TE}
variable{X:Cx}
theorem tD{elt iter tg:Expr}
  (hc:X.calm=true)(hi:PI X tg iter wi)(cp:Caps X scope x cl cn caps)(hg:∀C ex s H,PG (aZ X (xs++cn) scope cl C ex s H) tg g)(hif:∀C ex s H,PF (aZ X (xs++cn) scope cl C ex s H) ifs tc)
  (he:∀C ex s H,PE (aZ X (xs++cn) scope cl C ex s H) elt te)
  (hs:∀x,foldedSetIterable iter X.env x=pure x){use:Option (Value→Sem Unit)}{R:Value→Shared→Prop}{pins:List (Addr×Obj)}{s:Shared}{σ:St}{H:Hp}{Q:VK}(I:Inv X pins σ H s)(h:uX xs.length caps wi g tc te σ H Q)(qp:Pos)
  (hk:∀(s4:Shared) (H3:Hp) (D C:Addr),(∃m,s4.heap.Ns C m)→(∀h',Heap.SameBut C s4.heap h'→Inv X pins σ H3 { s4 with heap:=h' })→H3 C=none→C≠X.env.locals→X.s₀.heap.objs.size≤C→(∀z c,X.env.cells.lookup z=some c→c≠C)→(∀p∈X.pn++pins,p.1≠C)→Q (.ref D) H3→compPost (model X.prog X.w) X.A X.xe use R (.ref D) C (.ok .next) s4):
  wpAny (model X.prog X.w) X.A (comprehension (.ListComp elt [⟨tg,iter,ifs,0⟩] scope pos) scope X.env qp (newList []) false (eval iter X.env) use) R X.xe s:=by
 refine wpAny_comprehension_free (use:=use) rfl hs cp.clos cp.kind cp.names (thn (hi pins s σ H _ I h) fun v s1 h1=>thn h1 fun itv s2 h2=>?_);obtain⟨it,fp,tn,J,H2,e,I2,T,st2,f2,n,W,hn,w0,turn⟩:=h2;subst e;refine Y16 (wpAny_newFunctionEnv cp.cell (by intro y hy;simp at hy) (fun h₁ hns₁ hsb₁=>?_) cp.kind);dsimp only at hns₁ hsb₁⊢;generalize hG:s2.heap.push { cls:=.type "list",dict:=none,data:=.seq ([]:List Value).toArray }=G at hns₁ hsb₁⊢;have hC:G.objs.size=s2.heap.objs.size+1:=by rw[←hG,V20]
 generalize hCe:G.objs.size=C at hns₁ hsb₁ hC⊢;generalize hDe:s2.heap.objs.size=D at hC⊢;have hDC:D≠C:=by rw[hC];exact U14 (W42 _)
 have below:∀b,b<D→b≠C∧b≠D:=fun b hb=>⟨by rw[hC];exact U14 (Y26 hb),U14 hb⟩;have old:∀b o,s2.heap.get? b=some o→h₁.get? b=some o:=fun b o e=>hsb₁.extBut b o (below b (hDe ▸ W12 e)).1 (V10 _ (hG ▸ V10 _ e));have hacc:h₁.get? D=some (gH [] 0):=hsb₁.extBut _ _ hDC (V10 _ (by rw[←hG,←hDe];exact Z11 _ rfl));have fpl:∀b∈fp,b<D:=fun b hb=>by
  obtain⟨o,e,_⟩:=T.obj _ _ st2 b hb;exact hDe ▸ W12 e
 have hDs:s2.heap.objs.size≤D:=W44 hDe;have hCs:s2.heap.objs.size≤C:=by lia
 have fsN:∀{b},b≠X.env.locals→b∉X.fs→b∉frs X.stack:=fun {b} h1 h2 z=>(Z13.mp (I2.stkSub b z)).elim h1 h2;have big:∀{a},s2.heap.objs.size≤a→a∉frs X.stack:=fun {a} ha=>fsN (Y28 (Z15 I2.lt ha)) (I2.nofs ha);have cellLt:∀y c,cl.lookup y=some c→c<D:=fun y c e=>by
  obtain⟨v,q⟩:=I2.cell y c (cp.sub y c e);exact hDe ▸ q.lt
 have ok:(aZ X (xs++cn) scope cl C fp s2 H2).Ok:=by
  refine⟨I2.ok.mod,cp.kind,I2.ok.glob,I2.ok.blt,hCs,fun y z c h1 h2=>I2.ok.inj y z c (cp.sub y c h1) (cp.sub z c h2),fun y hy=>cp.has y hy,fun y c hf=>(by cases hf),I2.ok.hd,I2.ok.frames,.inl rfl,fun b hb=>?_,I2.bs,Y14 I2.ok.bsz I2.sz,fun b o e hb=>?_,fun b hb=>?_,I2.stack,I2.stkFree⟩
  ·exact⟨(below b (fpl b hb)).1,fun y c e=>(f2 b hb).2.2.2.2.1 y c (cp.sub y c e)⟩
  ·obtain⟨_,_,_,q,_⟩:=f2 b hb;rcases q with q|q
   ·exact I2.ok.noex b o e q
   ·exact absurd (Z15 (W12 (I2.ok.bs b o e).1) q) (W20 _)
  ·exact fsN (f2 b hb).2.1 (f2 b hb).2.2.1
 have stat:∀{us:List Value} {nn:Nat} {H':Hp},(∀b∈fp,H' b=none)→∀b∈fp,pY (aZ X (xs++cn) scope cl C fp s2 H2) [(D,gH us nn)] H' b:=fun {us nn H'} hn b hb=>
  ⟨hn b hb,(below b (fpl b hb)).1,fsN (f2 b hb).2.1 (f2 b hb).2.2.1,.inl hb,fun y c e=>(f2 b hb).2.2.2.2.1 y c (cp.sub y c e),fun p hp=>by
   obtain rfl:p=(D,gH us nn):=by simpa[aZ]using hp
   exact(below b (fpl b hb)).2.symm⟩
 have pinD:∀{σ':St} {H':Hp} {s':Shared} {us:List Value} {nn:Nat},Inv (aZ X (xs++cn) scope cl C fp s2 H2) [] σ' H' s'→H' D=none→s'.heap.get? D=some (gH us nn)→Inv (aZ X (xs++cn) scope cl C fp s2 H2) [(D,gH us nn)] σ' H' s':=fun {σ' H' s' us nn} J hn e=>
  J.pins_of fun p hp=>by
   obtain rfl:p=(D,gH us nn):=by simpa using hp
   exact⟨e,hn,hDC,big hDs,fun v z=>by cases z⟩
 have I4:∀tk,Inv (aZ X (xs++cn) scope cl C fp s2 H2) [] (nones xs.length++dN caps σ) H2 { s2 with heap:=h₁,toks:=tk }:=fun tk=>by
  refine⟨ok,rfl,I2.bare,Un.kept old,⟨_,hns₁,fun i y v h1 h2 h3=>?_⟩,fun y c e=>?_,I2.hok.fresh hCs,fun y c e=>I2.freeC y c (cp.sub y c e),fun p hp=>absurd (show p∈([]:List (Addr×Obj)) from hp) (by simp),I2.hok.kept old,?_⟩
  ·have hik:xs.length≤i:=by
    rcases Nat.lt_or_ge i xs.length with hlt|hge
    ·rw[Z17 (by simpa using hlt),Z32,if_pos hlt]at h2;cases h2
    ·exact hge
   obtain⟨k,rfl⟩:∃k,i=xs.length+k:=⟨i-xs.length,by lia⟩
   ·have h1':cn[k]?=some y:=by
     have q:(xs++cn)[xs.length+k]?=some y:=h1
     rwa [Y18 (by lia),Nat.add_sub_cancel_left]at q
    obtain⟨j,ej,eN,vis,kd,kd'⟩:=cp.cap k y h1';have h2':σ[j]?=some (some v):=by
     have q:(dN caps σ)[k]?=some (some v):=by
      rwa [Y18 (by simp),Y42,Nat.add_sub_cancel_left]at h2
     unfold dN at q;rw[W14,ej]at q;have q':(σ[j]?).getD none=some v:=by simpa using q
     cases eσ:σ[j]? with
     |none=>rw[eσ]at q';cases q'
     |some z=>rw[eσ]at q';rw[show z=some v from q']
    obtain⟨m,hm,hl⟩:=I2.loc;obtain⟨u,ru,lk⟩:=hl j y v eN h2' vis;refine⟨u,ru,?_⟩;obtain⟨c,ec⟩:=cp.has y kd';rcases lk with⟨k1,_⟩|⟨_,c',ec',z⟩
    ·rcases kd with kd|kd<;>(rw[kd]at k1;cases k1)
    ·have:c=c':=Y17 ((cp.sub y c ec).symm.trans ec');subst this;obtain⟨o,ho,hd⟩:=z;exact .inr ⟨kd',c,ec,⟨o,old c o ho,hd⟩⟩
  ·obtain⟨v,o,ho,hd⟩:=I2.cell y c (cp.sub y c e);exact⟨v,o,old c o ho,hd⟩
  ·show _=(xs++cn).length;simp[dN,cp.len]
 have loop:∀s₃:Shared,Inv (aZ X (xs++cn) scope cl C fp s2 H2) [] (nones xs.length++dN caps σ) H2 s₃→s₃.heap.get? D=some (gH [] 0)→tn 0 s₃.heap→
   codeAny (model X.prog X.w) X.A (.compLoop (.ListComp elt [⟨tg,iter,ifs,0⟩] scope pos) 0 (.ref it) (.ref D) (compEnvC scope cl C X.env))
    (compPost (model X.prog X.w) X.A X.xe use R (.ref D) C) s₃:=by
  intro s₃ I3 e3 t3;refine sL (fun k s'=>∃(i:Nat) (zs:List V) (us:List Value) (nn:Nat) (H':Hp),k=n+1-i∧i≤n∧Inv (aZ X (xs++cn) scope cl C fp s2 H2) [(D,gH us nn)] (nones xs.length++dN caps σ) H' s'∧tn i s'.heap∧(∀b∈fp,H' b=none)∧W i zs H'∧Vals zs us∧zs.length≤i) ?_ (n+1)
   ⟨0,[],[],0,H2,rfl,V24 _,pinD I3 (I2.hok.fresh hDs) e3,t3,fun b hb=>(f2 b hb).1,w0,.nil,W11 _⟩
  rintro k s' ⟨i,zs,us,nn,H',rfl,hin,I',st',fr',w',vs',hl⟩;have pD:=I'.pin (D,gH us nn) (V14 _ (by simp));rcases turn i zs H' w' with⟨stop,fin⟩|⟨go,hlt,step⟩
  ·refine thn (T.done (aZ X (xs++cn) scope cl C fp s2 H2) rfl rfl rfl hc i _ s' _ H' (fun _ _=>False) I' (stat fr') st' stop) fun r s4 ⟨hr,I4'⟩=>?_;subst hr;obtain⟨m,hm,_⟩:=id I4'.loc;obtain⟨e4,n4,_,_,_⟩:=I4'.pin (D,gH us nn) (V14 _ (by simp));have e4:s4.heap.get? D=some (gH us nn):=e4;have n4:H' D=none:=n4;have nC:H' C=none:=I4'.free;have nCD:upd H' D (.lst zs) C=none:=by rw[aQ (Ne.symm hDC)];exact nC
   refine hk s4 (upd H' D (.lst zs)) D C ⟨m,hm⟩ (fun h' hs'=>?_) nCD (Y28 (Z15 I2.lt hCs)) (Y14 I2.sz hCs) (fun z c e=>by
    obtain⟨v,q⟩:=I2.cell z c e;exact U14 (Z15 q.lt hCs)) (fun p hp=>by
    obtain⟨e,_⟩:=I2.pin p hp;exact U14 (Z15 (W12 e) hCs)) (fin D n4)
   have kk:∀b o,b≠C→s4.heap.get? b=some o→h'.get? b=some o:=fun b o hb e=>(hs'.2 b hb).trans e;have un:Un (frs X.stack) fp H2 (upd H' D (.lst zs)) s2.heap h':=by
    have u:=I4'.base;have ne:∀b o,s2.heap.get? b=some o→b≠C∧b≠D:=fun b o e=>below b (hDe ▸ W12 e);refine⟨fun b o e n0 hb hx=>kk b o (ne b o e).1 (u.keep b o e n0 hb hx),fun b o e n0 hb hx=>?_,fun b o e n0 hx=>?_,fun b o e hx=>?_,fun b xs e=>?_,fun b o xs e=>?_,fun b ps e=>?_⟩
    ·obtain⟨sl,q⟩:=u.slot b o e n0 hb hx;exact⟨sl,kk b _ (ne b o e).1 q⟩
    ·rw[aQ (ne b o e).2];exact u.free b o e n0 hx
    ·obtain⟨o',q⟩:=u.there b o e hx;exact⟨o',kk b _ (ne b o e).1 q⟩
    ·have q:=u.tups b xs e;rw[aQ (aV q n4)];exact q
    ·have q:=u.frzs b o xs e;rw[aQ (aV q n4)];exact q
    ·obtain⟨more,q⟩:=u.tbls b ps e;exact⟨more,by rw[aQ (aV q n4)];exact q⟩
   have hokD:HOk X.prog X.w (upd H' D (.lst zs)) h':=fun b o e=>by
    by_cases hb:b=D
    ·subst hb;rw[bO]at e;cases e;exact⟨by lia,us,nn,vs',kk _ _ hDC e4⟩
    ·rw[aQ hb]at e;refine(I4'.hok b o e).stay (fun c v hcc q=>kk c v ?_ q) (fun c q=>?_) fun c xs q=>?_
     ·rintro rfl;rcases hcc with z|z
      ·rw[←z,nC]at e;cases e
      ·rw[nC]at z;cases z
     ·rw[aQ (aV q n4)];exact q
     ·rw[aQ (aV q n4)];exact q
   exact I2.call' (s':={ s4 with heap:=h' }) (ch:=fp) I4'.os un hokD I4'.bare fun b hb=>⟨(f2 b hb).2.2.2.1,(f2 b hb).2.1,(f2 b hb).2.2.2.2.1,(f2 b hb).2.2.2.2.2⟩
  ·refine thn (T.item (aZ X (xs++cn) scope cl C fp s2 H2) rfl rfl rfl hc i _ s' _ H' (fun _ _=>False) I' (stat fr') st' go) fun r s4 ⟨u,hr,h4⟩=>?_;subst hr;refine thn h4 fun _ s5 ⟨y,H5,I5,r5,y5,st5,fr5⟩=>?_;have I5':=I5.pinned (stat fr5) (T.obj _ _ st5);obtain⟨vs,hvl,hgs,step5⟩:=step y H5 y5;refine thn (hg C fp s2 H2 _ s5 _ H5 y u _ I5' r5 hgs) fun _ s6 ⟨σ6,H6,I6,q6,q6'⟩=>?_;subst q6;subst q6';have wk:∀{H8:Hp} {s8:Shared} {pp:List (Addr×Obj)},Inv (aZ X (xs++cn) scope cl C fp s2 H2) pp (vs.map some++dN caps σ) H8 s8→Inv (aZ X (xs++cn) scope cl C fp s2 H2) pp (nones xs.length++dN caps σ) H8 s8:=fun {H8 s8 pp} J8=>by
    refine J8.weak (by simp[hvl]) fun j v e=>?_;rcases Nat.lt_or_ge j xs.length with hlt|hge
    ·rw[Z17 (by simpa using hlt),Z32,if_pos hlt]at e;cases e
    ·rw[Y18 (by simpa using hge),Y42]at e;rw[Y18 (by simpa[hvl]using hge),U12,hvl];exact e
   refine thn (hif C fp s2 H2 _ s6 _ H6 _ I6 step5) fun ok s6' ⟨H6',I6',q6'⟩=>?_;cases ok with
   |false=>
    obtain⟨e7,n7,_,_,_⟩:=I6'.pin (D,gH us nn) (V14 _ (V36 _ (by simp)));refine⟨n+1-(i+1),by lia,i+1,zs,us,nn,H6',rfl,hlt,?_,?_,fun b hb=>?_,q6',vs',by lia⟩
    ·exact pinD (wk (I6'.pins_of fun p hp=>absurd hp (by simp))) n7 e7
    ·refine T.keep _ _ _ st5 fun b hb o e=>(I6'.pin (b,o) (V14 _ (V14 _ (fH hb e)))).1
    ·obtain⟨o,e,d⟩:=T.obj _ _ st5 b hb;exact(I6'.pin (b,o) (V14 _ (V14 _ (fH hb e)))).2.1
   |true=>
    refine thn (he C fp s2 H2 _ s6' _ H6' _ I6' q6') fun v7 s7 ⟨z,H7,I7,r7,w7⟩=>?_;obtain⟨e7,n7,_,_,_⟩:=I7.pin (D,gH us nn) (V14 _ (V36 _ (by simp)));have e7:s7.heap.get? D=some (gH us nn):=e7;have n7:H7 D=none:=n7;have hul:us.length≤i:=by rw[←vs'.length];exact hl
    refine wpAny_list_append_plain (hsz:=by rw[V11];lia) ⟨nn,e7⟩ fun h8 p8 sb8=>?_;obtain⟨n8,e8⟩:=p8;have e8:h8.get? D=some (gH (us++[v7]) n8):=by rw[e8];simp[gH]
    have I8:Inv (aZ X (xs++cn) scope cl C fp s2 H2) [] (vs.map some++dN caps σ) H7 { s7 with heap:=h8 }:=
     Inv.turned (t':=s7.toks) (I7.pins_of fun p hp=>absurd hp (by simp)) (fun b o hb e=>(sb8.2 b hb).trans e) n7 hDC (.inr hDs) (fun y' c e=>U14 (cellLt y' c e)) fun p hp=>absurd (show p∈([]:List (Addr×Obj)) from hp) (by simp)
    refine⟨n+1-(i+1),by lia,i+1,zs++[z],us++[v7],n8,H7,rfl,hlt,?_,?_,fun b hb=>?_,w7,vs'.append (.cons r7 .nil),by rw[V12];show zs.length+1≤i+1;lia⟩
    ·exact pinD (wk I8) n7 e8
    ·refine T.keep _ _ _ st5 fun b hb o e=>(sb8.2 b (below b (fpl b hb)).2).trans (I7.pin (b,o) (V14 _ (V14 _ (fH hb e)))).1
    ·obtain⟨o,e,d⟩:=T.obj _ _ st5 b hb;exact(I7.pin (b,o) (V14 _ (V14 _ (fH hb e)))).2.1
 have t4:tn 0 h₁:=T.keep _ _ _ st2 fun b hb o e=>old b o e;refine codeAny_compStart_list (loop _ (I4 _) hacc t4) (T.self _ 0 _ _ _ t4 (loop _ (I4 _) hacc t4))
theorem Ip{elt iter tg:Expr}
  (hc:X.calm=true)(hi:PI X tg iter wi)(cp:Caps X scope x cl cn caps)(hg:∀C ex s H,PG (aZ X (xs++cn) scope cl C ex s H) tg g)(hif:∀C ex s H,PF (aZ X (xs++cn) scope cl C ex s H) ifs tc)
  (he:∀C ex s H,PE (aZ X (xs++cn) scope cl C ex s H) elt te)
  (hs:∀x,foldedSetIterable iter X.env x=pure x:=by intro _;rfl):
  PE X (.ListComp elt [⟨tg,iter,ifs,0⟩] scope pos) (uX xs.length caps wi g tc te):=by
 intro pins s σ H Q I h;rw[eval_ListComp];exact tD (use:=none) hc hi cp hg hif he hs I h _ fun s4 H3 D C ⟨m,hm⟩ J _ _ _ _ _ q=>⟨m,hm,fun h' hs'=>⟨.ref D,H3,J h' hs',rfl,q⟩⟩
end
end L2
namespace ZPT
open PySem PySem.Spec PyProof.Rows L2
structure ZS (h:Heap) (z TI TO i1 i2 t1 t2:Addr) (k:Nat):Prop where
 z:∃f0 f1,h.get? z=some { cls:=.type "zip",dict:=none,data:=.fields #[f0,.bool f1,.bool false,.ref TI,.ref TO],slots:=#[] }∧(f0=.none∨∃T o,f0=rawInt (T:Nat)∧h.get? T=some o)
 ti:IsPair h TI (.ref i1) (.ref i2)
 to:∃a b,IsPair h TO a b
 n1:h.IsTupleIter i1 t1 k
 n2:h.IsTupleIter i2 t2 k
structure Ap (z TI TO i1 i2 t1 t2:Addr):Prop where
 a1:TI≠z
 a2:TO≠z
 a3:i1≠z
 a4:i2≠z
 a5:TI≠TO
 a6:TI≠i1
 a7:TI≠i2
 a8:TO≠i1
 a9:TO≠i2
 b1:i1≠i2
 b2:t1≠z
 b3:t1≠TO
 b4:t1≠i1
 b5:t1≠i2
 b6:t2≠z
 b7:t2≠TO
 b8:t2≠i1
 b9:t2≠i2
theorem lD{h h':Heap}{t c:Addr}{xs:Array Value}(x:h.IsTuple t xs)(s:Heap.SameBut c h h')(n:t≠c):h'.IsTuple t xs:=x.extBut s.extBut n
theorem gF{h h':Heap}{i t c:Addr}{k:Nat}(x:h.IsTupleIter i t k)(s:Heap.SameBut c h h')(n:i≠c):h'.IsTupleIter i t k:=by
 obtain⟨o,e,r⟩:=x;exact⟨o,s.extBut _ _ n e,r⟩
section
variable{prog:Program}{w:World}{A:Around}{E:Value→Shared→Prop}{s:Shared}{z TI TO i1 i2 t1 t2:Addr}{k:Nat}{xs ys:Array Value}
set_option maxHeartbeats 2000000 in
theorem stop{Q:Option Value→Shared→Prop}(hh:A.handled=none)(D:Ap z TI TO i1 i2 t1 t2)(Z:ZS s.heap z TI TO i1 i2 t1 t2 k)(h1:s.heap.IsTuple t1 xs)(hx:xs[k]?=none)
  (g:∀h',(∀c o,c≠z→c≠TO→c≠i1→c≠i2→s.heap.get? c=some o→h'.get? c=some o)→Q none { s with heap:=h' }):wpAny (model prog w) A (pyNext (.ref z)) Q E s:=by
 obtain⟨⟨f0,f1,hz,hf⟩,hti,⟨a,b,hto⟩,hn1,hn2⟩:=Z;have hT:s.TypeIs (.ref z) "zip":=⟨_,hz,rfl⟩;have fin:∀(h':Heap) (e:Addr),(∀c o,c≠z→c≠TO→c≠i1→c≠i2→s.heap.get? c=some o→h'.get? c=some o)→(∃o,h'.get? e=some o∧o.cls=.type "StopIteration")→
   wpAny (model prog w) A (isInstance (.ref e) (.type "StopIteration") >>=fun r=>if r=true then pure none else throw (.ref e)) Q E { s with heap:=h' }:=fun h' e hk ⟨o,ho,hc⟩=>by
  refine Y10 ?_;refine W29 (T:="StopIteration") (b:=true) ⟨o,ho,hc⟩ isSubtype_stop ?_;exact Z10 (g _ hk)
 unfold pyNext;refine Y10 (Y30 (V15 (name:=Str.ofString "__next__") hT Z39 ?_));refine V16 Z39 hT F.entry_zip_next ?_ (F.args_zip_next_1 _);change wpAny _ _ (field (.ref z) 2 >>=_) _ _ _;refine Y10 (Y21 hz rfl (x:=.bool false) rfl ?_);change wpAny _ _ (field (.ref z) 3 >>=_) _ _ _;refine Y10 (Y21 hz rfl (x:=.ref TI) rfl ?_);refine Y10 (Y24 hti rfl ?_);change wpAny _ _ (Builtin.SmallTypes.ownedTupleIsFree (.ref z) >>=_) _ _ _;refine Y10 ?_;unfold Builtin.SmallTypes.ownedTupleIsFree;rcases hf with rfl|⟨T,oT,rfl,hTo⟩
 ·refine Y10 (Y21 hz rfl (x:=.none) rfl ?_);refine Z10 ?_;simp only[if_true];refine Y10 (V27 ?_);refine Y10 (Y21 hz rfl (x:=.ref TO) rfl ?_);refine Y10 (W27 hz (by simp) fun g1 z1 b1=>?_);refine Y10 ?_;simp only[List.zipIdx_cons,List.zipIdx_nil,V39,List.forIn_nil];refine Y10 (Y10 (wpAny_onRaise ?_));change wpAny _ _ (Builtin.SmallTypes.nextOf (.ref i1) >>=_) _ _ _;refine Y10 (fJ (A:=A.in1) hh (gF hn1 b1 D.a3) (lD h1 b1 D.b2) hx fun g2 e b2 he=>?_);obtain⟨oe,hoe,hce⟩:=he;have z2:=b2 _ _ D.a3.symm z1;have hez:e≠z:=fun q=>by
   subst q;rw[z2]at hoe;cases hoe;simp at hce
  refine W27 z2 (by simp) fun g3 _ b3=>?_;exact fin g3 e (fun c o c1 _ c3 _ q=>b3.extBut _ _ c1 (b2 _ _ c3 (b1.extBut _ _ c1 q))) ⟨oe,b3.extBut _ _ hez hoe,hce⟩
 ·refine Y10 (Y21 hz rfl (x:=rawInt (T:Nat)) rfl ?_);change wpAny _ _ (loadIfAlive (Int.toNat (T:Nat)) >>=_) _ _ _;refine Y10 ?_;rw[Z16];refine(fun Γ p hΓ=>?_:wpAny _ _ (loadIfAlive T) _ _ _);change PySem.Sem.wp _ Γ (.loadIfAlive T .pure) _ _ p s;rw[PySem.Sem.wp_loadIfAlive,hTo];refine(?_:wpAny (model prog w) A.in1 (pure (some oT)) _ _ s) Γ p hΓ;refine Z10 ?_;simp only[Option.isNone_some,Z23,if_false];refine Y10 (Y21 hz rfl (x:=.bool f1) rfl ?_);cases f1 with
  |true=>
   rw[if_neg (by decide)];refine Z10 ?_;simp only[Z23,if_false];simp only[←Array.forIn_toList,V39,List.forIn_nil];refine Y10 (Y10 (Y10 (U16 ?_)));change wpAny _ _ (Builtin.SmallTypes.nextOf (.ref i1) >>=_) _ _ _;refine Y10 (fJ (A:=A.in1) hh hn1 h1 hx fun g2 e b2 he=>?_);exact fin g2 e (fun c o _ _ c3 _ q=>b2 _ _ c3 q) he
  |false=>
   rw[if_pos (by decide)];refine Y10 (W27 hz (by simp) fun g1 z1 b1=>Z10 ?_);simp only[Z23,if_false];simp only[←Array.forIn_toList,V39,List.forIn_nil];refine Y10 (Y10 (Y10 (U16 ?_)));change wpAny _ _ (Builtin.SmallTypes.nextOf (.ref i1) >>=_) _ _ _;refine Y10 (fJ (A:=A.in1) hh (gF hn1 b1 D.a3) (lD h1 b1 D.b2) hx fun g2 e b2 he=>?_);exact fin g2 e (fun c o c1 _ c3 _ q=>b2 _ _ c3 (b1.extBut _ _ c1 q)) he
end
abbrev DY(t:Addr):Obj:={ cls:=.type "tuple_iterator",data:=.fields #[.ref t,.int 0 0] }
abbrev q1(h:Heap)(a:Addr):Heap:=h.push (DY a)
abbrev q2(h:Heap)(a b:Addr):Heap:=(q1 h a).push (DY b)
abbrev q3(h:Heap)(a b:Addr):Heap:=(q2 h a b).push { cls:=.type "tuple",data:=.seq #[.ref h.objs.size,.ref (q1 h a).objs.size] }
abbrev q4(h:Heap)(a b:Addr):Heap:=(q3 h a b).push { cls:=.type "tuple",data:=.seq #[.none,.none] }
abbrev q5(h:Heap)(a b:Addr):Heap:=(q4 h a b).push { cls:=.type "zip",data:=.fields #[.none,.bool false,.bool false,.ref (q2 h a b).objs.size,.ref (q3 h a b).objs.size] }
theorem meets_new(a b:Addr)(xs ys:Array Value):Meets (Builtin.«zip.__new__» ⟨[.type "zip",.ref a,.ref b],[]⟩) (fun _ R s=>s.heap.IsTuple a xs∧s.heap.IsTuple b ys∧R (.ok (.ret (.ref (q4 s.heap a b).objs.size))) { s with heap:=q5 s.heap a b }):=
 .of_wp fun prog w A R s h=>by
  obtain⟨hp,g,d,tk,os⟩:=s;obtain⟨ha,hb,h⟩:=h;have hsub:=sub_zip;have hA:Heap.IsTuple (Shared.heap ⟨hp,g,d,tk,os⟩) a xs:=ha;have hB:Heap.IsTuple (Shared.heap ⟨hp.push (DY a),g,d,tk,os⟩) b ys:=by
   obtain⟨o,e,r⟩:=hb;exact⟨o,V10 _ e,r⟩
  wp_walk using wpAny_pyIter_tuple hA,wpAny_pyIter_tuple hB
  exact⟨_,rfl,h⟩
theorem Xl{n t1 t2:Nat}(h1:t1<n)(h2:t2<n):Ap (n+4) (n+2) (n+3) n (n+1) t1 t2:=by
 constructor
 all_goals (intro e;have e':(_:Nat)=_:=e;lia)
section
variable{prog:Program}{w:World}{A:Around}{E:Value→Shared→Prop}{s:Shared}
theorem Ui{z TI TO i1 i2 t1 t2:Addr}{k:Nat}{Q:Value→Shared→Prop}(Z:ZS s.heap z TI TO i1 i2 t1 t2 k)(g:Q (.ref z) s):wpAny (model prog w) A (pyIter (.ref z)) Q E s:=by
 obtain⟨f0,f1,hz,_⟩:=Z.z;have hT:s.TypeIs (.ref z) "zip":=⟨_,hz,rfl⟩;refine wpAny_pyIter_slot hT F.slot_zip_iter ?_;refine V16 F.slot_zip_iter hT F.entry_zip_iter ?_ (F.args_zip_iter_1 _);change wpAny _ _ (ret (.ref z)) _ _ s;exact Z10 ⟨_,rfl,"zip",_,hT,Z39.lookup,g⟩
end
end ZPT
namespace L2
variable {trs:List (TE×TE)}
open PySem PySem.Spec PyProof.Rows
section
variable{X:Cx}{pins:List (Addr×Obj)}{σ:St}
theorem DZ:bootBuiltins "zip"=some (.type "zip"):=by decide +kernel
theorem EA:bootBuiltins "list"=some (.type "list"):=by decide +kernel
end
section
variable{X:Cx}
theorem xE:bootBuiltins "reversed"=some (.type "reversed"):=by decide +kernel
end
def Itel(K:Fg9)(a:Addr):It:=⟨fun i H=>∃xs x,fE K H a xs∧xs[i]?=some x,fun i H v H'=>∃T x,v=.ref T∧H T=none∧(∀xs,fE K H a xs→xs[i]?=some x)∧H'=upd H T (.tup [.int i,x]),fun i H=>∃xs,fE K H a xs∧xs.length=i⟩
abbrev Qf(e it a:Addr)(i:Nat)(h:Heap):Prop:=(∃old,IsEnum h e it i old)∧h.IsListIter it a i
theorem zQ{P:Program}{w:World}{K:Fg9}{es:List Expr}{kk:Nat}{pos:Pos}(e it a:Addr)(hei:e≠it)(hai:a≠it)(hea:e≠a):
  Turn P w K (.Tuple es kk pos) (Itel K a) [e,it] e (Qf e it a) where
 mem:=by simp
 obj:=fun i h st b hb=>by
  obtain⟨⟨old,he⟩,o,ho,c,d⟩:=st;rcases Z13.mp hb with rfl|hb
  ·exact⟨_,he,fun v z=>by cases z⟩
  ·rw[Y15.mp hb];exact⟨o,ho,fun v z=>by rw[d]at z;cases z⟩
 keep:=fun i h h' st k=>by
  obtain⟨⟨old,he⟩,o,ho,r⟩:=st;exact⟨⟨old,k e (by simp) _ he⟩,o,k it (by simp) o ho,r⟩
 item:=by
  intro X hP hw hK hc i pins s σ H E I hf st hg;subst hP hw hK;obtain⟨xs,x,hq,hx⟩:=hg;obtain⟨its,rv,p,hz⟩:=I.list hq;obtain⟨u,hu,ru⟩:=rv.get hx;have hlt:i<its.length:=(U10.mp hu).1;have W:=Y41 (Draws.list (prog:=X.prog) (w:=X.w) (A:=X.A.in1) (I.ok.hd hc) it a hai its.toArray) e hei (by simp[hei,hea]) (by simp);refine W.item i s _ _ (by simpa using hlt) ⟨st.1,st.2,p.isList⟩ fun T vals h' tk hv hT tup mid kk1=>?_;obtain⟨tt,v,hv1,rfl⟩:=hv;have ev:v=u:=by
   have h1:its[i]?=some v:=by simpa using hv1
   rw[hu]at h1;exact(Y17 h1).symm
  subst ev;refine⟨.ref T,rfl,W.go es kk pos i T _ _ _ mid fun h2 st2 kk2=>?_⟩;have nT:T∉[e,it]:=W.apart i T h' mid;obtain⟨oT,eT,cT,nT',dT⟩:=id tup;have eT2:h2.get? T=some oT:=kk2 T oT nT eT;refine⟨.ref T,upd H T (.tup [.int i,x]),Inv.turnedN (s':={ s with heap:=h2,toks:=tk }) I rfl rfl (fun b u0 hb e0=>kk2 b u0 hb (kk1 b u0 hb e0)) hf hT ?_,rfl,
   ⟨T,x,rfl,I.hok.fresh hT,fun ys hy=>by rw[I.list_inj hy hq];exact hx,rfl⟩,⟨st2.1,st2.2.1⟩,fun b hb=>?_⟩
  ·exact⟨by show 2≤_;rw[Y12];decide,[.int i tt,v],.cons ⟨_,rfl⟩ (.cons ru .nil),oT,eT2,cT,nT',dT⟩
  ·have nb:b≠T:=fun z=>by subst z;exact nT hb
   rw[aQ nb];exact(hf b hb).1
 done:=by
  intro X hP hw hK hc i pins s σ H E I hf st hg;subst hP hw hK;obtain⟨xs,hq,hx⟩:=hg;obtain⟨its,rv,p,hz⟩:=I.list hq;have hlen:=rv.length;have W:=Y41 (Draws.list (prog:=X.prog) (w:=X.w) (A:=X.A.in1) (I.ok.hd hc) it a hai its.toArray) e hei (by simp[hei,hea]) (by simp);have hi:i=its.toArray.size:=by rw[V11];lia
  subst hi;refine W.done s _ _ ⟨st.1,st.2,p.isList⟩ fun h' tk kk1=>⟨rfl,?_⟩;exact Inv.turnedF (s':={ s with heap:=h',toks:=tk }) I rfl rfl kk1 hf
 self:=fun A i s Q E st h=>by
  obtain⟨⟨old,he⟩,_⟩:=st;exact Z41 he h
section
variable{X:Cx}
def Xm(K:Fg9)(ta:TA):TI:=fun σ H R=>ta σ H fun vs H1=>∃a,vs=[.ref a]∧(∃xs,fE K H1 a xs)∧R (Itel K a) H1
theorem Iq{a:Expr}{es:List Expr}{kk:Nat}{tpos:Pos}{ta:TA}{p pos:Pos}(hg:Gl X "enumerate")(hm:X.mg "enumerate"=none)(ha:PA X [a] ta)(hs:starEach [a] X.env=[(false,eval a X.env)]:=by rfl):
  PI X (.Tuple es kk tpos) (.Call (.Name "enumerate" p) [a] [] pos) (Xm X.K ta):=by
 intro pins s σ H R I h;refine Call_ (gX I hg hm sZ (Z18 (thn (ha pos pins s σ H _ I h) fun us s1 ⟨vs,H1,I1,r1,q1⟩=>?_) hs rfl));obtain⟨a,e,⟨xs,hq⟩,q⟩:=q1;subst e;cases r1 with
 |cons r rr=>
  cases rr;cases r;obtain⟨its,rv,pt,hz⟩:=I1.list hq;have hlt:a<s1.heap.objs.size:=by obtain⟨o,eo,_⟩:=pt.isList;exact W12 eo
  refine call_enumerate_list pt.isList fun h' he hit hz hk=>?_;refine Z41 he ?_;have I2:Inv X pins σ H1 { s1 with heap:=h' }:=I1.kept (t':=s1.toks) hk;have fresh:∀b,s1.heap.objs.size≤b→pY X pins H1 b:=fun b hb=>I1.fpOk hb (I1.hok.fresh hb);refine⟨s1.heap.objs.size+1,[s1.heap.objs.size+1,s1.heap.objs.size],_,Itel X.K a,H1,rfl,I2,zQ _ _ a (Nat.succ_ne_self _) (U14 hlt) (Y28 (Y26 hlt)),⟨⟨_,he⟩,hit⟩,fun b hb=>?_,q⟩;rcases Z13.mp hb with rfl|hb
  ·exact fresh _ (Nat.le_succ _)
  ·rw[Y15.mp hb];exact fresh _ (W11 _)
end
section
variable{prog:Program}{w:World}{A:Around}{E:Value→Shared→Prop}
theorem Uj{it l:Addr}{items:Array Value}(hne:l≠it):∀(n i:Nat) (s:Shared) (Q:List Value→Shared→Prop),s.heap.IsListIter it l i→s.heap.IsList l items→i+n≤items.size→
  (∀h',h'.IsListIter it l (i+n)→Heap.SameBut it s.heap h'→Q ((items.toList.drop i).take n) { s with heap:=h' })→wpAny (model prog w) A (draw (.ref it) n) Q E s
 |0,i,s,Q,hit,_,_,g=>by
  change wpAny _ _ (pure []) Q E s;exact Z10 (by simpa using g s.heap hit (Heap.SameBut.refl ..))
 |n+1,i,s,Q,hit,ht,hle,g=>by
  have hlt:i<items.size:=by lia
  change wpAny _ _ (pyNext (.ref it) >>=_) Q E s;refine Y10 (wpAny_pyNext_list_item hit ht (x:=items[i]) (by simp[hlt]) fun g1 it1 b1=>?_);refine Y10 (U16 (Uj hne n (i+1) _ _ it1 (ht.extBut b1.extBut hne) (by lia) fun g2 it2 b2=>Z10 ?_));have e1:items.toList.drop i=items[i]::items.toList.drop (i+1):=by simp[V21,hlt]
  have e2:=g g2 (by rw[show i+(n+1)=i+1+n by lia];exact it2) (b1.trans b2);rw[e1,List.take_succ_cons]at e2;exact e2
theorem Qg{s:Shared}{t:Addr}{items:Array Value}{Q:List Value→Shared→Prop}(hh:A.handled=none)(ht:s.heap.IsList t items)(g:∀h',Heap.ExtBut s.heap.objs.size s.heap h'→Q items.toList { s with heap:=h' }):wpAny (model prog w) A (unpackItems (.ref t) items.size none) Q E s:=by
 have hlt:t≠s.heap.objs.size:=by
  obtain⟨o,ho,_⟩:=ht;exact U14 (W12 ho)
 unfold unpackItems;refine Y10 ?_;unfold notIterableAtAll;refine Y10 (Y34 ht.typeIs slot_list_iter.lookup ?_);refine Z10 ?_;rw[if_neg W16];refine Y10 (U16 (wpAny_pyIter_list ht ?_));refine Y10 (U16 (Uj hlt items.size 0 _ _ ⟨_,Z11 _ rfl,rfl,rfl⟩ (ht.push _) (by lia) fun g1 it1 b1=>?_));have hall:List.take items.size (List.drop 0 items.toList)=items.toList:=by
  rw[Y37];exact W23 (by simp)
 rw[hall,if_neg (by simp)];have ht1:g1.IsList t items:=(ht.push _).extBut b1.extBut hlt;refine Y10 (U16 (wpAny_pyNext_list_end hh it1 ht1 (by simp) fun g2 b2=>?_));rw[if_neg (by simp)];exact Z10 (g g2 fun b o hb e=>b2 b o hb (b1.extBut b o hb (V10 _ e)))
end
section
variable{X:Cx}
def Uk(K:Fg9)(n:Nat)(t:TGs):TG:=fun v σ H Q=>∃a xs,v=.ref a∧fE K H a xs∧xs.length=n∧t xs σ H Q
theorem By{es:List Expr}{k:Nat}{t:TGs}{n:Nat}{pos:Pos}(hc:X.calm=true)(h:PGs X es t)(hn:(assignEach es X.env).length=n:=by rfl)(hst:(assignEach es X.env).findIdx? (·.1)=none:=by rfl):PG X (.Tuple es k pos) (Uk X.K n t):=by
 intro pins s σ H v u Q I r hw;obtain⟨a,xs,e1,hq,hl,hw⟩:=hw;subst e1;cases r;obtain⟨its,rv,ht,hz⟩:=I.list hq;have hlen:=rv.length;rw[assign_Tuple];refine Y10 (U43 ?_);unfold unpack;have hsz:(assignEach es X.env).length=its.toArray.size:=by rw[hn,V11];lia
 rw[hsz,hst];refine Y10 (U16 (Qg (I.ok.hd hc) ht.isList fun h' hx=>?_));have I1:Inv X pins σ H { s with heap:=h' }:=I.kept (t':=s.toks) fun b o e=>hx b o (U14 (W12 e)) e;exact h pins _ σ H xs _ Q I1 (by simpa using rv) hw
end
section
variable {y:V}{u:Value}
variable{κ:Type}[DecidableEq κ]
def mL(kvs:List (κ×V))(k:κ):Option V:=(kvs.find? fun kv=>decide (kv.1=k)).map (·.2)
noncomputable def putK(kvs:List (κ×V))(k:κ)(v:V):List (κ×V):=
 if(kvs.any fun kv=>decide (kv.1=k))=true then kvs.map (fun kv=>if kv.1=k then(kv.1,v) else kv) else kvs++[(k,v)]
theorem qI{p:κ×V}{r:List (κ×V)}{k:κ}(e:p.1=k):mL (p::r) k=some p.2:=by simp[mL,U28,e]
theorem qJ{p:κ×V}{r:List (κ×V)}{k:κ}(e:¬ p.1=k):mL (p::r) k=mL r k:=by simp[mL,U28,e]
theorem xF(kvs:List (κ×V))(k:κ)(v:V):(putK kvs k v).length≤kvs.length+1:=by
 unfold putK
 split
 ·rw[U12];lia
 ·rw[V12,Z14,Y25];lia
theorem jZ.getD{o:Option V}{u:Option Value}{d:V}{d':Value}(r:jZ o u)(rd:RelV d d'):RelV (o.getD d) (u.getD d'):=by
 cases o with
 |none=>cases u with
  |none=>exact rd
  |some _=>exact(show False from r).elim
 |some _=>cases u with
  |none=>exact(show False from r).elim
  |some _=>exact r
theorem KV.val{kvs:List (κ×V)}{vs:List (κ×Value)}(r:KV kvs vs)(k:κ):jZ (mL kvs k) (valueAt vs k):=by
 unfold KV at r
 induction r with
 |nil=>exact True.intro
 |@cons p q ps qs h t ih=>
  obtain⟨h1,h2⟩:=h
  by_cases e:p.1=k
  ·have e':q.1=k:=h1.symm.trans e;have b:valueAt (q::qs) k=some q.2:=by simp[valueAt,U28,e']
   rw[qI e,b];exact h2
  ·have e':¬ q.1=k:=fun z=>e (h1.trans z);have b:valueAt (q::qs) k=valueAt qs k:=by simp[valueAt,U28,e']
   rw[qJ e,b];exact ih
theorem KV.any{kvs:List (κ×V)}{vs:List (κ×Value)}(r:KV kvs vs)(k:κ):(kvs.any fun kv=>decide (kv.1=k))=vs.any fun kv=>decide (kv.1=k):=by
 unfold KV at r
 induction r with
 |nil=>rfl
 |cons h t ih=>rw[W38,W38,ih,h.1]
theorem KV.repl{kvs:List (κ×V)}{vs:List (κ×Value)}(r:KV kvs vs)(k:κ)(ry:RelV y u):
  KV (kvs.map fun kv=>if kv.1=k then(kv.1,y) else kv) (vs.map fun kv=>if kv.1=k then(kv.1,u) else kv):=by
 unfold KV at r⊢
 induction r with
 |nil=>exact .nil
 |@cons p q ps qs h t ih=>
  rw[Z12,Z12];refine .cons ?_ ih;obtain⟨h1,h2⟩:=h
  by_cases e:p.1=k
  ·rw[if_pos e,if_pos (h1.symm.trans e)];exact⟨h1,ry⟩
  ·rw[if_neg e,if_neg (fun z=>e (h1.trans z))];exact⟨h1,h2⟩
theorem KV.put{kvs:List (κ×V)}{vs:List (κ×Value)}(r:KV kvs vs)(k:κ)(ry:RelV y u):KV (putK kvs k y) (stored vs k u):=by
 unfold putK stored;rw[r.any k]
 by_cases e:(vs.any fun kv=>decide (kv.1=k))=true
 ·rw[if_pos e,if_pos e];exact r.repl k ry
 ·rw[if_neg e,if_neg e];exact Paired.snoc r ⟨rfl,ry⟩
theorem KV.length{kvs:List (κ×V)}{vs:List (κ×Value)}(r:KV kvs vs):kvs.length=vs.length:=Paired.length r
end
theorem xG{P:Program}{w:World}{k:Key}{u:Value}(r:RelV (kV k) u):(bE P w).is k u=true:=by
 cases k with
 |inl i=>obtain⟨t,e⟩:=(show ∃t,u=Value.int i t from r);subst e;exact wV P w i t
 |inr x=>obtain⟨t,e⟩:=(show ∃t,u=Value.str x t from r);subst e;exact jY P w x t
theorem tE{P:Program}{w:World}:∀{ks:List Key} {us:List Value},Vals (ks.map kV) us→ItemsAre (bE P w) ks us
 |[],_,r=>by rw[W21]at r;cases r;exact .nil
 |k::ks,_,r=>by
  rw[Z12]at r;cases r with
  |cons h t=>exact .cons (xG h) (tE t)
abbrev KT(H:Hp):List (List Key×V)→List (List Key×Addr×Value)→Prop:=Paired fun p q=>p.1=q.1∧H q.2.1=some (.tup (p.1.map kV))∧RelV p.2 q.2.2
theorem KT.val{H:Hp}{kvs:List (List Key×V)}{xs:List (List Key×Addr×Value)}(r:KT H kvs xs)(k:List Key):jZ (mL kvs k) ((atKey xs k).map (·.2)):=by
 induction r with
 |nil=>exact True.intro
 |@cons p q ps qs h t ih=>
  obtain⟨h1,_,h2⟩:=h
  by_cases e:p.1=k
  ·have e':q.1=k:=h1.symm.trans e;have b:atKey (q::qs) k=some q.2:=by simp[atKey,U28,e']
   rw[qI e,b];exact h2
  ·have e':¬ q.1=k:=fun z=>e (h1.trans z);have b:atKey (q::qs) k=atKey qs k:=by simp[atKey,U28,e']
   rw[qJ e,b];exact ih
section
variable {kvs:List (Key×V)}
variable{P:Program}{w:World}{H:Hp}{h:Heap}{a:Addr}
theorem Ul{u:HO}(ok:HOk P w H h)(e:Rd H a u):cK P w H h a u:=e.ok ok
theorem xH(ok:HOk P w H h)(e:Rd H a (.dK kvs)):kvs.length≤sizeLine∧(a==sysModules)=false∧∃vs,KV kvs vs∧h.DictOf (bE P w) a vs:=
 show cK P w H h a (.dK kvs) from Ul ok e
theorem EB(ok:HOk P w H h)(e:H a=some (.dK kvs)):kvs.length≤sizeLine∧(a==sysModules)=false∧∃vs,KV kvs vs∧h.DictOf (bE P w) a vs:=xH ok (.inl e)
theorem zR{ks:List Key}(ok:HOk P w H h)(e:H a=some (.tup (ks.map kV))):(tupleKind (bE P w)).is h ks a:=by
 obtain⟨_,its,r,o,h1,h2,n,h3⟩:=(show cK P w H h a (.tup (ks.map kV)) from ok a _ e);exact⟨o,its.toArray,n,h1,h2,h3,by simpa using tE r⟩
theorem Bz{kvs:List (List Key×V)}(ok:HOk P w H h)(e:Rd H a (.dT kvs)):kvs.length≤sizeLine∧(a==sysModules)=false∧
  ∃xs,KT H kvs xs∧h.DictOfH (tupleKind (bE P w)) a xs:=by
 obtain⟨z,y,xs,r,o,es,ep,h1,h2,h3,h4,h5⟩:=(show cK P w H h a (.dT kvs) from Ul ok e);refine⟨z,y,xs,r,o,es,ep,h1,h2,h3,h4,fun x hx=>?_,h5⟩;have all:∀{l:List (List Key×V)} {m:List (List Key×Addr×Value)},KT H l m→∀x∈m,(tupleKind (bE P w)).is h x.1 x.2.1:=by
  intro l m q
  induction q with
  |nil=>intro x hx;exact nomatch hx
  |@cons p q ps qs hq t ih=>
   intro x hx;rcases Z13.mp hx with e|hx
   ·subst e;exact zR ok (by rw[←hq.1];exact hq.2.1)
   ·exact ih x hx
 exact all r x hx
end
def DGet(H:Hp)(a:Addr)(y:V)(r:Option V):Prop:=
 (∃kvs k,Rd H a (.dK kvs)∧y=kV k∧r=mL kvs k)∨∃kvs k b,Rd H a (.dT kvs)∧y=.ref b∧H b=some (.tup (k.map kV))∧r=mL kvs k
theorem DGet.k{H:Hp}{a:Addr}{kvs:List (Key×V)}{k:Key}(e:H a=some (.dK kvs)):DGet H a (kV k) (mL kvs k):=.inl ⟨kvs,k,.inl e,rfl,rfl⟩
section
variable {h':Heap}
variable{X:Cx}{pins:List (Addr×Obj)}{σ:St}{H:Hp}{s:Shared}{a:Addr}{y v:V}{u r:Value}{o:Option V}{A:Around}{E:Value→Shared→Prop}
theorem Inv.big(I:Inv X pins σ H s):sysModules<s.heap.objs.size:=by
 have h:mainGlobals<s.heap.objs.size:=(I.mod.glob.keeps I.bk).lt;exact Nat.lt_trans (by decide) h
theorem Fe{Q:Value→Shared→Prop}(hu:A.units+1<cLine)(I:Inv X pins σ H s)(g:DGet H a y (some v))(ry:RelV y u)(h:∀w' s',Inv X pins σ H s'→RelV v w'→Q w' s'):
  wpAny (model X.prog X.w) A (getItem (.ref a) u) Q E s:=by
 rcases g with⟨kvs,k,e,ey,l⟩|⟨kvs,k,b,e,ey,eb,l⟩
 ·subst ey;obtain⟨z,hd,vs,rel,dd⟩:=xH I.hok e;obtain⟨w',hw,rw'⟩:=jZ.some_of (v:=v) (o:=valueAt vs k) (by rw[l];exact rel.val k);exact wpAny_getItem_of (xG ry) dd.mapOf hw (h w' _ (I.tok _) rw')
 ·subst ey;cases (show u=Value.ref b from ry);obtain⟨z,hd,xs,rel,dd⟩:=Bz I.hok e;obtain⟨w',hw,rw'⟩:=jZ.some_of (v:=v) (o:=(atKey xs k).map (·.2)) (by rw[l];exact rel.val k);obtain⟨p,hp,hp2⟩:=V13.mp hw;refine wpAny_getItem_heap (tupleKind_room_in1 hu) (zR I.hok eb) dd hp ?_;rw[hp2];exact h w' _ (I.tok _) rw'
theorem Qh{t':Nat}{ob:HO}(I:Inv X pins σ H s)(mu:Mut (H a))(hs:Heap.SameBut a s.heap h')(he:∃q,h'.get? a=some q)(new:cK X.prog X.w (upd H a ob) h' a ob):
  Inv X pins σ (upd H a ob) { s with heap:=h',toks:=t' }:=
 I.write (x:=a) (e:=a) mu (.inl rfl) (fun b q hb z=>(hs.2 b hb).trans z) he new
theorem Xn{P:Program}{w:World}{H':Hp}{kvs:List (Key×V)}{vs:List (Key×Value)}(z:kvs.length≤sizeLine)(hd:(a==sysModules)=false)(rel:KV kvs vs)(dd:h'.DictOf (bE P w) a vs):
  cK P w H' h' a (.dK kvs):=⟨z,hd,vs,rel,dd⟩
end
def Xo(i:Expr):Prop:=∀ov iv,subscripted i false ov iv=operate [ov,iv] (getItem ov iv)
theorem Ca{prog:Program}{w:World}{A:Around}{E:Value→Shared→Prop}{s:Shared}{env:Env}{value slice:Expr}{pos:Pos}{T id:String}{Q:Value→Shared→Prop}
  (hl:typeLookup (.type T) "__getitem__"=pure (some (.builtin id)))(hs:Xo slice)
  (h:wpAny (model prog w) A (eval value env) (fun o s₁=>wpAny (model prog w) A (eval slice env) (fun i s₂=>s₂.TypeIs o T∧wpAny (model prog w) A (getItem o i) Q E s₂) E s₁) E s):
  wpAny (model prog w) A (eval (.Subscript value slice pos) env) Q E s:=by
 refine Subscript_ (Z27 h (fun o s₁ h₁=>Z27 h₁ (fun i s₂ h₂=>?_) fun _ _ x=>x) fun _ _ x=>x);obtain⟨hT,h₂⟩:=h₂;unfold subscriptTail;refine Y10 ?_;rw[getitemInPython_of_ne hT.not_modules];refine Y10 (Y34 hT hl ?_);have fin:wpAny (model prog w) A (subscripted slice false o i) (fun r s₃=>wpAny (model prog w) A (letTemporaryGo value o r >>=fun _=>pure r) Q E s₃) E s₂:=by
  rw[hs o i];exact wpAny_operating (Z27 h₂ (fun r s₃ h₃=>Y10 (wpAny_letTemporaryGo (Z10 h₃))) fun _ _ x=>x)
 first
  |exact Z10 (Y10 fin)
  |exact Y10 (Z10 (Y10 fin))
  |exact Y10 fin
theorem xI{X:Cx}{pins:List (Addr×Obj)}{σ:St}{H:Hp}{s:Shared}{a:Addr}{y:V}{o:Option V}(I:Inv X pins σ H s)(g:DGet H a y o):s.TypeIs (.ref a) "dict":=by
 rcases g with⟨kvs,k,e,_,_⟩|⟨kvs,k,b,e,_,_,_⟩
 ·obtain⟨_,_,vs,_,dd⟩:=xH I.hok e;exact dd.typeIs
 ·obtain⟨_,_,xs,_,dd⟩:=Bz I.hok e;exact dd.typeIs
def EC(td ty:TE):TE:=fun σ H Q=>td σ H fun x H1=>ty σ H1 fun y H2=>∃a v,x=.ref a∧DGet H2 a y (some v)∧Q v H2
section
variable{X:Cx}{o i e value:Expr}{pos pos' tpos:Pos}{td ty tv:TE}
theorem Qi(hu:X.A.units+1<cLine)(ho:PE X o td)(hi:PE X i ty)(hs:Xo i):PE X (.Subscript o i pos) (EC td ty):=by
 intro pins s σ H Q I h;refine Ca PySem.F.slot_dict_getitem.lookup hs (thn (ho pins s σ H _ I h) fun u s1 ⟨x,H1,I1,rx,q1⟩=>thn (hi pins s1 σ H1 _ I1 q1) fun iv s2 ⟨y,H2,I2,ry,a,v,ex,g,q2⟩=>?_);subst ex;obtain rfl:u=Value.ref a:=rx;exact⟨xI I2 g,Fe hu I2 g ry fun w' s3 I3 rw'=>⟨v,H2,I3,rw',q2⟩⟩
end
theorem Ir{P:Program}{w:World}{H:Hp}(h:Heap)(hb:sysModules<h.objs.size):cK P w H (h.push { cls:=.type "dict",data:=.dict #[] }) h.objs.size (.dK []):=
 ⟨V24 _,V28.mpr (Ne.symm (U14 hb)),[],.nil,Heap.DictOf.new h⟩
def uY:List (TE×TE)→St→Hp→(List (V×V)→Hp→Prop)→Prop
 |[],_,H,Q=>Q [] H
 |(tk,tv)::r,σ,H,Q=>tk σ H fun x H1=>tv σ H1 fun y H2=>uY r σ H2 fun ps H3=>Q ((x,y)::ps) H3
abbrev VV:List (V×V)→List (Value×Value)→Prop:=Paired fun p q=>RelV p.1 q.1∧RelV p.2 q.2
def PPs(X:Cx)(pos:Pos)(keys:List (Option Expr))(values:List Expr)(trs:List (TE×TE)):Prop:=
 ∀(pins:List (Addr×Obj)) (s:Shared) (σ:St) (H:Hp) (Q:List (V×V)→Hp→Prop),Inv X pins σ H s→uY trs σ H Q→
  wpAny (model X.prog X.w) X.A (evalPairs (pairTrees keys values X.env pos)) (fun vs s'=>∃ps H',Inv X pins σ H' s'∧VV ps vs∧Q ps H') X.xe s
theorem Qj{X:Cx}{pos:Pos}:PPs X pos [] [] []:=fun pins s σ H Q I h=>pairTrees_nil_walk ⟨[],H,I,.nil,h⟩
theorem Iu{X:Cx}{pos:Pos}{k v:Expr}{ks:List (Option Expr)}{vs:List Expr}{tk tv:TE}(hk:PE X k tk)(hv:PE X v tv)(hr:PPs X pos ks vs trs):
  PPs X pos (some k::ks) (v::vs) ((tk,tv)::trs):=fun pins s σ H Q I h=>
 pairTrees_cons_walk (thn (hk pins s σ H _ I h) fun u s1 ⟨x,H1,I1,rx,q1⟩=>thn (hv pins s1 σ H1 _ I1 q1) fun w2 s2 ⟨y,H2,I2,ry,q2⟩=>
  thn (hr pins s2 σ H2 _ I2 q2) fun ws s3 ⟨ps,H3,I3,rel,q3⟩=>⟨(x,y)::ps,H3,I3,.cons ⟨rx,ry⟩ rel,q3⟩)
def kB(kvs more:List (Key×V)):List (Key×V):=more.foldl (fun acc kv=>putK acc kv.1 kv.2) kvs
theorem KV.merge:∀{more:List (Key×V)} {rs:List (Key×Value)} {kvs:List (Key×V)} {vs:List (Key×Value)},KV more rs→KV kvs vs→KV (kB kvs more) (merged vs rs):=by
 intro more rs kvs vs r;unfold KV at r
 induction r generalizing kvs vs with
 |nil=>intro q;exact q
 |@cons p q ps qs h t ih=>
  intro r0;have e:KV (putK kvs p.1 p.2) (stored vs q.1 q.2):=by
   have:=r0.put p.1 h.2;rw[←h.1];exact this
  exact ih e
theorem lR:∀(more kvs:List (Key×V)),(kB kvs more).length≤kvs.length+more.length
 |[],kvs=>by show kvs.length≤kvs.length+0;lia
 |p::r,kvs=>by
  have h1:=lR r (putK kvs p.1 p.2);have h2:=xF kvs p.1 p.2;show(kB (putK kvs p.1 p.2) r).length≤_;rw[Z14];lia
theorem qK{P:Program}{w:World}:∀{kvs:List (Key×V)} {ws:List (Value×Value)},VV (kvs.map fun kv=>(kV kv.1,kv.2)) ws→∃rs,Carries (bE P w) ws rs∧KV kvs rs
 |[],_,r=>by rw[W21]at r;cases r;exact⟨[],True.intro,.nil⟩
 |p::kvs,_,r=>by
  rw[Z12]at r;cases r with
  |@cons a b as bs h t=>
   obtain⟨rs,c,q⟩:=qK (P:=P) (w:=w) t;obtain⟨b1,b2⟩:=b;exact⟨(p.1,b2)::rs,⟨xG h.1,rfl,c⟩,.cons ⟨rfl,h.2⟩ q⟩
def ED(trs:List (TE×TE)):TE:=fun σ H Q=>∀p,H p=none→uY trs σ (upd H p (.dK [])) fun ps H2=>H2 p=some (.dK [])∧∃kvs:List (Key×V),ps=kvs.map (fun kv=>(kV kv.1,kv.2))∧kvs.length≤15∧Q (.ref p) (upd H2 p (.dK (kB [] kvs)))
theorem Qk{X:Cx}{pos:Pos}{keys:List (Option Expr)}{values:List Expr}(h:PPs X pos keys values trs)(hall:keys.all (·.isSome)=true)(hl:keys.length=values.length)(h0:keys≠[])
  (h15:keys.length≤15):PE X (.Dict keys values pos) (ED trs):=by
 intro pins s σ H Q I q;have hn:=I.hok.fresh (W11 s.heap.objs.size);have I1:=I.laid (a:=s.heap.objs.size) (o:=.dK []) (h':=s.heap.push { cls:=.type "dict",data:=.dict #[] }) (t':=s.toks) (fun _ _ q=>V10 _ q) (W11 _) (Ir s.heap I.big);refine wpAny_Dict_walk (knd:=bE X.prog X.w) hall hl h0 h15 (thn (h pins _ σ _ _ I1 (q _ hn)) fun ws s2 ⟨ps,H2,I2,rel,e,kvs,ep,lk,q2⟩=>?_);subst ep;obtain⟨rs,c,rk⟩:=qK (P:=X.prog) (w:=X.w) rel;obtain⟨z,hd,vs0,r0,dd⟩:=EB I2.hok e;cases r0;refine⟨rs,c,dd,fun h' dd' hs=>⟨.ref s.heap.objs.size,_,?_,rfl,q2⟩⟩;have hz:(kB [] kvs).length≤sizeLine:=by
  have h1:=lR kvs [];rw[Y25]at h1;rw[Y12];lia
 have he:∃q,h'.get? s.heap.objs.size=some q:=let ⟨q,_,_,hq,_⟩:=dd';⟨q,hq⟩;exact Qh I2 (by rw[e];exact True.intro) hs he (Xn hz hd (rk.merge .nil) dd')
structure M2 (X:Cx) (o:Expr) (m:Str) (apos:Pos) (e f:Expr) (cpos:Pos):Prop where
 base:attributeBase o m X.env (eval o X.env)=eval o X.env
 few:((backTo cpos (starEach [e,f] X.env)).all (fun x=>!x.1)&&(backToKw cpos (keywordEach [] X.env)).all (fun x=>x.1.isSome)
  &&decide (([e,f]:List Expr).length+([]:List Keyword).length+(if([]:List Keyword).isEmpty then 0 else 1)<30))=true
 line:(apos.endLine==cpos.line)=true
 trees:backTo cpos (starEach [e,f] X.env)=[(false,eval e X.env),(false,eval f X.env)]
def JX(H:Hp)(a:Addr):Prop:=(∃kvs,Rd H a (.dK kvs))∨∃kvs,Rd H a (.dT kvs)
theorem Xp{X:Cx}{pins:List (Addr×Obj)}{σ:St}{H:Hp}{s:Shared}{a:Addr}(I:Inv X pins σ H s)(d:JX H a):
  s.TypeIs (.ref a) "dict"∧(∀b,Value.ref a=.ref b→∃ob,s.heap.get? b=some ob∧ob.dict=none)∧(a==sysModules)=false:=by
 rcases d with⟨kvs,e⟩|⟨kvs,e⟩
 ·obtain⟨_,hd,vs,_,dd⟩:=xH I.hok e;refine⟨dd.typeIs,fun b q=>?_,hd⟩;cases q;obtain⟨ob,_,_,h1,h2,_⟩:=dd;exact⟨ob,h1,h2.2.1⟩
 ·obtain⟨_,hd,xs,_,dd⟩:=Bz I.hok e;refine⟨dd.typeIs,fun b q=>?_,hd⟩;cases q;obtain⟨ob,_,_,h1,h2,_⟩:=dd;exact⟨ob,h1,h2.2.1⟩
section
variable{X:Cx}{pins:List (Addr×Obj)}{σ:St}{H:Hp}{s:Shared}{a:Addr}{y d:V}{u r:Value}{o:Option V}{A:Around}{E:Value→Shared→Prop}
theorem Xq{Q:Value→Shared→Prop}(hu:A.units+1<cLine)(I:Inv X pins σ H s)(g:DGet H a y o)(ry:RelV y u)(rd:RelV d r)(h:∀w' s',Inv X pins σ H s'→RelV (o.getD d) w'→Q w' s'):
  wpAny (model X.prog X.w) A (call (.builtin "dict.get") [.ref a,u,r]) Q E s:=by
 rcases g with⟨kvs,k,e,ey,l⟩|⟨kvs,k,b,e,ey,eb,l⟩
 ·subst ey;obtain⟨z,hd,vs,rel,dd⟩:=xH I.hok e;refine call_meetsIn Z42 dd.typeIs PySem.F.entry_dict_get (PySem.F.args_dict_get_3 _ _ _) (meets_dict_get_default (bE X.prog X.w) a (xG ry) hd r) ⟨_,dd.mapOf,h _ _ (I.tok _) ?_⟩;rw[l];exact(rel.val k).getD rd
 ·subst ey;cases (show u=Value.ref b from ry);obtain⟨z,hd,xs,rel,dd⟩:=Bz I.hok e;refine call_meetsIn Z42 dd.typeIs PySem.F.entry_dict_get (PySem.F.args_dict_get_3 _ _ _) (meetsH_dict_get_default (tupleKind (bE X.prog X.w)) a b hd r) ⟨tupleKind_room_in1 hu,k,xs,zR I.hok eb,dd,h _ _ (I.tok _) ?_⟩;rw[l];exact(rel.val k).getD rd
end
def Xr(td ty tx:TE):TE:=fun σ H Q=>td σ H fun x H1=>∃a,x=.ref a∧JX H1 a∧ty σ H1 fun y H2=>tx σ H2 fun z H3=>∃o,DGet H3 a y o∧Q (o.getD z) H3
section
variable{X:Cx}{o e f:Expr}{apos cpos:Pos}{td ty tx:TE}
theorem Iw(hu:X.A.units+1<cLine)(ho:PE X o td)(he:PE X e ty)(hf:PE X f tx)(m:M2 X o "get" apos e f cpos):PE X (.Call (.Attribute o "get" apos) [e,f] [] cpos) (Xr td ty tx):=by
 intro pins s σ H Q I h;refine wpAny_Call_method m.base m.few m.line PySem.F.plainAttrs_dict Z42 PySem.F.type_dict_get (thn (ho pins s σ H _ I h) fun u s1 ⟨x,H1,I1,rx,a,ex,d,q1⟩=>?_);subst ex;obtain rfl:u=Value.ref a:=rx;obtain⟨t1,t2,_⟩:=Xp I1 d;refine⟨t1,t2,?_⟩;rw[m.trees];refine Y29 rfl (Calls.evalArgs_plain (Z33 (thn (he pins s1 σ H1 _ I1 q1) fun iv s2 ⟨y,H2,I2,ry,q2⟩=>
  Z33 (thn (hf pins s2 σ H2 _ I2 q2) fun fv s3 ⟨z,H3,I3,rz,ov,g,q3⟩=>U40 ?_))))
 exact Xq hu I3 g ry rz fun w' s4 I4 rw'=>⟨_,H3,I4,rw',q3⟩
end
end L2
namespace TXS
open PySem PySem.Spec PyProof.Rows
theorem gY:Slot "set_iterator" "__next__" "set_iterator.__next__":=by
 refine .of (owner:="set_iterator") (n:="__next__") ?_ ?_ ?_ ?_ ?_ ?_
 ·rw[typeLookup_type,Z34]
  kernel_rfl
 ·decide +kernel
 ·decide +kernel
 ·decide +kernel
 ·first
   |exact .inl (by decide +kernel)
   |exact .inr (by decide +kernel)
 ·rw[isSubtype_type]
  kernel_rfl
theorem nD:entryFor table "set_iterator.__next__"=some Builtin.«set_iterator.__next__»:=entryFor_of_tree (by kernel_rfl)
theorem Xs:Manifest.owners.lookup (String.ofList ['r','o','t','a','r','e','t','i','_','t','e','s'].reverse)=some Manifest.sig_set_iterator:=by kernel_rfl
theorem tF(v:Value):argsOk "set_iterator.__next__" ⟨[v],[]⟩:=by
 unfold argsOk;rw[signature?_of (id:="set_iterator.__next__") (n:=['_','_','t','x','e','n','_','_']) (o:=['r','o','t','a','r','e','t','i','_','t','e','s']) (by kernel_rfl) Xs]
 kernel_rfl
theorem Xu:entryFor table "set.__iter__"=some Builtin.«frozenset.__iter__»:=
 entryFor_alias (id':="frozenset.__iter__") (by kernel_rfl) rfl (by decide +kernel) (by kernel_rfl)
theorem nE{α:Type}:∀(l:List α) (i:Nat) (h:i<l.length),(l[i]::l.eraseIdx i).Perm l
 |[],_,h=>by cases h
 |x::l,0,_=>.rfl
 |x::l,i+1,h=>by
  have h':i<l.length:=Nat.lt_of_succ_lt_succ h;exact(List.Perm.swap x l[i] (l.eraseIdx i)).trans ((nE l i h').cons x)
theorem Iy{α:Type}(next:Nat→Nat):∀(fuel k:Nat) (left:List α) (out:Array α),left.length=fuel→(pickOrder.go next fuel k left out).toList.Perm (out.toList++left)
 |0,k,left,out,hl=>by
  rw[Z25.mp hl,U19];exact .rfl
 |fuel+1,k,left,out,hl=>by
  have hlt:next k%left.length<left.length:=Nat.mod_lt _ (by lia);unfold pickOrder.go;rw[U13 hlt];dsimp only;refine(Iy next fuel (k+1) _ _ (by rw[List.length_eraseIdx,if_pos hlt];lia)).trans ?_;rw[Z28,W10];exact(nE left _ hlt).append_left _
theorem Iz{α:Type}(next:Nat→Nat)(xs:Array α):(pickOrder next xs).toList.Perm xs.toList:=by
 have:=Iy next xs.size 0 xs.toList #[] (by simp);unfold pickOrder
 simpa using this
section
variable{M:Model}{A:Around}{E:Value→Shared→Prop}
theorem Ql{s:Shared}{src:Source}{n:Nat}{Q:Nat→Shared→Prop}(hn:n≠0)(g:∀i,i<n→Q i { s with drawn:=s.drawn.bump src }):wpAny M A (choose src n) Q E s:=by
 intro Γ p hΓ;change PySem.Sem.wp M Γ (.choose src n .pure) _ _ p s;rw[PySem.Sem.wp_choose];refine⟨hn,?_⟩;have:=g _ (Nat.mod_lt (M.w.draws src (s.drawn.get src)) (Nat.pos_of_ne_zero hn));exact(Z10 (M:=M) (A:=A) (E:=E) this) Γ p hΓ
theorem Um{α:Type}:∀(n:Nat) (xs:List α) {Q:List α→Shared→Prop} {s:Shared},xs.length=n→(∀ys d,ys.Perm xs→Q ys { s with drawn:=d })→wpAny M A (drawOrder n xs) Q E s
 |0,xs,Q,s,hl,g=>by
  have e:=Z25.mp hl;subst e;exact Z10 (g [] s.drawn .rfl)
 |n+1,[],Q,s,hl,g=>by cases hl
 |n+1,x::xs,Q,s,hl,g=>by
  change wpAny M A (choose .order (x::xs).length >>=_) Q E s;refine Y10 (Ql (by simp) fun i hi=>?_);rw[U13 hi];dsimp only;refine Y10 (Um n ((x::xs).eraseIdx i) (by rw[List.length_eraseIdx,if_pos hi];lia) fun ys d hp=>Z10 (g _ d ?_));exact(hp.cons _).trans (nE _ _ hi)
end
def txt:Value→Str
 |.str x _=>x
 |_=>""
structure TOk (w:World) (es:Array (Int×Value)) (t:SetTable) (L:List Str):Prop where
 el:∀e∈es.toList,∃x tk,e=(hashStr w x,Value.str x tk)
 pm:(es.toList.map fun e=>txt e.2).Perm L
 nd:L.Nodup
 bd:es.size<scanBound
 ft:t.fits es.size=true
 ld:t.led=!w.params.followText "set-order"
 pl:0<es.size→t.plain=false
def TSet(w:World)(a:Addr)(L:List Str)(h:Heap):Prop:=∃o es ep t,h.get? a=some o∧o.ExactSet∧o.data=.set es ep t∧TOk w es t L
theorem TSet.at{w:World}{a:Addr}{L:List Str}{h h':Heap}(x:TSet w a L h)(k:∀o,h.get? a=some o→h'.get? a=some o):TSet w a L h':=by
 obtain⟨o,es,ep,t,e,r⟩:=x;exact⟨o,es,ep,t,k o e,r⟩
theorem TSet.ty{w:World}{a:Addr}{L:List Str}{s:Shared}(x:TSet w a L s.heap):s.TypeIs (.ref a) "set":=by
 obtain⟨o,_,_,_,e,hx,_⟩:=x;exact⟨o,e,hx.1⟩
theorem TSet.lt{w:World}{a:Addr}{L:List Str}{h:Heap}(x:TSet w a L h):a<h.objs.size:=by
 obtain⟨o,_,_,_,e,_⟩:=x;exact W12 e
theorem TOk.elems{prog:Program}{w:World}{es:Array (Int×Value)}{t:SetTable}{L:List Str}(h:TOk w es t L):ElemsOf (PySem.strKind prog w) es.toList:=fun e he=>by
 obtain⟨x,tk,rfl⟩:=h.el e he;exact⟨⟨x,by simp[PySem.strKind,Value.isStrOf],rfl⟩,rfl⟩
theorem TOk.size{w:World}{es:Array (Int×Value)}{t:SetTable}{L:List Str}(h:TOk w es t L):es.size=L.length:=by
 have:=h.pm.length_eq
 simpa using this
theorem Xv(t:SetTable)(n:Nat):(t.orStandIn n).led=t.led:=by
 unfold SetTable.orStandIn
 split<;>rfl
theorem Qm(t:SetTable)(es:Array (Int×Value))(h:Int)(x:Value):(layNew t es h x).2.1.led=t.led:=by
 unfold layNew
 split
 ·exact Xv _ _
 ·rfl
theorem uZ{t t':SetTable}{hs:Array Int}{n:Nat}{o:Array Nat}(e:t.relaid hs n=some (t',o)):t'.led=t.led∧t'.plain=t.plain:=by
 unfold SetTable.relaid SetTable.laid at e;cases hc:SetTable.layClean (SetTable.sizeAbove n-1) hs with
 |none=>rw[hc]at e;cases e
 |some ow=>
  rw[hc]at e;cases e;exact⟨rfl,rfl⟩
theorem xJ(t:SetTable)(es:Array (Int×Value))(n:Nat):(relayAll t es n).2.1.led=t.led∧(t.plain=false→(relayAll t es n).2.1.plain=false):=by
 unfold relayAll
 split
 ·rename_i t' o e;obtain⟨h1,h2⟩:=uZ e;dsimp only
  split
  ·exact⟨h1,fun h=>h2.trans h⟩
  ·exact⟨rfl,fun _=>rfl⟩
 ·exact⟨rfl,fun _=>rfl⟩
section
variable {a:Addr}{es:Array (Int×Value)}{t:SetTable}{L:List Str}{x:Str}
variable{prog:Program}{w:World}{A:Around}{E:Value→Shared→Prop}{s:Shared}
theorem Ja(b:Bool){M:Model}{Q:Unit→Shared→Prop}(g:Q () s):wpAny M A (match b with
  |true=>rule "set.scan.the-table-gave-way"
  |false=>pure ()) Q E s:=by
 cases b
 ·exact Z10 g
 ·exact V27 g
theorem vA{n:Nat}(h:n<scanBound):n≤sizeLine:=by
 have e:scanBound=4096:=rfl;rw[Y12]
 lia
theorem layA{gw:Bool→Sem Unit}(hg:∀(b:Bool) (s1:Shared) (R:Unit→Shared→Prop),R () s1→wpAny (model prog w) A (gw b) R E s1){o:Obj}{es1:Array (Int×Value)}{ep:Nat}{t2:SetTable}(ho:s.heap.get? a=some o)(hx:o.ExactSet)
  (hd:o.data=.set es ep t)(ok:TOk w es1 t2 L)(hp2:t2.plain=false){wd:Bool}{R:Option Bool→Shared→Prop}(g:∀h',Heap.SameBut a s.heap h'→TSet w a L h'→R (some true) { s with heap:=h' }):
  wpAny (model prog w) A (storeSet a es1 t2 >>=fun _=>if(!wd&&t2.tooFull)=true then(gw (relayAll t2 es1 (SetTable.grown es1.size)).2.2 >>=fun _=>storeSet a (relayAll t2 es1 (SetTable.grown es1.size)).1 (relayAll t2 es1 (SetTable.grown es1.size)).2.1 >>=fun _=>pure (some true)) else pure (some true)) R E s:=by
 refine Y10 (wpAny_storeSet_of ho hd ?_ (vA ok.bd));have o1:(s.heap.update a (Obj.putSet es1 t2)).get? a=some { o with data:=.set es1 (ep+1) t2 }:=by
  have z:=Y27 (Obj.putSet es1 t2) ho (by rw[putSet_of es1 t2 hd];rfl);rw[putSet_of es1 t2 hd]at z;exact z
 have sb1:=U25 s.heap a (Obj.putSet es1 t2)
 split
 ·have hp:=relayAll_perm t2 es1 (SetTable.grown es1.size);have hf:=relayAll_fits t2 es1 (SetTable.grown es1.size);have hk:=xJ t2 es1 (SetTable.grown es1.size);generalize relayAll t2 es1 (SetTable.grown es1.size)=Z at hp hf hk⊢;obtain⟨es2,t3,gv⟩:=Z;dsimp only at hp hf hk⊢;have hsz:es2.size=es1.size:=by
   have:=hp.length_eq
   simpa using this
  have ok2:TOk w es2 t3 L:=⟨fun e he=>ok.el e (hp.mem_iff.mp he),(hp.map _).trans ok.pm,ok.nd,by rw[hsz];exact ok.bd,hf,hk.1.trans ok.ld,fun _=>hk.2 hp2⟩;refine Y10 (hg _ _ _ ?_);refine Y10 (wpAny_storeSet_of o1 rfl ?_ (vA ok2.bd));have o2:((s.heap.update a (Obj.putSet es1 t2)).update a (Obj.putSet es2 t3)).get? a=some { o with data:=.set es2 (ep+1+1) t3 }:=by
   have z:=Y27 (Obj.putSet es2 t3) o1 (by rw[putSet_of es2 t3 rfl];rfl);rw[putSet_of es2 t3 rfl]at z;exact z
  exact Z10 (g _ (sb1.trans (U25 _ a _)) ⟨_,es2,ep+1+1,t3,o2,hx,rfl,ok2⟩)
 ·exact Z10 (g _ sb1 ⟨_,es1,ep+1,t2,o1,hx,rfl,ok⟩)
theorem Cb(ok:TOk w es t L):(∃e∈es.toList,Value.isStrOf x e.2=true) ↔ x∈L:=by
 rw[←ok.pm.mem_iff,V17]
 constructor
 ·rintro⟨e,he,h⟩;obtain⟨tk,h2⟩:=Value.isStrOf_shape h;exact⟨e,he,by rw[h2];rfl⟩
 ·rintro⟨e,he,h⟩;obtain⟨y,tk,rfl⟩:=ok.el e he;cases h;exact⟨_,he,by simp[Value.isStrOf,txt]⟩
theorem addT{tk:Tok}{Q:Bool→Shared→Prop}(hS:TSet w a L s.heap)(hr:L.length+1<scanBound)
  (g:∀(r:Bool) h',Heap.SameBut a s.heap h'→TSet w a (if x∈L then L else L++[x]) h'→Q r { s with heap:=h' }):
  wpAny (model prog w) A (setAddHashed a (.str x tk) ((PySem.strKind prog w).hash x)) Q E s:=by
 obtain⟨o,es,ep,t,ho,hx,hd,ok⟩:=hS;have hel:ElemsOf (PySem.strKind prog w) es.toList:=ok.elems;have hkey:(PySem.strKind prog w).is x (.str x tk)=true:=by simp[PySem.strKind,Value.isStrOf]
 have hsz:=ok.size;unfold setAddHashed setAddHashedIn;refine U16 (Y10 (W31 ho hd ok.ft ?_));dsimp only;rw[byScan_of (knd:=PySem.strKind prog w) (x:=.str x tk) rfl ok.bd hel,if_pos rfl];refine Y10 ?_;unfold setAddByScan;refine Y10 (V27 (Y10 (wpAny_setScan_of (knd:=PySem.strKind prog w) hkey ho hd ok.ft hel ?_)));cases hq:List.findIdx? (fun e=>(PySem.strKind prog w).is x e.2) es.toList with
 |some j=>
  dsimp only;obtain⟨hj,hpj,_⟩:=Z30.mp hq;have hm:x∈L:=(Cb ok).mp ⟨_,List.getElem_mem hj,hpj⟩;refine Z10 (Z10 ?_);have:=g false s.heap (Heap.SameBut.refl a s.heap) (by rw[if_pos hm];exact⟨o,es,ep,t,ho,hx,hd,ok⟩);exact this
 |none=>
  dsimp only;have hm:x∉L:=fun hm=>by
   obtain⟨e,he,h⟩:=(Cb ok).mpr hm;have:=List.findIdx?_eq_none_iff.mp hq e he;have h':(PySem.strKind prog w).is x e.2=true:=h;rw[h']at this;cases this
  rw[if_neg hm]at g;have hp:=layNew_perm t es ((PySem.strKind prog w).hash x) (.str x tk);have hf:=layNew_fits t es ((PySem.strKind prog w).hash x) (.str x tk);have hl:=Qm t es ((PySem.strKind prog w).hash x) (.str x tk);generalize layNew t es ((PySem.strKind prog w).hash x) (.str x tk)=Z at hp hf hl⊢;obtain⟨es1,t1,wd,gv⟩:=Z;dsimp only at hp hf hl⊢;rw[Z28]at hp;have hs1:es1.size=es.size+1:=by
   have:=hp.length_eq
   simpa using this
  have ok1:∀t2:SetTable,t2.fits es1.size=true→t2.led=t1.led→t2.plain=false→TOk w es1 t2 (L++[x]):=fun t2 f2 l2 p2=>by
   refine⟨fun e he=>?_,?_,?_,?_,f2,l2.trans (hl.trans ok.ld),fun _=>p2⟩
   ·rcases Z21.mp (hp.mem_iff.mp he) with he|he
    ·exact ok.el e he
    ·rw[Y15.mp he];exact⟨x,tk,rfl⟩
   ·refine(hp.map _).trans ?_;rw[Y19];exact ok.pm.append (.rfl)
   ·rw[V41];refine⟨ok.nd,by simp,fun y hy z hz=>?_⟩;rw[Y15.mp hz];rintro rfl;exact hm hy
   ·rw[hs1,hsz];exact hr
  refine Y10 (Ja gv ?_)
  split
  ·refine Y10 (?_:wpAny _ _ (hashByValue 8 (.str x tk)) _ _ _);rw[hashByValue_scannable 8 (x:=.str x tk) rfl];refine Z10 ?_;refine layA (o:=o) (fun b s1 R hR=>Ja b hR) ho hx hd (ok1 _ ?_ ?_ ?_) ?_ fun h' sb hS'=>Z10 (g true h' sb hS')
   ·exact SetTable.fits_plain_off hf
   ·rfl
   ·rfl
   ·rfl
  ·rename_i hpl;refine Y10 (Z10 ?_);have hpl':t1.plain=false:=by simpa using hpl
   exact layA (o:=o) (fun b s1 R hR=>Ja b hR) ho hx hd (ok1 t1 hf rfl hpl') hpl' fun h' sb hS'=>Z10 (g true h' sb hS')
end
abbrev void(w:World):Obj:={ cls:=.type "set",dict:=none,data:=.set #[] 0 (.fresh 0 0 (!w.params.followText "set-order")) }
theorem Qn(w:World):TOk w #[] (.fresh 0 0 (!w.params.followText "set-order")) []:=
 ⟨fun e h=>by simp at h,.rfl,by simp,by decide,rfl,rfl,fun h=>by simp at h⟩
theorem void_set{w:World}(h:Heap):TSet w h.objs.size [] (h.push (void w)):=⟨_,_,_,_,Z11 _ rfl,⟨rfl,rfl,rfl⟩,rfl,Qn w⟩
section
variable {Q:Value→Shared→Prop}
variable{prog:Program}{w:World}{A:Around}{E:Value→Shared→Prop}{s:Shared}
theorem newX(g:Q (.ref s.heap.objs.size) { s with heap:=s.heap.push (void w) }):codeAny (model prog w) A (.call (.builtin "set.__new__") ⟨[.type "set"],[]⟩) (wants Q E) s:=by
 refine codeAny_of_tree ?_;change wpAny _ A.in1 (checkBuiltinCall "set.__new__" ⟨[.type "set"],[]⟩ >>=fun _=>again (.builtin "set.__new__" ⟨[.type "set"],[]⟩)) _ _ s;refine Y10 (W37 F.newCall_set_0 ?_);refine Z10 ⟨U35 F.plain_set_new _,V34 F.entry_set_new ?_⟩;rw[W30 F.plain_set_new _];unfold Builtin.«set.__new__»;unfold Builtin.Frozenset.newClass;have hsub:=sub_set_self;obtain⟨hp,gs,d,tk,os⟩:=s;dsimp only
 wp_walk
 refine W32 ?_;refine Z10 ?_;dsimp only;simp only[newObj];exact Y10 (wpAny_alloc (Z10 (Z10 g)))
set_option maxHeartbeats 1000000 in
theorem callX(g:Q (.ref s.heap.objs.size) { s with heap:=s.heap.push (void w) }):wpAny (model prog w) A (call (.type "set") []) Q E s:=by
 obtain⟨c,tl,hm1⟩:=W34.mro;have hm2:=W34.made;have hm3:=W34.sub;refine wpAny_call (codeAny_of_tree ?_);change wpAny _ _ (callAny (.type "set") _) _ _ _;refine Z10 ⟨Code.quiet_builtin _ (by decide +kernel),?_⟩;refine V34 F.entry_type_call ?_;rw[Around.under_plain (weight_type_call_type "set" [] []) rfl];have q1:=W34.notType;have q2:=W34.canCreate;have q3:=F.typeCall_set_0
 repeat (any_goals (first
  |assumption
  |wp_step))
 refine U41 (newX (E:=E) (Q:=fun v s1=>v=.ref s.heap.objs.size∧s1={ s with heap:=s.heap.push (void w) }) ⟨rfl,rfl⟩) fun r s1 hr=>?_;cases r with
 |error e=>exact hr
 |ok fl=>
  cases fl with
  |ret v=>
   obtain⟨rfl,rfl⟩:=hr;have e1:(s.heap.push (void w)).get? s.heap.objs.size=some (void w):=Z11 _ rfl;have e2:Shared.TypeIs { s with heap:=s.heap.push (void w) } (.ref s.heap.objs.size) "set":=⟨_,e1,rfl⟩;have e3:=W34.init.lookup;have e4:=W34.init.bind (.ref s.heap.objs.size)
   repeat (any_goals (first
    |assumption
    |wp_step))
   refine U41 (codeAny_call_builtin (R:=wants (fun r s2=>r=.none∧Q (.ref s.heap.objs.size) s2) E) W34.init.plain F.entry_set_init (check_set_init e2 ?_)) fun r2 s2 hr2=>?_
   ·unfold Builtin.«set.__init__»;unfold noKeywords
    wp_walk
    exact⟨rfl,g⟩
   ·cases r2 with
    |error e=>exact hr2
    |ok f2=>
     cases f2 with
     |ret r=>
      obtain⟨rfl,hq⟩:=hr2
      repeat (any_goals (first
       |assumption
       |wp_step))
     |_=>exact hr2.elim
  |_=>exact hr.elim
end
def tG(h:Heap)(a:Addr)(es:Array (Int×Value))(ep:Nat)(t:SetTable):Prop:=∃o,h.get? a=some o∧o.ExactSet∧o.data=.set es ep t∧t.fits es.size=true
theorem tG.at{h h':Heap}{a:Addr}{es:Array (Int×Value)}{ep:Nat}{t:SetTable}(x:tG h a es ep t)(k:∀o,h.get? a=some o→h'.get? a=some o):tG h' a es ep t:=by
 obtain⟨o,e,r⟩:=x;exact⟨o,k o e,r⟩
inductive Mode (w:World) (h:Heap) (a:Addr) (es:Array (Int×Value)) (ep:Nat) (t:SetTable) (i:Nat):Value→List Value→Prop where
 |text {sl:Nat}:w.params.followText "set-order"=true→Mode w h a es ep t i (.int sl 0) ((pickOrder (w.params.setOrder a ep) es).toList.map (·.2))
 |drawn {b:Addr} {ns:List Nat} {l:List Value}:IsTup h b (ns.map fun(n:Nat)=>rawInt n).toArray→l.length=ns.length→(∀(j n:Nat),ns[j]?=some n→∃e:Int×Value,es[n]?=some e∧l[j]?=some e.2)→Mode w h a es ep t i (.ref b) l
 |one {sl:Nat}:w.params.followText "set-order"=false→es.size≤1→t.led=true→(i=0→sl=0)→(0<i→∀p,t.place[0]?=some p→sl=p+1)→Mode w h a es ep t i (.int sl 0) (es.toList.map (·.2))
def Od(w:World)(h:Heap)(it a:Addr)(l:List Value)(i:Nat):Prop:=∃(oi:Obj) (es:Array (Int×Value)) (ep:Nat) (t:SetTable) (first:Value),h.get? it=some oi∧oi.cls=.type "set_iterator"∧oi.data=.fields #[first,.int i 0,.ref a,.int es.size 0,.int ep 0]∧tG h a es ep t∧a≠it∧
 Mode w h a es ep t i first l∧(∀b,first=.ref b→b≠it)
theorem below1{xs:Array Nat}{p:Nat}(h:xs=#[p])(j:Nat):SetTable.below xs j=if p<j then 1 else 0:=by
 subst h;unfold SetTable.below;change SetTable.below.go #[p] j 1 0 1=_;unfold SetTable.below.go;simp only[Z38,Nat.zero_lt_one,if_true];change (if(#[p]:Array Nat).getD 0 j<j then SetTable.below.go #[p] j 0 1 1 else SetTable.below.go #[p] j 0 0 0)=_;have e:(#[p]:Array Nat).getD 0 j=p:=rfl;rw[e]
 split<;>rfl
section
variable {Q:Option (Value×Nat)→Shared→Prop}
variable{prog:Program}{w:World}{A:Around}{E:Value→Shared→Prop}{s:Shared}{a:Addr}{es:Array (Int×Value)}{ep:Nat}{t:SetTable}
theorem nextT{sl i:Nat}(hS:tG s.heap a es ep t)(hb:w.params.followText "set-order"=true)
  (g:Q ((((pickOrder (w.params.setOrder a ep) es).toList.map (·.2))[i]?).map fun v=>(v,sl)) s):wpAny (model prog w) A (setNext a sl i ep) Q E s:=by
 obtain⟨o,ho,hx,hd,hf⟩:=hS;unfold setNext;refine Y10 (W31 ho hd hf ?_);dsimp only;refine Y10 ?_;unfold setsByText;refine Y10 (W32 (Z10 ?_));change wpAny _ _ (if w.params.followText "set-order"=true then _ else _) _ _ s;rw[if_pos hb,if_neg (by simp)];refine Y10 ?_;unfold setWalk;refine Y10 (W31 ho hd hf ?_);dsimp only;refine Y10 ?_;unfold setsByText;refine Y10 (W32 (Z10 ?_));change wpAny _ _ (if w.params.followText "set-order"=true then _ else _) _ _ s;rw[if_pos hb];refine Y10 (W32 (Z10 (Z10 ?_)));have e:((((pickOrder (w.params.setOrder a ep) es).toList.map (·.2))[i]?).map fun v=>(v,sl))=((pickOrder (w.params.setOrder a ep) es)[i]?).map fun e=>(e.2,sl):=by
  rw[W14,Option.map_map,W24]
  rfl
 rw[e]at g;exact g
theorem Uo{sl i:Nat}(hS:tG s.heap a es ep t)(hb:w.params.followText "set-order"=false)(h1:es.size≤1)(hl:t.led=true)
  (g:Q (match es[SetTable.below t.place sl]?,t.place[SetTable.below t.place sl]? with
   |some (_,x),some j=>some (x,j+1)
   |_,_=>none) s):wpAny (model prog w) A (setNext a sl i ep) Q E s:=by
 obtain⟨o,ho,hx,hd,hf⟩:=hS;unfold setNext;refine Y10 (W31 ho hd hf ?_);dsimp only;refine Y10 ?_;unfold setsByText;refine Y10 (W32 (Z10 ?_));change wpAny _ _ (if w.params.followText "set-order"=true then _ else _) _ _ s;rw[if_neg (by rw[hb];exact W16)];change wpAny _ _ (if(!t.plain&&decide (es.size > 1))=true then _ else _) _ _ s;rw[if_neg (by simp;omega)];refine Y10 ?_;change wpAny _ _ (if(!t.led&&!es.isEmpty)=true then _ else _) _ _ s;rw[if_neg (by rw[hl];simp)];refine Z10 ?_;exact Z10 g
end
theorem Od.ty{w:World}{s:Shared}{it a:Addr}{l:List Value}{i:Nat}(x:Od w s.heap it a l i):s.TypeIs (.ref it) "set_iterator":=by
 obtain⟨oi,_,_,_,_,e,c,_⟩:=x;exact⟨oi,e,c⟩
theorem cL{xs:Array Nat}(h:xs.size=1):∃p,xs=#[p]:=by
 obtain⟨l⟩:=xs;obtain⟨p,e⟩:=List.length_eq_one_iff.mp (show l.length=1 from h);exact⟨p,by rw[e]⟩
theorem Od.but{w:World}{h h':Heap}{it a c:Addr}{l:List Value}{i:Nat}(x:Od w h it a l i)(k:∀b o,b≠c→h.get? b=some o→h'.get? b=some o)(n1:it≠c)(n2:a≠c)(n3:∀b,(∃o,h.get? b=some o∧o.cls=.type "tuple")→b≠c):Od w h' it a l i:=by
 obtain⟨oi,es,ep,t,first,e,cc,d,hS,n,hm,hb⟩:=x;refine⟨oi,es,ep,t,first,k _ _ n1 e,cc,d,hS.at fun o=>k a o n2,n,?_,hb⟩;cases hm with
 |text h=>exact .text h
 |drawn h1 h2 h3=>
  obtain⟨o,e1,e2,r⟩:=h1;exact .drawn ⟨o,k _ o (n3 _ ⟨o,e1,e2⟩) e1,e2,r⟩ h2 h3
 |one h1 h2 h3 h4 h5=>exact .one h1 h2 h3 h4 h5
section
variable {Q:Option Value→Shared→Prop}
variable{prog:Program}{w:World}{A:Around}{E:Value→Shared→Prop}{s:Shared}{it a:Addr}{l:List Value}{i:Nat}
theorem jN{M:Model}{o:Obj}{vs:Array Value}{k:Nat}{x:Value}{Q:Unit→Shared→Prop}(ho:s.heap.get? it=some o)(hd:o.data=.fields vs)(hi:k<vs.size)
  (g:∀h' o',h'.get? it=some o'→o'.cls=o.cls→o'.data=.fields (vs.setIfInBounds k x)→Heap.SameBut it s.heap h'→Q () { s with heap:=h' }):wpAny M A (setField (.ref it) k x) Q E s:=
 wpAny_setField ho hd hi (g _ _ (Y27 _ ho (Obj.isFreed_of_fields (U29 hd _))) (Obj.cls_mapFields ..) (U29 hd _) (U25 ..))
set_option maxHeartbeats 1000000 in
theorem stepI{v:Value}(hit:Od w s.heap it a l i)(hv:l[i]?=some v)(g:∀h',Od w h' it a l (i+1)→Heap.SameBut it s.heap h'→Q (some v) { s with heap:=h' }):wpAny (model prog w) A (pyNext (.ref it)) Q E s:=by
 have hT:=hit.ty;obtain⟨oi,es,ep,t,first,ho,hc,hd,hS,hne,hm,hb⟩:=hit;obtain⟨os,hos,hsx,hsd,hsf⟩:=id hS;cases hm with
 |@text sl hbt=>
  unfold pyNext;refine Y10 (Y30 ?_);refine V15 (name:=Str.ofString "__next__") hT gY ?_;refine V16 gY hT nD ?_ (tF _);unfold Builtin.«set_iterator.__next__»;refine Y10 (Z10 ?_);refine Y10 (Z37 ho hd ?_);dsimp only;refine Y10 (Z26 hos hsd hsf ?_);rw[if_neg (by simp)];change wpAny _ _ (setNext a (Int.toNat (sl:Nat)) (Int.toNat (i:Nat)) (Int.toNat (ep:Nat)) >>=_) _ _ s;rw[Z16,Z16,Z16];refine Y10 (nextT hS hbt ?_);rw[hv];dsimp only[Option.map_some];refine Y10 (jN ho hd (by simp) fun h1 o1 e1 c1 d1 b1=>?_);refine Y10 (jN (s:={ s with heap:=h1 }) e1 d1 (by simp) fun h2 o2 e2 c2 d2 b2=>?_);have sb:=b1.trans b2;refine Z10 ⟨_,rfl,Z10 (g h2 ⟨o2,es,ep,t,rawInt sl,e2,(c2.trans c1).trans hc,by rw[d2];simp[rawInt],hS.at fun o e=>sb.extBut a o hne e,hne,.text hbt,fun b h=>by cases h⟩ sb)⟩
 |@drawn b ns l htp hln hat=>
  unfold pyNext;refine Y10 (Y30 ?_);refine V15 (name:=Str.ofString "__next__") hT gY ?_;refine V16 gY hT nD ?_ (tF _);unfold Builtin.«set_iterator.__next__»;refine Y10 (Z10 ?_);refine Y10 (Z37 ho hd ?_);dsimp only;refine Y10 (Z26 hos hsd hsf ?_);rw[if_neg (by simp)];obtain⟨ob,hob,hobc,nb,hobd⟩:=id htp;refine Y10 (Y24 hob hobd ?_);dsimp only;have hi:i<ns.length:=by
   rw[←hln];exact(U10.mp hv).1
  obtain⟨e,hes,hle⟩:=hat i ns[i] (by simp[hi]);rw[hv]at hle;cases hle;have hpl:(ns.map fun(n:Nat)=>rawInt n).toArray[Int.toNat (i:Nat)]?=some (rawInt (ns[i]:Nat)):=by simp[hi]
  rw[hpl];dsimp only[rawInt];refine Y10 ?_;unfold setNextDrawn;refine Y10 (W31 hos hsd hsf ?_);dsimp only;rw[if_neg (by simp),Z16,hes];refine Z10 ?_;refine Y10 (jN ho hd (by simp) fun h1 o1 e1 c1 d1 sb=>?_);exact Z10 ⟨_,rfl,Z10 (g h1 ⟨o1,es,ep,t,.ref b,e1,c1.trans hc,by rw[d1];simp[rawInt],hS.at fun o e=>sb.extBut a o hne e,hne,.drawn ⟨ob,sb.extBut b ob (hb b rfl) hob,hobc,nb,hobd⟩ hln hat,hb⟩ sb)⟩
 |@one sl hbt h1s hled h0 h1=>
  unfold pyNext;refine Y10 (Y30 ?_);refine V15 (name:=Str.ofString "__next__") hT gY ?_;refine V16 gY hT nD ?_ (tF _);unfold Builtin.«set_iterator.__next__»;refine Y10 (Z10 ?_);refine Y10 (Z37 ho hd ?_);dsimp only;refine Y10 (Z26 hos hsd hsf ?_);rw[if_neg (by simp)];change wpAny _ _ (setNext a (Int.toNat (sl:Nat)) (Int.toNat (i:Nat)) (Int.toNat (ep:Nat)) >>=_) _ _ s;rw[Z16,Z16,Z16];refine Y10 (Uo hS hbt h1s hled ?_);have hi:i<es.size:=by simpa using (U10.mp hv).1
  have hi0:i=0:=by lia
  subst hi0;cases h0 rfl;have hps:t.place.size=1:=by
   simp only[SetTable.fits,Y11,W40]at hsf
   lia
  obtain⟨p,hp⟩:=cL hps;have hbl:SetTable.below t.place 0=0:=by rw[below1 hp];simp
  have hp0:t.place[0]?=some p:=by rw[hp];rfl
  obtain⟨eh,ev,hes⟩:∃eh ev,es[0]?=some (eh,ev):=⟨es[0].1,es[0].2,by simp[hi]⟩;have hvv:v=ev:=by
   rw[W14,W24,hes]at hv;cases hv
   rfl
  rw[hbl,hes,hp0];dsimp only;refine Y10 (jN ho hd (by simp) fun h1 o1 e1 c1 d1 b1=>?_);refine Y10 (jN (s:={ s with heap:=h1 }) e1 d1 (by simp) fun h2 o2 e2 c2 d2 b2=>?_);have sb:=b1.trans b2;subst hvv;refine Z10 ⟨_,rfl,Z10 (g h2 ⟨o2,es,ep,t,rawInt (p+1:Nat),e2,(c2.trans c1).trans hc,by rw[d2];simp[rawInt],hS.at fun o e=>sb.extBut a o hne e,hne,.one hbt h1s hled (fun h=>by lia) (fun _ q hq=>by rw[hp]at hq;simp at hq;lia),fun b h=>by cases h⟩ sb)⟩
set_option maxHeartbeats 1000000 in
theorem EF(hh:A.handled=none)(hit:Od w s.heap it a l i)(hv:l[i]?=none)(g:∀h',Heap.ExtBut it s.heap h'→Q none { s with heap:=h' }):wpAny (model prog w) A (pyNext (.ref it)) Q E s:=by
 have hT:=hit.ty;obtain⟨oi,es,ep,t,first,ho,hc,hd,hS,hne,hm,hb⟩:=hit;obtain⟨os,hos,hsx,hsd,hsf⟩:=id hS;cases hm with
 |@text sl hbt=>
  unfold pyNext;refine Y10 (Y30 ?_);refine V15 (name:=Str.ofString "__next__") hT gY ?_;refine V16 gY hT nD ?_ (tF _);unfold Builtin.«set_iterator.__next__»;refine Y10 (Z10 ?_);refine Y10 (Z37 ho hd ?_);dsimp only;refine Y10 (Z26 hos hsd hsf ?_);rw[if_neg (by simp)];change wpAny _ _ (setNext a (Int.toNat (sl:Nat)) (Int.toNat (i:Nat)) (Int.toNat (ep:Nat)) >>=_) _ _ s;rw[Z16,Z16,Z16];refine Y10 (nextT hS hbt ?_);rw[hv];dsimp only[Option.map_none];refine Y10 (jN ho hd (by simp) fun h1 o1 e1 c1 d1 sb=>?_);refine Y10 ?_;simp only[newExc,newTuple];refine Y10 ?_;refine Y16 ?_ (by size_fits);refine Y10 (m:=firstArgMember _ _) ?_;refine W37 (a:=Value.none) (by
   first
    |rfl
    |(simp only[firstArgMember];rfl)) ?_
  refine Y16 ?_ ?_
  ·simp only[raiseNew];refine Y10 ?_;refine Y44 ?_;rw[show A.in1.handled=none from hh];refine Y10 (Z10 ?_);refine wpAny_throw ?_;refine Y10 ?_;refine W29 (T:="StopIteration") (b:=true) ⟨_,Z11 _ rfl,rfl⟩ isSubtype_stop ?_;exact Z10 (g _ ((sb.extBut.push _).push _))
  ·size_fits
 |@drawn b ns l htp hln hat=>
  unfold pyNext;refine Y10 (Y30 ?_);refine V15 (name:=Str.ofString "__next__") hT gY ?_;refine V16 gY hT nD ?_ (tF _);unfold Builtin.«set_iterator.__next__»;refine Y10 (Z10 ?_);refine Y10 (Z37 ho hd ?_);dsimp only;refine Y10 (Z26 hos hsd hsf ?_);rw[if_neg (by simp)];obtain⟨ob,hob,hobc,nb,hobd⟩:=id htp;refine Y10 (Y24 hob hobd ?_);dsimp only;have hi:ns.length≤i:=by
   rw[←hln];exact List.getElem?_eq_none_iff.mp hv
  have hpl:(ns.map fun(n:Nat)=>rawInt n).toArray[Int.toNat (i:Nat)]?=none:=by simp[hi]
  rw[hpl];dsimp only;refine Y10 (jN ho hd (by simp) fun h1 o1 e1 c1 d1 b1=>?_);refine Y10 (jN (s:={ s with heap:=h1 }) e1 d1 (by simp) fun h2 o2 e2 c2 d2 b2=>?_);have sb:=b1.trans b2;refine Y10 ?_;simp only[newExc,newTuple];refine Y10 ?_;refine Y16 ?_ (by size_fits);refine Y10 (m:=firstArgMember _ _) ?_;refine W37 (a:=Value.none) (by
   first
    |rfl
    |(simp only[firstArgMember];rfl)) ?_
  refine Y16 ?_ ?_
  ·simp only[raiseNew];refine Y10 ?_;refine Y44 ?_;rw[show A.in1.handled=none from hh];refine Y10 (Z10 ?_);refine wpAny_throw ?_;refine Y10 ?_;refine W29 (T:="StopIteration") (b:=true) ⟨_,Z11 _ rfl,rfl⟩ isSubtype_stop ?_;exact Z10 (g _ ((sb.extBut.push _).push _))
  ·size_fits
 |@one sl hbt h1s hled h0 h1=>
  unfold pyNext;refine Y10 (Y30 ?_);refine V15 (name:=Str.ofString "__next__") hT gY ?_;refine V16 gY hT nD ?_ (tF _);unfold Builtin.«set_iterator.__next__»;refine Y10 (Z10 ?_);refine Y10 (Z37 ho hd ?_);dsimp only;refine Y10 (Z26 hos hsd hsf ?_);rw[if_neg (by simp)];change wpAny _ _ (setNext a (Int.toNat (sl:Nat)) (Int.toNat (i:Nat)) (Int.toNat (ep:Nat)) >>=_) _ _ s;rw[Z16,Z16,Z16];refine Y10 (Uo hS hbt h1s hled ?_);have hi:es.size≤i:=by simpa using List.getElem?_eq_none_iff.mp hv
  have hps:t.place.size=es.size:=by
   simp only[SetTable.fits,Y11,W40]at hsf;exact hsf.1
  have hnone:es[SetTable.below t.place sl]?=none:=by
   by_cases hz:es.size=0
   ·simp[hz]
   ·have hz1:es.size=1:=by lia
    obtain⟨p,hp⟩:=cL (hps.trans hz1);have hsl:=h1 (by lia) p (by rw[hp];rfl);rw[below1 hp,if_pos (by lia)];simp[hz1]
  rw[hnone];dsimp only;refine Y10 (jN ho hd (by simp) fun h1 o1 e1 c1 d1 sb=>?_);refine Y10 ?_;simp only[newExc,newTuple];refine Y10 ?_;refine Y16 ?_ (by size_fits);refine Y10 (m:=firstArgMember _ _) ?_;refine W37 (a:=Value.none) (by
   first
    |rfl
    |(simp only[firstArgMember];rfl)) ?_
  refine Y16 ?_ ?_
  ·simp only[raiseNew];refine Y10 ?_;refine Y44 ?_;rw[show A.in1.handled=none from hh];refine Y10 (Z10 ?_);refine wpAny_throw ?_;refine Y10 ?_;refine W29 (T:="StopIteration") (b:=true) ⟨_,Z11 _ rfl,rfl⟩ isSubtype_stop ?_;exact Z10 (g _ ((sb.extBut.push _).push _))
  ·size_fits
end
structure Told (l:List Value) (L:List Str):Prop where
 is:StrsAre l (l.map strOf)
 pm:(l.map strOf).Perm L
theorem vB{w:World}{es:Array (Int×Value)}{t:SetTable}{L:List Str}(ok:TOk w es t L){l:List Value}(hp:l.Perm (es.toList.map (·.2))):Told l L:=by
 refine⟨strsAre_map l fun v hv=>?_,?_⟩
 ·obtain⟨e,he,rfl⟩:=V17.mp (hp.mem_iff.mp hv);obtain⟨x,tk,rfl⟩:=ok.el e he;exact⟨x,tk,rfl⟩
 ·refine(hp.map strOf).trans ?_;have e:(es.toList.map (·.2)).map strOf=es.toList.map fun e=>txt e.2:=by
   rw[V42];refine List.map_congr_left fun e he=>?_;obtain⟨x,tk,rfl⟩:=ok.el e he
   rfl
  rw[e];exact ok.pm
theorem zS{es:Array (Int×Value)}{ns:List Nat}(hp:ns.Perm (List.range es.size)):(ns.map fun n=>(es.getD n (0,.none)).2).Perm (es.toList.map (·.2)):=by
 refine(hp.map _).trans ?_;have e:(List.range es.size).map (fun n=>(es.getD n (0,Value.none)).2)=es.toList.map (·.2):=by
  apply List.ext_getElem
  ·simp
  ·intro i h1 h2;have h1':i<es.size:=by simpa using h1
   simp[h1']
 rw[e]
section
variable{prog:Program}{w:World}{A:Around}{E:Value→Shared→Prop}{s:Shared}{a:Addr}{L:List Str}
set_option maxHeartbeats 1000000 in
theorem EG{Q:Value→Shared→Prop}(hS:TSet w a L s.heap)
  (g:∀(it:Addr) (l:List Value) (h':Heap) (d:Drawn),(∀b o,s.heap.get? b=some o→h'.get? b=some o)→s.heap.objs.size≤it→Od w h' it a l 0→Told l L→Q (.ref it) { s with heap:=h',drawn:=d }):
  wpAny (model prog w) A (pyIter (.ref a)) Q E s:=by
 have hT:=hS.ty;have hlt:=hS.lt;obtain⟨o,es,ep,t,ho,hx,hd,ok⟩:=hS;refine wpAny_pyIter_slot hT F.slot_set_iter (V16 F.slot_set_iter hT Xu ?_ (F.args_set_iter_1 _));unfold Builtin.«frozenset.__iter__» Builtin.Frozenset.slot0 slotArgs;simp only[List.isEmpty_nil,Bool.not_true,Z23,if_false,bind_assoc,Y25,bne_self_eq_false];unfold Builtin.Frozenset.addrOf;refine Y10 (Z10 ?_)
 try dsimp only
 refine Y10 (Z10 ?_);unfold Builtin.Frozenset.sizeOf;refine Y10 (Y10 (Z26 ho hd ok.ft (Z10 ?_)));refine Y10 ?_;unfold setDrawn;refine Y10 (W31 ho hd ok.ft ?_);dsimp only;refine Y10 ?_;unfold setsByText;refine Y10 (W32 (Z10 (Z10 ?_)));change wpAny _ _ (if(!w.params.followText "set-order"&&(!t.plain&&decide (es.size > 1)))=true then _ else _) _ _ s;cases hb:w.params.followText "set-order" with
 |true=>
  rw[if_neg (by simp)];refine Y10 (Z10 ?_);refine Y10 (wpAny_setEpoch_of ho hd ok.ft ?_);unfold newFields;refine Y10 (Y16 ?_ (by size_fits));refine Z10 ⟨_,rfl,"set_iterator",_,⟨_,Z11 _ rfl,rfl⟩,gY.lookup,?_⟩;refine g s.heap.objs.size _ _ s.drawn (fun b o e=>V10 _ e) (W11 _) ⟨_,es,ep,t,rawInt 0,Z11 _ rfl,rfl,rfl,⟨o,V10 _ ho,hx,hd,ok.ft⟩,U14 hlt,.text (sl:=0) hb,fun b h=>by cases h⟩ (vB ok ((Iz _ _).map _))
 |false=>
  by_cases h1:es.size > 1
  ·have hpl:=ok.pl (by lia);rw[if_pos (by simp[hpl,h1])];refine Y10 ?_;refine Um es.size (List.range es.size) (by simp) fun ns d hp=>?_;have hns:ns.length=es.size:=by
    have:=hp.length_eq
    simpa using this
   refine Y10 (wpAny_newTuple ?_ (by rw[U12,hns];exact vA ok.bd));refine Y10 ?_;have ho1:(s.heap.push { cls:=.type "tuple",data:=.seq (ns.map fun(i:Nat)=>rawInt i).toArray }).get? a=some o:=V10 _ ho;refine wpAny_setEpoch_of ho1 hd ok.ft ?_;unfold newFields;refine Y10 (Y16 ?_ (by size_fits));refine Z10 ⟨_,rfl,"set_iterator",_,⟨_,Z11 _ rfl,rfl⟩,gY.lookup,?_⟩;have hsz:(s.heap.push { cls:=.type "tuple",data:=.seq (ns.map fun(i:Nat)=>rawInt i).toArray }).objs.size=s.heap.objs.size+1:=V20 ..;refine g _ (ns.map fun n=>(es.getD n (0,.none)).2) _ d (fun b o e=>V10 _ (V10 _ e)) ?_ ⟨_,es,ep,t,.ref s.heap.objs.size,Z11 _ rfl,rfl,rfl,⟨o,V10 _ ho1,hx,hd,ok.ft⟩,?_,?_,fun b h=>?_⟩ (vB ok (zS hp))
   ·change s.heap.objs.size≤(s.heap.push _).objs.size;rw[hsz];lia
   ·change a≠(s.heap.push _).objs.size;rw[hsz];exact U14 (Y26 hlt)
   ·refine .drawn (ns:=ns) ⟨_,V10 _ (Z11 _ rfl),rfl,0,rfl⟩ (by simp) fun j n hj=>?_;have hn:n<es.size:=by
     have:n∈List.range es.size:=hp.mem_iff.mp (U27 hj)
     simpa using this
    exact⟨es[n],by simp[hn],by rw[W14,hj];simp[hn]⟩
   ·cases h;change s.heap.objs.size≠(s.heap.push _).objs.size;rw[hsz];lia
  ·rw[if_neg (by simp[h1])];refine Y10 (Z10 ?_);refine Y10 (wpAny_setEpoch_of ho hd ok.ft ?_);unfold newFields;refine Y10 (Y16 ?_ (by size_fits));refine Z10 ⟨_,rfl,"set_iterator",_,⟨_,Z11 _ rfl,rfl⟩,gY.lookup,?_⟩;refine g s.heap.objs.size _ _ s.drawn (fun b o e=>V10 _ e) (W11 _) ⟨_,es,ep,t,rawInt 0,Z11 _ rfl,rfl,rfl,⟨o,V10 _ ho,hx,hd,ok.ft⟩,U14 hlt,.one (sl:=0) hb (by lia) (by rw[ok.ld,hb];rfl) (fun _=>rfl) (fun h=>by lia),fun b h=>by cases h⟩ (vB ok .rfl)
set_option maxHeartbeats 1000000 in
theorem Up(hh:A.handled=none){S it:Addr}(n1:S≠it)(n2:S≠a)(res:Value){l:List Value}(hl:l.length≤sizeLine){R:Result→Shared→Prop}:∀(k i:Nat) (s:Shared) (acc:Array Value) (c:Nat),l.length-i=k→i≤l.length→Od w s.heap it a l i→
  s.heap.get? S=some (seqObj "list" acc c)→acc.toList=l.take i→(∀h' acc' c',(∀b o,b≠S→b≠it→s.heap.get? b=some o→h'.get? b=some o)→h'.get? S=some (seqObj "list" acc' c')→acc'.toList=l→R (.ok (.ret res)) { s with heap:=h' })→
  codeAny (model prog w) A (.builtin "list.extend.loop" ⟨[.ref S,.ref it,res],[]⟩) R s
 |0,i,s,acc,c,hk,hi,hit,hS,ha,hR=>by
  have hin:i=l.length:=by lia
  refine V34 F.entry_extend_loop ?_;rw[W30 V26 _];change wpAny _ A.in1 (pyNext (.ref it) >>=_) _ _ s;refine Y10 (EF (A:=A.in1) hh hit (by simp[hin]) fun h' kp=>?_);refine Z10 (hR h' acc c (fun b o _ hb e=>kp b o hb e) (kp S _ n1 hS) ?_);rw[ha,hin,List.take_length]
 |k+1,i,s,acc,c,hk,hi,hit,hS,ha,hR=>by
  have hlt:i<l.length:=by lia
  have hsz:acc.size=i:=by
   rw[←W28,ha,V22]
   lia
  refine V34 F.entry_extend_loop ?_;rw[W30 V26 _];change wpAny _ A.in1 (pyNext (.ref it) >>=_) _ _ s;refine Y10 (stepI (A:=A.in1) (v:=l[i]) hit (by simp[hlt]) fun h' hit' sb=>?_);have hS':h'.get? S=some (seqObj "list" acc c):=sb.extBut S _ n1 hS;change wpAny _ A.in1 (updateSeq S (·.push l[i]) >>=_) _ _ _;refine Y10 (V31 hS' rfl ?_ ?_ ?_)
  ·have e2:=U34 hS' (fun xs=>xs.push l[i]);have kp2:∀b o,b≠S→h'.get? b=some o→(h'.update S (Obj.mapSeq fun xs=>xs.push l[i])).get? b=some o:=fun b o hb e=>(V23 _ _ (Ne.symm hb)).trans e;refine Z10 ⟨U35 V26 _,?_⟩;refine Up hh n1 n2 res hl k (i+1) _ (acc.push l[i]) _ (by lia) hlt (hit'.but kp2 (Ne.symm n1) (Ne.symm n2) fun b ⟨o,e,hc⟩ hb=>?_) e2 (by rw[Z28,ha,List.take_succ,U13 hlt];rfl) fun h2 acc' c' kp3 e3 e4=>?_
   ·subst hb;rw[hS']at e;cases e;exact absurd (show Value.type "list"=Value.type "tuple" from hc) (by decide)
   ·exact hR h2 acc' c' (fun b o hb hb2 e=>kp3 b o hb hb2 (kp2 b o hb (sb.extBut b o hb2 e))) e3 e4
  ·rw[hsz];lia
  ·change (acc.push l[i]).size≤sizeLine+1;rw[Array.size_push,hsz];lia
theorem EH{Q:Bool→Shared→Prop}(hT:s.TypeIs (.ref a) "set")(g:Q false s):wpAny (model prog w) A (Builtin.List.listLengthHint (.ref a)) Q E s:=by
 unfold Builtin.List.listLengthHint;refine Y10 (Y34 hT F.slot_set_len.lookup ?_);generalize hid:("set.__len__":String)=id0
 wp_delta
 rw[show splitId id0=some ("set","__len__") from by
  subst hid
  decide +kernel]
 subst hid;refine Y10 (W29 (T:="set") (b:=true) hT (by rw[isSubtype_type];kernel_rfl) ?_);refine wpAny_ite_split (fun z=>absurd z (by decide)) fun _=>?_;refine wpAny_ite_split (fun _=>?_) fun z=>absurd (by decide +kernel) z;exact Y10 (W33 hT (Z10 g))
set_option maxHeartbeats 1000000 in
theorem collI(hh:A.handled=none){R:List Value→Shared→Prop}(hS:TSet w a L s.heap)(g:∀(h':Heap) (d:Drawn) (l:List Value),(∀b o,s.heap.get? b=some o→h'.get? b=some o)→Told l L→R l { s with heap:=h',drawn:=d }):wpAny (model prog w) A (collect (.ref a)) R E s:=by
 have hlt:=hS.lt;have hLn:L.length<scanBound:=by
  obtain⟨_,es,_,t,_,_,_,ok⟩:=hS;rw[←ok.size];exact ok.bd
 have n2:s.heap.objs.size≠a:=Y28 hlt;unfold collect;refine Y10 (wpAny_runValue (V34 F.entry_proto_collect ?_));rw[W30 F.plain_proto_collect _];change wpAny _ A.in1 (newList [] >>=fun l=>again (.builtin "list.__iadd__" ⟨[l,.ref a],[]⟩)) _ _ s;refine Y10 (Y16 ?_);refine Z10 ⟨U35 F.plain_list_iadd _,?_⟩;refine V34 F.entry_list_iadd ?_;rw[W30 F.plain_list_iadd _];have kp0:∀b o,s.heap.get? b=some o→(s.heap.push (seqObj "list" #[] 0)).get? b=some o:=fun b o e=>V10 _ e;have hS1:TSet w a L (s.heap.push (seqObj "list" #[] 0)):=hS.at (kp0 a);have hA:(s.heap.push (seqObj "list" #[] 0)).get? s.heap.objs.size=some (seqObj "list" #[] 0):=Z11 _ rfl;change wpAny _ A.in1 (Builtin.List.listExtendWith (.ref s.heap.objs.size) (.ref a) (.ref s.heap.objs.size)) _ _ { s with heap:=s.heap.push (seqObj "list" #[] 0) };unfold Builtin.List.listExtendWith;refine Y10 (W33 (s:={ s with heap:=s.heap.push (seqObj "list" #[] 0) }) hS1.ty ?_);rw[if_neg (by simp[Builtin.List.listSameRef,n2])];refine Y10 (EG (s:={ s with heap:=s.heap.push (seqObj "list" #[] 0) }) hS1 fun it l h1 d kp1 hge hit told=>?_);have n1:s.heap.objs.size≠it:=by
  have hge':s.heap.objs.size+1≤it:=by
   have:(s.heap.push (seqObj "list" #[] 0)).objs.size≤it:=hge
   rwa [V20]at this
  exact U14 hge'
 have hll:l.length≤sizeLine:=by
  have:=told.pm.length_eq;rw[U12]at this;rw[this];exact vA hLn
 have hA1:=kp1 _ _ hA;have fin:∀(h2:Heap) (c:Nat),(∀b o,b≠s.heap.objs.size→h1.get? b=some o→h2.get? b=some o)→h2.get? s.heap.objs.size=some (seqObj "list" #[] c)→
   codeAny (model prog w) A (.builtin "list.extend.loop" ⟨[.ref s.heap.objs.size,.ref it,.ref s.heap.objs.size],[]⟩) (fun q s'=>match q with
    |.ok (.ret v)=>wpAny (model prog w) A (match v with
     |.ref b=>load b >>=fun o=>match o.data with
      |.seq xs _=>pure xs.toList
      |_=>unsupported "internal:collect"
     |_=>unsupported "internal:collect") R E s'
    |.ok _=>False
    |.error e=>E e s') { s with heap:=h2,drawn:=d }:=by
  intro h2 c kp2 e2;refine Up hh n1 n2 _ hll l.length 0 _ #[] c rfl (V24 _) ((hit).but kp2 (Ne.symm n1) (Ne.symm n2) fun b ⟨o,e,hc⟩ hb=>?_) e2 rfl fun h3 acc c3 kp3 e3 e4=>?_
  ·subst hb;rw[hA1]at e;cases e;exact absurd hc (by decide)
  ·dsimp only;refine Y10 (wpAny_load e3 ?_);refine Z10 ?_;rw[e4];exact g h3 d l (fun b o e=>kp3 b o (U14 (W12 e)) (fun z=>by
    subst z;exact absurd (W12 e) (Nat.not_lt.mpr (Y14 (Nat.le_succ _) (by have:(s.heap.push (seqObj "list" #[] 0)).objs.size≤b:=hge;rwa [V20]at this)))) (kp2 b o (U14 (W12 e)) (kp1 b o (kp0 b o e)))) told
 refine Y10 (U16 (EH (hS1.at (kp1 a)).ty ?_));refine wpAny_ite_split (fun _=>?_) fun _=>?_
 ·refine Y10 (V27 ?_);refine Y10 ?_;change wpAny _ _ (updateSeq s.heap.objs.size (·.push .none) >>=fun _=>updateSeq s.heap.objs.size (·.pop)) _ _ _;refine Y10 (V31 hA1 rfl ?_);have e2:=U34 hA1 (fun xs=>xs.push Value.none);refine V31 (hz:=by seq_fits) e2 rfl ?_;have e3:=U34 e2 (fun xs=>xs.pop);refine Z10 ⟨U35 V26 _,fin _ _ (fun b o hb e=>?_) e3⟩;exact(V23 _ _ (Ne.symm hb)).trans ((V23 _ _ (Ne.symm hb)).trans e)
 ·exact Z10 ⟨U35 V26 _,fin _ _ (fun b o hb e=>e) hA1⟩
end
end TXS
namespace L2
open PySem PySem.Spec PyProof.Rows
def nF(w:World)(a:Addr)(L:List Str):HO:=.ext (TXS.TSet w a L)
theorem Cc{P:Program}{w:World}{H:Hp}{h:Heap}{a:Addr}{L:List Str}(x:TXS.TSet w a L h):cK P w H h a (nF w a L):=by
 refine⟨x,?_,fun h1 h2 y k=>y.at k⟩;obtain⟨o,_,_,_,e,_⟩:=x;exact⟨o,e⟩
theorem tH:∀{us:List Value} {ss:List Str},StrsAre us ss→Vals (ss.map V.str) us
 |_,_,.nil=>.nil
 |_,_,.cons x t h=>.cons ⟨t,rfl⟩ (tH h)
section
variable{X:Cx}
theorem Inv.drew{pins:List (Addr×Obj)}{σ:St}{H:Hp}{s:Shared}(I:Inv X pins σ H s)(d:Drawn):Inv X pins σ H { s with drawn:=d }:=
 I.call (g':=s.gens) (t':=s.toks) (d':=d) (ch:=[]) Un.refl I.hok I.bare fun b h=>nomatch h
theorem Ff:dB X (.type "set") (fun xs H Q=>xs=[]∧∀p,H p=none→Q (.ref p) (upd H p (nF X.w p []))):=by
 intro pins s σ H xs us Q I r h;obtain⟨rfl,q⟩:=h;cases r;refine TXS.callX ?_;exact⟨.ref s.heap.objs.size,_,I.laid (t':=s.toks) (fun b o e=>V10 _ e) (W11 _) (Cc (TXS.void_set _)),rfl,q _ (I.hok.fresh (W11 _))⟩
theorem boot_set:bootBuiltins "set"=some (.type "set"):=by decide +kernel
def EI(w:World)(to:TE)(t:TA):TE:=fun σ H Q=>to σ H fun x H1=>∃p L,x=.ref p∧H1 p=some (nF w p L)∧t σ H1 fun xs H2=>∃y L',xs=[.str y]∧H2 p=some (nF w p L')∧L'.length+1<4096∧Q .non (upd H2 p (nF w p (if y∈L' then L' else L'++[y])))
theorem Qo{o e:Expr}{to:TE}{t:TA}{apos cpos:Pos}(ho:PE X o to)(ha:PA X [e] t)
  (hbase:attributeBase o "add" X.env (eval o X.env)=eval o X.env:=by rfl)
  (hfew:((backTo cpos (starEach [e] X.env)).all (fun x=>!x.1)&&(backToKw cpos (keywordEach [] X.env)).all (fun x=>x.1.isSome)
   &&decide ([e].length+([]:List Keyword).length+(if([]:List Keyword).isEmpty then 0 else 1)<30))=true:=by rfl)
  (hline:(apos.endLine==cpos.line)=true:=by rfl)(hs:starEach [e] X.env=(false,eval e X.env)::starEach [] X.env:=by rfl)(hplain:(backTo cpos (starEach [] X.env)).any (·.1)=false:=by rfl):
  PE X (.Call (.Attribute o "add" apos) [e] [] cpos) (EI X.w to t):=by
 intro pins s σ H Q I h;refine wpAny_Call_method_late hbase hfew hline rfl (thn (ho pins s σ H _ I h) fun v s1 ⟨x,H1,I1,r1,p,L,ex,hp,q1⟩=>?_);subst ex;cases r1;have hS1:TXS.TSet X.w p L s1.heap:=(I1.hok p _ hp).1;refine⟨"set","set.add",F.plainAttrs_set,F.slot_set_add,F.type_set_add,hS1.ty,fun a ea=>?_,?_⟩
 ·cases ea;obtain⟨ob,_,_,_,e1,ex,_⟩:=hS1;exact⟨ob,e1,ex.2.1⟩
 ·have hA:=ha cpos pins s1 σ H1 _ I1 q1;rw[hs]at hA⊢;refine Y29 (by show(false || (backTo cpos (starEach [] X.env)).any (·.1))=false;rw[hplain]<;>rfl) (Calls.evalArgs_plain ?_);refine thn hA fun us s2 ⟨vs,H2,I2,r2,y,L',ev,hp2,hlen,q2⟩=>?_;subst ev;obtain⟨u,rfl,ru⟩:=vals1 r2;obtain⟨tk,rfl⟩:=ru;have hS2:TXS.TSet X.w p L' s2.heap:=(I2.hok p _ hp2).1;refine V16 F.slot_set_add hS2.ty F.entry_set_add ?_ (F.args_set_add_2 _ _);unfold Builtin.«set.add»;unfold Builtin.Frozenset.oneOther;simp only[List.isEmpty_nil,bind_assoc];unfold Builtin.Frozenset.addrOf;unfold setAdd;refine Y10 (Z10 ?_)
  try dsimp only
  refine Y10 ?_;refine U16 ?_;refine Y10 ((PySem.strKind X.prog X.w).pyHash (k:=y) (by simp[PySem.strKind,Value.isStrOf]) ?_);refine TXS.addT (s:={ s2 with toks:=s2.toks+1 }) hS2 hlen fun r h' sb hS'=>?_;change wpAny _ _ (ret Value.none) _ _ _;refine Z10 ⟨_,rfl,?_⟩;refine⟨.non,_,I2.write (h':=h') (t':=s2.toks+1) (e:=p) (o:=nF X.w p (if y∈L' then L' else L'++[y])) (by rw[hp2];trivial) (.inl rfl) (fun b u hb e=>sb.extBut b u hb e) ?_ (Cc hS'),rfl,q2⟩;obtain⟨ob,_,_,_,e1,_⟩:=hS';exact⟨ob,e1⟩
end
end L2
namespace TSO
open PySem PySem.Spec PyProof.Rows
def gallop':Bool→Keyed→Array Keyed→Nat→Nat→Nat→StateT SortSt Sem (Option Nat):=sortPriv% PySem.Builtin.gallop
def mergeLo':Array Keyed→Array Keyed→StateT SortSt Sem (Array Keyed):=sortPriv% PySem.Builtin.mergeLo
def mergeHi':Array Keyed→Array Keyed→StateT SortSt Sem (Array Keyed):=sortPriv% PySem.Builtin.mergeHi
def Kd(p:Keyed):Prop:=∃a,strKind.keyOf p.1=some a
section
variable {Q:Option Bool→SortSt→Prop}{arr:Array Keyed}{left:Bool}{key:Keyed}
variable{prog:Program}{w:World}{A:Around}{E:Value→Shared→Prop}{s:Shared}{st:SortSt}
theorem wl{x y:Keyed}(hk:kindOf st=oneType')(hx:Kd x)(hy:Kd y)(h:∀b,Q (some b) st):wpS (model prog w) A E s (lt' x y) Q st:=by
 obtain⟨a,ha⟩:=hx;obtain⟨b,hb⟩:=hy;rw[lt'_eq];refine wpS_bind (wpS_get ?_);rw[hk,keyLt'_oneType];refine wpS_bind (wpS_lift (Y30 (strKind_oneLt prog w A _ s x.1 y.1 a b ha hb ⟨rfl,?_⟩)));exact wpS_pure (h _)
theorem we{i:Nat}{p:Keyed}{Q:Keyed→SortSt→Prop}(hi:arr[i]?=some p)(h:Q p st):wpS (model prog w) A E s (elem' arr i) Q st:=by
 rw[elem'_eq,hi];exact wpS_pure h
theorem wb{j:Nat}{p:Keyed}(hk:kindOf st=oneType')(hx:Kd key)(hi:arr[j]?=some p)(hp:Kd p)(h:∀b,Q (some b) st):
  wpS (model prog w) A E s (do
   let x ←elem' arr j
   if left=true then lt' x key else do
    let r ←lt' key x
    pure (Option.map (fun x=>!x) r)) Q st:=by
 refine wpS_bind (we hi ?_)
 split
 ·exact wl hk hp hx h
 ·exact wpS_bind (wl hk hx hp fun b=>wpS_pure (h _))
theorem fK{base n hint:Nat}{Q:Option Nat→SortSt→Prop}(hk:kindOf st=oneType')(hx:Kd key)
  (ha:∀i,i<n→∃p,arr[base+i]?=some p∧Kd p)(hh:hint<n)(h:∀k,k≤n→Q (some k) st):wpS (model prog w) A E s (gallop' left key arr base n hint) Q st:=by
 have hb:∀(i:Nat) (Q:Option Bool→SortSt→Prop),i<n→(∀b,Q (some b) st)→wpS (model prog w) A E s (do
   let x ←elem' arr (base+i)
   if left=true then lt' x key else do
    let r ←lt' key x
    pure (Option.map (fun x=>!x) r)) Q st:=fun i Q hi hq=>by
  obtain⟨p,h1,h2⟩:=ha i hi;exact wb hk hx h1 h2 hq
 refine wpS_bind (hb hint _ hh fun right=>?_);dsimp only;have fin:∀lo hi:Nat,hi≤n→wpS (model prog w) A E s (forIn [:n] ((none,lo,hi):Option (Option Nat)×Nat×Nat) fun x r=>
   if r.2.1≥r.2.2 then pure (ForInStep.done (none,r.2.1,r.2.2)) else do
    let y ←(do
     let x ←elem' arr (base+(r.2.1+(r.2.2-r.2.1)/2))
     if left=true then lt' x key else do
      let r ←lt' key x
      pure (Option.map (fun x=>!x) r))
    match y with
    |some more=>if more=true then pure (ForInStep.yield (none,r.2.1+(r.2.2-r.2.1)/2+1,r.2.2)) else pure (ForInStep.yield (none,r.2.1,r.2.1+(r.2.2-r.2.1)/2))
    |x=>pure (ForInStep.done (some none,r.2.1,r.2.2))) (fun c st'=>st'=st∧c.1=none∧c.2.2≤n) st:=by
  intro lo hi hhi;refine Y22 (I:=fun _ (c:Option (Option Nat)×Nat×Nat) st'=>st'=st∧c.1=none∧c.2.2≤n) ?_ (fun c st' q=>q) ⟨rfl,rfl,hhi⟩;rintro i ⟨r,l,g⟩ st' _ _ ⟨rfl,e,hg⟩;dsimp only at e hg⊢;subst e
  split
  ·exact wpS_pure ⟨rfl,rfl,hg⟩
  ·refine wpS_bind (hb _ _ (by omega) fun b=>?_);cases b
   ·exact wpS_pure ⟨rfl,rfl,by dsimp only;omega⟩
   ·exact wpS_pure ⟨rfl,rfl,hg⟩
 cases right with
 |true=>
  rw[if_pos rfl];refine wpS_bind (wpS_mono (Q:=fun(c:Option (Option Nat)×Nat×Nat) st'=>st'=st∧c.1=none) ?_ fun c st' q=>?_)
  ·refine Y22 (I:=fun _ (c:Option (Option Nat)×Nat×Nat) st'=>st'=st∧c.1=none) ?_ (fun c st' q=>q) ⟨rfl,rfl⟩;rintro i ⟨r,l,g⟩ st' _ _ ⟨rfl,e⟩;dsimp only at e⊢;subst e
   split
   ·exact wpS_pure ⟨rfl,rfl⟩
   ·refine wpS_bind (hb _ _ (by omega) fun b=>?_);cases b
    ·exact wpS_pure ⟨rfl,rfl⟩
    ·exact wpS_pure ⟨rfl,rfl⟩
  ·obtain⟨r,l,g⟩:=c;obtain⟨rfl,e⟩:=q;dsimp only at e⊢;subst e;refine wpS_bind (wpS_mono (fin _ _ (by omega)) fun c st2 q=>?_);obtain⟨r,l2,g2⟩:=c;obtain⟨rfl,e,hg⟩:=q;dsimp only at e hg⊢;subst e;exact wpS_pure (h _ hg)
 |false=>
  rw[if_neg (by decide)];refine wpS_bind (wpS_mono (Q:=fun(c:Option (Option Nat)×Nat×Nat) st'=>st'=st∧c.1=none) ?_ fun c st' q=>?_)
  ·refine Y22 (I:=fun _ (c:Option (Option Nat)×Nat×Nat) st'=>st'=st∧c.1=none) ?_ (fun c st' q=>q) ⟨rfl,rfl⟩;rintro i ⟨r,l,g⟩ st' _ _ ⟨rfl,e⟩;dsimp only at e⊢;subst e
   split
   ·exact wpS_pure ⟨rfl,rfl⟩
   ·refine wpS_bind (hb _ _ (by omega) fun b=>?_);cases b
    ·exact wpS_pure ⟨rfl,rfl⟩
    ·exact wpS_pure ⟨rfl,rfl⟩
  ·obtain⟨r,l,g⟩:=c;obtain⟨rfl,e⟩:=q;dsimp only at e⊢;subst e;refine wpS_bind (wpS_mono (fin _ _ (by omega)) fun c st2 q=>?_);obtain⟨r,l2,g2⟩:=c;obtain⟨rfl,e,hg⟩:=q;dsimp only at e hg⊢;subst e;exact wpS_pure (h _ hg)
end
structure Sg (st st':SortSt):Prop where
 kind:kindOf st'=kindOf st
 arr:arrOf st'=arrOf st
 pend:pendingOf st'=pendingOf st
 failed:failedOf st'=failedOf st
theorem Sg.refl(st:SortSt):Sg st st:=⟨rfl,rfl,rfl,rfl⟩
theorem Sg.gal{st st':SortSt}(h:Sg st st')(g:Nat):Sg st (SortSt.mk' (kindOf st') (arrOf st') (pendingOf st') g (failedOf st')):=⟨h.kind,h.arr,h.pend,h.failed⟩
section
variable{a b out:Array Keyed}{ia ib:Nat}{x:Keyed}
def Pm(a b out:Array Keyed)(ia ib:Nat):Prop:=(out.toList++(a.toList.drop ia++b.toList.drop ib)).Perm (a.toList++b.toList)
theorem Jb(h:a[ia]?=some x):a.toList.drop ia=x::a.toList.drop (ia+1):=by
 have hi:ia<a.toList.length:=by have:=(W25.mp h).1;simpa using this
 rw[V21 hi];have:=(W25.mp h).2
 simpa using this
theorem Pm.pushA(p:Pm a b out ia ib)(h:a[ia]?=some x):Pm a b (out.push x) (ia+1) ib:=by
 unfold Pm at p⊢;rw[Jb h]at p
 simpa using p
theorem Pm.pushB(p:Pm a b out ia ib)(h:b[ib]?=some x):Pm a b (out.push x) ia (ib+1):=by
 unfold Pm at p⊢;rw[Jb h]at p;refine .trans ?_ p;rw[Z28,W10];refine W17 _ ?_;exact(List.perm_middle (a:=x) (l₁:=a.toList.drop ia) (l₂:=b.toList.drop (ib+1))).symm
theorem iF(j:Nat):(a.extract ia j).toList=(a.toList.drop ia).take (j-ia):=by
 rw[Array.toList_extract]
 try rfl
theorem xK(k:Nat)(l:List Keyed):(l.drop ia).take (ia+k-ia)++l.drop (ia+k)=l.drop ia:=by
 rw[show ia+k-ia=k by lia,←V37,Y35]
theorem Pm.extA(p:Pm a b out ia ib)(k:Nat):Pm a b (out++a.extract ia (ia+k)) (ia+k) ib:=by
 unfold Pm at p⊢;rw[Z22,iF,W10,←W10 (List.take _ _),xK];exact p
theorem Pm.extB(p:Pm a b out ia ib)(k:Nat):Pm a b (out++b.extract ib (ib+k)) ia (ib+k):=by
 unfold Pm at p⊢;rw[Z22,iF,W10];refine .trans (W17 _ ?_) p;have e:=xK (ia:=ib) k b.toList;generalize (b.toList.drop ib).take (ib+k-ib)=u at e⊢;rw[←e,←W10,←W10];exact Z29 _ U24
theorem take_all(l:List Keyed)(i:Nat):(l.drop i).take (l.length-i)=l.drop i:=W23 (by simp)
theorem Pm.done(p:Pm a b out ia ib):(out++a.extract ia a.size++b.extract ib b.size).Perm (a++b):=by
 unfold Pm at p;rw[V18];simp only[Z22,iF];have h1:=take_all a.toList ia;have h2:=take_all b.toList ib;simp only[W28]at h1 h2;rw[h1,h2,W10];exact p
theorem Pm.last(p:Pm a b out ia ib):(out++b.extract ib b.size++a.extract ia a.size).Perm (a++b):=by
 refine .trans ?_ p.done;rw[V18];simp only[Z22,W10];exact W17 _ U24
structure Iv (a b out:Array Keyed) (ia ib lb:Nat):Prop where
 pm:Pm a b out ia ib
 ha:ia+1<a.size
 hb:ib<b.size
 lb:lb≤ia+ib
def JJ(a b:Array Keyed)(st:SortSt)(lb:Nat)(r:Option (Array Keyed))(out:Array Keyed)(ia ib:Nat)(st':SortSt):Prop:=
 Sg st st'∧match r with
  |some z=>z.Perm (a++b)
  |none=>Iv a b out ia ib lb
end
abbrev GT:=Option (Array Keyed)×Array Keyed×Nat×Nat×Nat×Nat×Nat
def GP(a b:Array Keyed)(st:SortSt)(lb:Nat):ForInStep GT→SortSt→Prop
 |.done c,st'=>JJ a b st lb c.1 c.2.1 c.2.2.1 c.2.2.2.1 st'
 |.yield c,st'=>JJ a b st lb c.1 c.2.1 c.2.2.1 c.2.2.2.1 st'∧c.1=none
section
variable {a:Array Keyed}{i:Nat}
variable{prog:Program}{w:World}{A:Around}{E:Value→Shared→Prop}{s:Shared}{st:SortSt}
theorem fF(ha:∀p∈a.toList,Kd p)(h:i<a.size):∃p,a[i]?=some p∧Kd p:=⟨a[i],by simp[h],ha _ (by simp)⟩
theorem Jc(ha:∀p∈a.toList,Kd p):∀j,j<a.size-i→∃p,a[i+j]?=some p∧Kd p:=fun j hj=>fF ha (by lia)
theorem xM{b:Array Keyed}{Q:Array Keyed→SortSt→Prop}(hk:kindOf st=oneType')(ha:∀p∈a.toList,Kd p)(hb:∀p∈b.toList,Kd p)(h1:0<a.size)(h2:0<b.size)
  (h:∀r st',Sg st st'→r.Perm (a++b)→Q r st'):wpS (model prog w) A E s (mergeLo' a b) Q st:=by
 obtain⟨p0,e0,_⟩:=fF hb h2;refine wpS_bind (wpS_lift (V27 ⟨rfl,?_⟩));refine wpS_bind (we e0 ?_);have P0:Pm a b #[p0] 0 1:=by
  have:Pm a b #[] 0 0:=by unfold Pm;simp
  exact this.pushB e0
 extract_lets out ia ib
 split
 ·exact wpS_pure (h _ _ (.refl _) P0.done)
 rename_i n1
 split
 ·exact wpS_pure (h _ _ (.refl _) P0.last)
 rename_i n2;have n1':1≠b.size:=by simpa using n1
 have n2':0+1≠a.size:=by simpa using n2
 refine wpS_bind (wpS_get ?_);refine wpS_bind (wpS_mono (Q:=fun(c:Option (Array Keyed)×Array Keyed×Nat×Nat×Nat) st'=>JJ a b st (a.size+b.size+1) c.1 c.2.1 c.2.2.1 c.2.2.2.1 st') ?_ fun c st' q=>?_)
 ·refine Y22 (I:=fun x (c:Option (Array Keyed)×Array Keyed×Nat×Nat×Nat) st'=>JJ a b st (x+1) c.1 c.2.1 c.2.2.1 c.2.2.2.1 st'∧c.1=none) ?_ ?_ ⟨⟨.refl _,⟨P0,show 0+1<a.size by lia,show 1<b.size by lia,show 0+1≤0+1 by lia⟩⟩,rfl⟩
  ·rintro x ⟨r,out,ia,ib,g⟩ st1 _ _ ⟨⟨sg,v⟩,e⟩;dsimp only at e v;subst e;refine wpS_bind (wpS_mono (Q:=fun(c:Option (Array Keyed)×Array Keyed×Nat×Nat×Nat×Nat) st'=>JJ a b st (x+2) c.1 c.2.1 c.2.2.1 c.2.2.2.1 st') ?_ fun c st2 q=>?_)
   ·refine Y22 (I:=fun y (c:Option (Array Keyed)×Array Keyed×Nat×Nat×Nat×Nat) st'=>JJ a b st (x+1+min y 1) c.1 c.2.1 c.2.2.1 c.2.2.2.1 st'∧c.1=none) ?_ ?_ ⟨⟨sg,v⟩,rfl⟩
    ·rintro y ⟨r,out,ia,ib,c1,c2⟩ st2 _ _ ⟨⟨sg,v⟩,e⟩;dsimp only at e v;subst e;obtain⟨v1,v2,v3,v4⟩:=v;obtain⟨pb,eb,kb⟩:=fF hb v3;obtain⟨pa,ea,ka⟩:=fF ha (show ia<a.size by lia);refine wpS_bind (we eb (wpS_bind (we ea (wpS_bind (wl (sg.kind.trans hk) kb ka fun t=>?_)))));cases t with
     |true=>
      refine wpS_bind (we eb ?_);have v1':=v1.pushB eb;dsimp only
      split
      ·exact wpS_pure ⟨sg,v1'.done⟩
      rename_i n3;have n3':ib+1≠b.size:=by simpa using n3
      have I':Iv a b (out.push pb) ia (ib+1) (x+2):=⟨v1',v2,by lia,by lia⟩
      split
      ·exact wpS_pure ⟨sg,I'⟩
      ·exact wpS_pure ⟨⟨sg,by rw[show x+1+min (y+1) 1=x+2 by lia];exact I'⟩,rfl⟩
     |false=>
      refine wpS_bind (we ea ?_);have v1':=v1.pushA ea;dsimp only
      split
      ·exact wpS_pure ⟨sg,v1'.last⟩
      rename_i n3;have n3':ia+1+1≠a.size:=by simpa using n3
      have I':Iv a b (out.push pa) (ia+1) ib (x+2):=⟨v1',by lia,v3,by lia⟩
      split
      ·exact wpS_pure ⟨sg,I'⟩
      ·exact wpS_pure ⟨⟨sg,by rw[show x+1+min (y+1) 1=x+2 by lia];exact I'⟩,rfl⟩
    ·intro c st' q;rw[show x+1+min (max 0 (a.size+b.size)) 1=x+2 by lia]at q;exact q.1
   ·obtain⟨r,out,ia,ib,c1,c2⟩:=c;obtain⟨sg,v⟩:=q;dsimp only at v;cases r with
    |some z=>exact wpS_pure ⟨sg,v⟩
    |none=>
     refine wpS_bind (wpS_lift (V27 ⟨rfl,?_⟩));refine wpS_bind (wpS_mono (Q:=fun(c:Option (Array Keyed)×Array Keyed×Nat×Nat×Nat×Nat×Nat) st'=>JJ a b st (x+2) c.1 c.2.1 c.2.2.1 c.2.2.2.1 st') ?_ fun c st2 q=>?_)
     ·refine Y22 (I:=fun y (c:Option (Array Keyed)×Array Keyed×Nat×Nat×Nat×Nat×Nat) st'=>JJ a b st (x+2) c.1 c.2.1 c.2.2.1 c.2.2.2.1 st'∧c.1=none) ?_ (fun _ _ q=>q.1) ⟨⟨sg,v⟩,rfl⟩;rintro y ⟨r,out,ia,ib,g,c1,c2⟩ st2 _ _ ⟨⟨sg,v⟩,e⟩;dsimp only at e v;subst e;obtain⟨v1,v2,v3,v4⟩:=v;obtain⟨pb,eb,kb⟩:=fF hb v3
      extract_lets s1 out1 s2 ia1 s3 ib1 s4 g1 s5 ac1 bc1 ib9 jp g9
      have hj:∀g,wpS (model prog w) A E s (jp () g) (GP a b st (x+2)) st2:=by
       intro g;refine wpS_bind (Y36 (wpS_bind (we eb ?_)));have sg':=sg.gal g;refine wpS_bind (fK (sg'.kind.trans hk) kb (Jc ha) (by show 0<a.size-ia;lia) fun k hk'=>?_)
       replace hk':k≤a.size-ia:=hk'
       dsimp -zeta only
       extract_lets ac jp2 out3 ia3
       have hj2:∀out ia,Pm a b out ia ib→ia+1<a.size→x+2≤ia+ib→wpS (model prog w) A E s (jp2 () out ia) (GP a b st (x+2)) (SortSt.mk' (kindOf st2) (arrOf st2) (pendingOf st2) g (failedOf st2)):=by
        intro out ia u1 u2 u4;refine wpS_bind (we eb ?_);have u1':=u1.pushB eb
        extract_lets out2 ia4
        split
        ·exact wpS_pure ⟨sg',u1'.done⟩
        rename_i n5;have n5':ib+1≠b.size:=by simpa using n5
        obtain⟨pa,ea,ka⟩:=fF ha (show ia<a.size by lia);refine wpS_bind (we ea (wpS_bind (fK (sg'.kind.trans hk) ka (Jc hb) (by show 0<b.size-(ib+1);lia) fun k2 hk2=>?_)))
        replace hk2:k2≤b.size-(ib+1):=hk2
        dsimp -zeta only
        extract_lets bc2 jp3 out5 ib5
        have hj3:∀out ib',Pm a b out ia ib'→ib'<b.size→x+2≤ia+ib'→wpS (model prog w) A E s (jp3 () out ib') (GP a b st (x+2)) (SortSt.mk' (kindOf st2) (arrOf st2) (pendingOf st2) g (failedOf st2)):=by
         intro out ib' w1 w3 w4;refine wpS_bind (we ea ?_);have w1':=w1.pushA ea
         extract_lets out4
         split
         ·exact wpS_pure ⟨sg',w1'.last⟩
         rename_i n6;have n6':ia+1+1≠a.size:=by simpa using n6
         have I':Iv a b (out.push pa) (ia+1) ib' (x+2):=⟨w1',by lia,w3,by lia⟩
         split
         ·exact wpS_pure ⟨sg',I'⟩
         ·exact wpS_pure ⟨⟨sg',I'⟩,rfl⟩
        clear_value jp3
        split
        ·split
         ·exact wpS_pure ⟨sg',(u1'.extB k2).done⟩
         ·rename_i n7;have n7':ib+1+k2≠b.size:=by simpa using n7
          exact hj3 _ _ (u1'.extB k2) (by show ib+1+k2<b.size;lia) (by show x+2≤ia+(ib+1+k2);lia)
        ·exact hj3 _ _ u1' (by show ib+1<b.size;lia) (by show x+2≤ia+(ib+1);lia)
       clear_value jp2
       split
       ·split
        ·exact wpS_pure ⟨sg',(v1.extA k).last⟩
        rename_i n8;have n8':ia+k+1≠a.size:=by simpa using n8
        split
        ·exact wpS_pure ⟨sg',(v1.extA k).done⟩
        rename_i n9;have n9':ia+k≠a.size:=by simpa using n9
        exact hj2 _ _ (v1.extA k) (by show ia+k+1<a.size;lia) (by show x+2≤ia+k+ib;lia)
       ·exact hj2 _ _ v1 v2 v4
      clear_value jp
      refine wpS_mono (Q:=GP a b st (x+2)) ?_ fun r st' q=>by cases r<;>exact q
      split
      ·exact hj _
      ·exact hj _
     ·obtain⟨r,out,ia,ib,g,c1,c2⟩:=c;obtain⟨sg,v⟩:=q;dsimp only at v;cases r with
      |some z=>exact wpS_pure ⟨sg,v⟩
      |none=>exact wpS_bind (Y36 (wpS_pure ⟨⟨sg.gal _,v⟩,rfl⟩))
  ·intro c st' q;rw[show max 0 (a.size+b.size)=a.size+b.size by lia]at q;exact q.1
 ·obtain⟨r,out,ia,ib,g⟩:=c;obtain⟨sg,v⟩:=q;dsimp only at v⊢;cases r with
  |some z=>exact wpS_pure (h _ _ sg v)
  |none=>have:=v.ha;have:=v.hb;have:=v.lb;lia
end
section
variable {i:Nat}
variable{a b out:Array Keyed}{na nb:Nat}{x:Keyed}
def Pn(a b out:Array Keyed)(na nb:Nat):Prop:=(a.toList.take na++(b.toList.take nb++out.toList)).Perm (a.toList++b.toList)
theorem Uq(h:a[i]?=some x):a.toList.take (i+1)=a.toList.take i++[x]:=by
 have hi:i<a.toList.length:=by have:=(W25.mp h).1;simpa using this
 rw[List.take_succ_eq_append_getElem hi];have:=(W25.mp h).2
 simpa using this
theorem Pn.pushA(p:Pn a b out (i+1) nb)(h:a[i]?=some x):Pn a b (out.push x) i nb:=by
 unfold Pn at p⊢;rw[Uq h]at p;refine .trans ?_ p;rw[Z28,W10];refine W17 _ ?_;rw[←W10];exact U24
theorem Pn.pushB(p:Pn a b out na (i+1))(h:b[i]?=some x):Pn a b (out.push x) na i:=by
 unfold Pn at p⊢;rw[Uq h]at p;refine .trans ?_ p;rw[Z28,W10];exact W17 _ (W17 _ U24)
theorem Jd{l:List Keyed}{n:Nat}(h:i≤n):l.take i++(l.drop i).take (n-i)=l.take n:=by
 rw[←List.take_add,show i+(n-i)=n by lia]
theorem Pn.extA(p:Pn a b out na nb)(h:i≤na):Pn a b (out++(a.extract i na).reverse) i nb:=by
 unfold Pn at p⊢;rw[Z22,Y43,iF];refine .trans ?_ p;rw[←Jd h,W10];refine W17 _ ?_;rw[←W10];refine U24.trans (Z29 _ (W41 _))
theorem Pn.extB(p:Pn a b out na nb)(h:i≤nb):Pn a b (out++(b.extract i nb).reverse) na i:=by
 unfold Pn at p⊢;rw[Z22,Y43,iF];refine .trans ?_ p;rw[←Jd h,W10];refine W17 _ (W17 _ ?_);exact U24.trans (Z29 _ (W41 _))
theorem Pn.done(p:Pn a b out na nb):(a.extract 0 na++b.extract 0 nb++out.reverse).Perm (a++b):=by
 unfold Pn at p;rw[V18];simp only[Z22,iF,Y43,Y37,Nat.sub_zero,W10];exact(W17 _ (W17 _ (W41 _))).trans p
theorem Pn.last(p:Pn a b out na nb):(b.extract 0 nb++a.extract 0 na++out.reverse).Perm (a++b):=by
 refine .trans ?_ p.done;rw[V18];simp only[Z22];exact Z29 _ U24
structure In (a b out:Array Keyed) (na nb lb:Nat):Prop where
 pm:Pn a b out na nb
 a0:0<na
 b1:1<nb
 ha:na≤a.size
 hb:nb≤b.size
 lb:lb+na+nb≤a.size+b.size
def JN(a b:Array Keyed)(st:SortSt)(lb:Nat)(r:Option (Array Keyed))(out:Array Keyed)(ia ib:Nat)(st':SortSt):Prop:=
 Sg st st'∧match r with
  |some z=>z.Perm (a++b)
  |none=>In a b out ia ib lb
abbrev HT:=Option (Array Keyed)×Nat×Nat×Array Keyed×Nat×Nat×Nat
def GN(a b:Array Keyed)(st:SortSt)(lb:Nat):ForInStep HT→SortSt→Prop
 |.done c,st'=>JN a b st lb c.1 c.2.2.2.1 c.2.1 c.2.2.1 st'
 |.yield c,st'=>JN a b st lb c.1 c.2.2.2.1 c.2.1 c.2.2.1 st'∧c.1=none
end
section
variable {a:Array Keyed}
variable{prog:Program}{w:World}{A:Around}{E:Value→Shared→Prop}{s:Shared}{st:SortSt}
theorem Ur{n:Nat}(ha:∀p∈a.toList,Kd p)(h:n≤a.size):∀j,j<n→∃p,a[0+j]?=some p∧Kd p:=fun j hj=>fF ha (by lia)
theorem xN{b:Array Keyed}{Q:Array Keyed→SortSt→Prop}(hk:kindOf st=oneType')(ha:∀p∈a.toList,Kd p)(hb:∀p∈b.toList,Kd p)(h1:0<a.size)(h2:0<b.size)
  (h:∀r st',Sg st st'→r.Perm (a++b)→Q r st'):wpS (model prog w) A E s (mergeHi' a b) Q st:=by
 obtain⟨p0,e0,_⟩:=fF ha (show a.size-1<a.size by lia);refine wpS_bind (wpS_lift (V27 ⟨rfl,?_⟩));refine wpS_bind (we e0 ?_);have P0:Pn a b #[p0] (a.size-1) b.size:=by
  have:Pn a b #[] (a.size-1+1) b.size:=by unfold Pn;rw[show a.size-1+1=a.size by lia,W23 (by simp),W23 (by simp)];simp
  exact this.pushA e0
 extract_lets out
 split
 ·exact wpS_pure (h _ _ (.refl _) P0.done)
 rename_i n1
 split
 ·exact wpS_pure (h _ _ (.refl _) P0.last)
 rename_i n2;have n1':a.size-1≠0:=by simpa using n1
 have n2':b.size≠1:=by simpa using n2
 refine wpS_bind (wpS_get ?_);refine wpS_bind (wpS_mono (Q:=fun(c:Option (Array Keyed)×Nat×Nat×Array Keyed×Nat) st'=>JN a b st (a.size+b.size+1) c.1 c.2.2.2.1 c.2.1 c.2.2.1 st') ?_ fun c st' q=>?_)
 ·refine Y22 (I:=fun x (c:Option (Array Keyed)×Nat×Nat×Array Keyed×Nat) st'=>JN a b st (x+1) c.1 c.2.2.2.1 c.2.1 c.2.2.1 st'∧c.1=none) ?_ ?_ ⟨⟨.refl _,⟨P0,show 0<a.size-1 by lia,show 1<b.size by lia,show a.size-1≤a.size by lia,W11 _,show 0+1+(a.size-1)+b.size≤a.size+b.size by lia⟩⟩,rfl⟩
  ·rintro x ⟨r,na,nb,out,g⟩ st1 _ _ ⟨⟨sg,v⟩,e⟩;dsimp only at e v;subst e;refine wpS_bind (wpS_mono (Q:=fun(c:Option (Array Keyed)×Nat×Nat×Array Keyed×Nat×Nat) st'=>JN a b st (x+2) c.1 c.2.2.2.1 c.2.1 c.2.2.1 st') ?_ fun c st2 q=>?_)
   ·refine Y22 (I:=fun y (c:Option (Array Keyed)×Nat×Nat×Array Keyed×Nat×Nat) st'=>JN a b st (x+1+min y 1) c.1 c.2.2.2.1 c.2.1 c.2.2.1 st'∧c.1=none) ?_ ?_ ⟨⟨sg,v⟩,rfl⟩
    ·rintro y ⟨r,na,nb,out,c1,c2⟩ st2 _ _ ⟨⟨sg,v⟩,e⟩;dsimp only at e v;subst e;obtain⟨v1,va,vb,v2,v3,v4⟩:=v;obtain⟨na,rfl⟩:∃n,na=n+1:=⟨na-1,by lia⟩;obtain⟨nb,rfl⟩:∃n,nb=n+1:=⟨nb-1,by lia⟩;obtain⟨pb,eb,kb⟩:=fF hb (show nb<b.size by lia);obtain⟨pa,ea,ka⟩:=fF ha (show na<a.size by lia);refine wpS_bind (we eb (wpS_bind (we ea (wpS_bind (wl (sg.kind.trans hk) kb ka fun t=>?_)))));cases t with
     |true=>
      refine wpS_bind (we ea ?_);have v1':=v1.pushA ea;dsimp only
      split
      ·exact wpS_pure ⟨sg,v1'.done⟩
      rename_i n3;have n3':na≠0:=by simpa using n3
      have I':In a b (out.push pa) na (nb+1) (x+2):=⟨v1',by lia,vb,by lia,v3,by lia⟩
      split
      ·exact wpS_pure ⟨sg,I'⟩
      ·exact wpS_pure ⟨⟨sg,by rw[show x+1+min (y+1) 1=x+2 by lia];exact I'⟩,rfl⟩
     |false=>
      refine wpS_bind (we eb ?_);have v1':=v1.pushB eb;dsimp only
      split
      ·exact wpS_pure ⟨sg,v1'.last⟩
      rename_i n3;have n3':nb≠1:=by simpa using n3
      have I':In a b (out.push pb) (na+1) nb (x+2):=⟨v1',va,by lia,v2,by lia,by lia⟩
      split
      ·exact wpS_pure ⟨sg,I'⟩
      ·exact wpS_pure ⟨⟨sg,by rw[show x+1+min (y+1) 1=x+2 by lia];exact I'⟩,rfl⟩
    ·intro c st' q;rw[show x+1+min (max 0 (a.size+b.size)) 1=x+2 by lia]at q;exact q.1
   ·obtain⟨r,na,nb,out,c1,c2⟩:=c;obtain⟨sg,v⟩:=q;dsimp only at v;cases r with
    |some z=>exact wpS_pure ⟨sg,v⟩
    |none=>
     refine wpS_bind (wpS_lift (V27 ⟨rfl,?_⟩));refine wpS_bind (wpS_mono (Q:=fun(c:HT) st'=>JN a b st (x+2) c.1 c.2.2.2.1 c.2.1 c.2.2.1 st') ?_ fun c st2 q=>?_)
     ·refine Y22 (I:=fun y (c:HT) st'=>JN a b st (x+2) c.1 c.2.2.2.1 c.2.1 c.2.2.1 st'∧c.1=none) ?_ (fun _ _ q=>q.1) ⟨⟨sg,v⟩,rfl⟩;rintro y ⟨r,na,nb,out,g,c1,c2⟩ st2 _ _ ⟨⟨sg,v⟩,e⟩;dsimp only at e v;subst e;obtain⟨v1,va,vb,v2,v3,v4⟩:=v;obtain⟨nb,rfl⟩:∃n,nb=n+1:=⟨nb-1,by lia⟩;obtain⟨pb,eb,kb⟩:=fF hb (show nb<b.size by lia)
      extract_lets s1 na1 s2 nb1 s3 out1 s4 g1 s5 ac1 bc1 nb9 jp g9
      have hj:∀g,wpS (model prog w) A E s (jp () g) (GN a b st (x+2)) st2:=by
       intro g;refine wpS_bind (Y36 (wpS_bind (we eb ?_)));have sg':=sg.gal g;refine wpS_bind (fK (sg'.kind.trans hk) kb (Ur ha v2) (show na-1<na by lia) fun k hk'=>?_)
       replace hk':k≤na:=hk'
       dsimp -zeta only
       extract_lets k1 ac jp2 out3 na3
       have hj2:∀na out,Pn a b out na (nb+1)→0<na→na≤a.size→x+2+na+(nb+1)≤a.size+b.size→wpS (model prog w) A E s (jp2 () na out) (GN a b st (x+2)) (SortSt.mk' (kindOf st2) (arrOf st2) (pendingOf st2) g (failedOf st2)):=by
        intro na out u1 u2 u3 u4;obtain⟨na,rfl⟩:∃n,na=n+1:=⟨na-1,by lia⟩;refine wpS_bind (we eb ?_);have u1':=u1.pushB eb
        extract_lets out2
        split
        ·exact wpS_pure ⟨sg',u1'.last⟩
        rename_i n5;have n5':nb≠1:=fun e=>n5 (by show(nb==1)=true;simpa using e);obtain⟨pa,ea,ka⟩:=fF ha (show na<a.size by lia);refine wpS_bind (we ea (wpS_bind (fK (sg'.kind.trans hk) ka (Ur hb (show nb≤b.size by lia)) (show nb-1<nb by lia) fun k2 hk2=>?_)))
        replace hk2:k2≤nb:=hk2
        dsimp -zeta only
        extract_lets k9 bc2 jp3 out5 nb5
        have hj3:∀nb' out,Pn a b out (na+1) nb'→1<nb'→nb'≤b.size→x+2+(na+1)+nb'≤a.size+b.size→wpS (model prog w) A E s (jp3 () nb' out) (GN a b st (x+2)) (SortSt.mk' (kindOf st2) (arrOf st2) (pendingOf st2) g (failedOf st2)):=by
         intro nb' out w1 w2 w3 w4;refine wpS_bind (we ea ?_);have w1':=w1.pushA ea
         extract_lets out4
         split
         ·exact wpS_pure ⟨sg',w1'.done⟩
         rename_i n6;have n6':na≠0:=fun e=>n6 (by show(na==0)=true;simpa using e);have I':In a b (out.push pa) na nb' (x+2):=⟨w1',by lia,w2,by lia,w3,by lia⟩
         split
         ·exact wpS_pure ⟨sg',I'⟩
         ·exact wpS_pure ⟨⟨sg',I'⟩,rfl⟩
        clear_value jp3
        split
        ·split
         ·exact wpS_pure ⟨sg',(u1'.extB hk2).last⟩
         rename_i n7;have n7':k2≠1:=fun e=>n7 (by show(k2==1)=true;simpa using e)
         split
         ·exact wpS_pure ⟨sg',(u1'.extB hk2).done⟩
         rename_i n8;have n8':k2≠0:=fun e=>n8 (by show(k2==0)=true;simpa using e);exact hj3 _ _ (u1'.extB hk2) (show 1<k2 by lia) (show k2≤b.size by lia) (show x+2+(na+1)+k2≤a.size+b.size by lia)
        ·exact hj3 _ _ u1' (show 1<nb by lia) (show nb≤b.size by lia) (show x+2+(na+1)+nb≤a.size+b.size by lia)
       clear_value jp2
       split
       ·split
        ·exact wpS_pure ⟨sg',(v1.extA hk').done⟩
        rename_i n9;have n9':k≠0:=fun e=>n9 (by show(k==0)=true;simpa using e);exact hj2 _ _ (v1.extA hk') (show 0<k by lia) (show k≤a.size by lia) (show x+2+k+(nb+1)≤a.size+b.size by lia)
       ·exact hj2 _ _ v1 va v2 v4
      clear_value jp
      refine wpS_mono (Q:=GN a b st (x+2)) ?_ fun r st' q=>by cases r<;>exact q
      split
      ·exact hj _
      ·exact hj _
     ·obtain⟨r,na,nb,out,g,c1,c2⟩:=c;obtain⟨sg,v⟩:=q;dsimp only at v;cases r with
      |some z=>exact wpS_pure ⟨sg,v⟩
      |none=>exact wpS_bind (Y36 (wpS_pure ⟨⟨sg.gal _,v⟩,rfl⟩))
  ·intro c st' q;rw[show max 0 (a.size+b.size)=a.size+b.size by lia]at q;exact q.1
 ·obtain⟨r,na,nb,out,g⟩:=c;obtain⟨sg,v⟩:=q;dsimp only at v⊢;cases r with
  |some z=>exact wpS_pure (h _ _ sg v)
  |none=>have:=v.lb;lia
end
def Seg:Nat→List (Nat×Nat×Nat)→Nat→Prop
 |a,[],b=>a=b
 |a,p::r,b=>p.1=a∧1≤p.2.1∧Seg (a+p.2.1) r b
theorem Seg.app:∀{l m:List (Nat×Nat×Nat)} {a b:Nat},Seg a (l++m) b ↔ ∃c,Seg a l c∧Seg c m b
 |[],m,a,b=>by simp[Seg]
 |p::l,m,a,b=>by
  simp only[U18,Seg,Seg.app (l:=l)]
  constructor
  ·rintro⟨h1,h2,c,h3,h4⟩;exact⟨c,⟨h1,h2,h3⟩,h4⟩
  ·rintro⟨c,⟨h1,h2,h3⟩,h4⟩;exact⟨h1,h2,c,h3,h4⟩
theorem Seg.le:∀{l:List (Nat×Nat×Nat)} {a b:Nat},Seg a l b→a≤b
 |[],a,b,h=>W44 h
 |p::l,a,b,h=>by have:=Seg.le h.2.2;lia
structure GB (a₀:Array Keyed) (st:SortSt) (lo:Nat):Prop where
 perm:(arrOf st).Perm a₀
 kind:kindOf st=oneType'
 failed:failedOf st=none
 seg:Seg 0 (pendingOf st).toList lo
 le:lo≤a₀.size
section
variable{prog:Program}{w:World}{A:Around}{E:Value→Shared→Prop}{s:Shared}{st:SortSt}{a₀:Array Keyed}{lo:Nat}
theorem GB.size(h:GB a₀ st lo):(arrOf st).size=a₀.size:=h.perm.size_eq
theorem GB.keyed(h:GB a₀ st lo)(h0:∀p∈a₀.toList,Kd p):∀p∈(arrOf st).toList,Kd p:=fun p hp=>h0 p ((V18.mp h.perm).mem_iff.mp hp)
theorem GB.set(h:GB a₀ st lo){xs:Array Keyed}(hp:xs.Perm (arrOf st)):GB a₀ (setArr st xs) lo:=⟨hp.trans h.perm,h.kind,h.failed,h.seg,h.le⟩
theorem wlt{i j:Nat}{Q:Option Bool→SortSt→Prop}(h:GB a₀ st lo)(h0:∀p∈a₀.toList,Kd p)(hi:i<a₀.size)(hj:j<a₀.size)(q:∀b,Q (some b) st):wpS (model prog w) A E s (ltAt' i j) Q st:=by
 obtain⟨x,ex,kx⟩:=fF (h.keyed h0) (show i < (arrOf st).size by rw[h.size];exact hi);obtain⟨y,ey,ky⟩:=fF (h.keyed h0) (show j < (arrOf st).size by rw[h.size];exact hj);rw[ltAt'_eq];exact wpS_bind (wpS_get (wpS_bind (we ex (wpS_bind (we ey (wl h.kind kx ky q))))))
theorem Cd{l a nrem:Nat}{Q:Option (Option Nat)×Nat→SortSt→Prop}(h:GB a₀ st lo)(h0:∀p∈a₀.toList,Kd p)(hn:l+nrem≤a₀.size)(ha:1≤a)(han:a≤nrem)(q:∀n,a≤n→n≤nrem→Q (none,n) st):
  wpS (model prog w) A E s (forIn [a:nrem] ((none,a):Option (Option Nat)×Nat) fun _ r=>do
   let y ←ltAt' (l+r.2) (l+r.2-1)
   match y with
   |some smaller=>if smaller=true then pure (ForInStep.done (none,r.2)) else pure (ForInStep.yield (none,r.2+1))
   |x=>pure (ForInStep.done (some none,r.2))) Q st:=by
 refine Y22 (I:=fun x (c:Option (Option Nat)×Nat) st'=>st'=st∧c=(none,x)) ?_ ?_ ⟨rfl,rfl⟩
 ·rintro x c st' h1 h2 ⟨rfl,rfl⟩;dsimp only;refine wpS_bind (wlt h h0 (by lia) (by lia) fun b=>?_);cases b
  ·exact wpS_pure ⟨rfl,rfl⟩
  ·exact wpS_pure (q x h1 (by lia))
 ·rintro c st' ⟨rfl,rfl⟩;rw[show max a nrem=nrem by lia];exact q _ han (W11 _)
theorem pG{i j:Nat}{Q:Unit→SortSt→Prop}(h:GB a₀ st lo)(q:∀st',GB a₀ st' lo→Q () st'):wpS (model prog w) A E s (reverseSlice' i j) Q st:=by
 rw[reverseSlice'_eq];exact Y36 (q _ (h.set (mirror_perm _ _ _ _)))
theorem Fg{l nrem:Nat}{Q:Option Nat→SortSt→Prop}(h:GB a₀ st lo)(h0:∀p∈a₀.toList,Kd p)(hn:l+nrem≤a₀.size)(h1:1≤nrem)(q:∀n st',GB a₀ st' lo→1≤n→n≤nrem→Q (some n) st'):wpS (model prog w) A E s (countRun' l nrem) Q st:=by
 refine wpS_bind (Cd h h0 hn (W11 1) h1 fun n n1 n2=>?_)
 extract_lets r0 n0 n9 z9 jp
 have hj:n≠nrem→∀st',GB a₀ st' lo→wpS (model prog w) A E s (jp ()) Q st':=by
  intro hne st' g;refine wpS_bind (wpS_lift (V27 ⟨rfl,?_⟩));refine wpS_bind (wpS_mono (Q:=fun(c:Option (Option Nat)×Nat×Nat) st'=>GB a₀ st' lo∧c.1=none∧1≤c.2.1∧c.2.1≤nrem) ?_ fun c st2 u=>?_)
  ·refine Y22 (I:=fun x (c:Option (Option Nat)×Nat×Nat) st'=>GB a₀ st' lo∧c.1=none∧c.2.1=x) ?_ ?_ ⟨g,rfl,rfl⟩
   ·rintro x ⟨r,m,ne⟩ st2 hx hx2 ⟨g2,e,e2⟩;dsimp only at e e2;subst e e2
    replace hx:n+1≤m:=hx
    refine wpS_bind (wlt g2 h0 (show l+m<a₀.size by lia) (show l+m-1<a₀.size by lia) fun b=>?_);dsimp only;cases b with
    |true=>
     rw[if_pos rfl]
     split
     ·exact wpS_bind (pG g2 fun st3 g3=>wpS_pure ⟨g3,rfl,rfl⟩)
     ·exact wpS_pure ⟨g2,rfl,rfl⟩
    |false=>
     rw[if_neg (by decide)];refine wpS_bind (wlt g2 h0 (show l+m-1<a₀.size by lia) (show l+m<a₀.size by lia) fun b=>?_);cases b with
     |true=>exact wpS_pure ⟨g2,rfl,show 1≤m by lia,show m≤nrem by lia⟩
     |false=>exact wpS_pure ⟨g2,rfl,rfl⟩
   ·rintro⟨r,m,ne⟩ st2 ⟨g2,e,e2⟩;dsimp only at e e2;have e3:m=max (n+1) nrem:=e2;exact⟨g2,e,show 1≤m by lia,show m≤nrem by lia⟩
  ·obtain⟨r,m,ne⟩:=c;obtain⟨g2,e,u1,u2⟩:=u;dsimp only at e u1 u2;subst e;dsimp -zeta only
   extract_lets s1 s2 m1 ne1 jp2
   have hj2:∀st',GB a₀ st' lo→wpS (model prog w) A E s (jp2 ()) Q st':=by
    intro st3 g3;refine wpS_bind (pG g3 fun st4 g4=>wpS_bind (Cd g4 h0 hn u1 u2 fun k k1 k2=>?_));exact wpS_pure (q _ _ g4 (Y14 u1 k1) k2)
   clear_value jp2
   show wpS (model prog w) A E s (if ne > 0 then _ else _) Q st2
   split
   ·exact wpS_bind (pG g2 fun st3 g3=>hj2 st3 g3)
   ·exact hj2 _ g2
 clear_value jp
 show wpS (model prog w) A E s (if(n==nrem)=true then pure (some n) else _) Q st
 split
 ·exact wpS_pure (q _ _ h n1 n2)
 rename_i hne;have hne':n≠nrem:=by simpa using hne
 split
 ·refine wpS_bind (wlt h h0 (show l<a₀.size by lia) (show l+n-1<a₀.size by lia) fun b=>?_);cases b with
  |true=>exact wpS_pure (q _ _ h n1 n2)
  |false=>exact wpS_bind (pG h fun st3 g3=>hj hne' st3 g3)
 ·exact hj hne' _ h
theorem zT{l n ok:Nat}{Q:Bool→SortSt→Prop}(h:GB a₀ st lo)(h0:∀p∈a₀.toList,Kd p)(hn:l+n≤a₀.size)(q:∀st',GB a₀ st' lo→Q true st'):wpS (model prog w) A E s (binarySort' l n ok) Q st:=by
 refine wpS_bind (wpS_mono (Q:=fun(c:Option Bool×Unit) st'=>GB a₀ st' lo∧c.1=none) ?_ fun c st2 u=>?_)
 ·refine Y22 (I:=fun x (c:Option Bool×Unit) st'=>GB a₀ st' lo∧c.1=none) ?_ (fun c st' u=>u) ⟨h,rfl⟩;rintro k ⟨r,c⟩ st2 k1 k2 ⟨g2,e⟩;dsimp only at e;subst e;refine wpS_bind (wpS_mono (Q:=fun(c:Option Bool×Nat×Nat) st'=>GB a₀ st' lo∧c.1=none) ?_ fun c st3 u=>?_)
  ·refine wpS_mono (Q:=fun(c:Option Bool×Nat×Nat) st'=>(GB a₀ st' lo∧c.1=none)∧c.2.2≤k) ?_ fun c st' u=>u.1;refine Y22 (I:=fun x (c:Option Bool×Nat×Nat) st'=>(GB a₀ st' lo∧c.1=none)∧c.2.2≤k) ?_ (fun c st' u=>u) ⟨⟨g2,rfl⟩,W11 _⟩;rintro x ⟨r,a,b⟩ st3 _ _ ⟨⟨g3,e⟩,hb⟩;dsimp only at e hb⊢;subst e
   split
   ·exact wpS_pure ⟨⟨g3,rfl⟩,hb⟩
   ·refine wpS_bind (wlt g3 h0 (by lia) (by lia) fun t=>?_);cases t
    ·exact wpS_pure ⟨⟨g3,rfl⟩,hb⟩
    ·exact wpS_pure ⟨⟨g3,rfl⟩,by dsimp only;lia⟩
  ·obtain⟨r,a,b⟩:=c;obtain⟨g3,e⟩:=u;dsimp only at e;subst e;refine wpS_bind (Y36 (wpS_pure ⟨g3.set (bubble_perm _ _ _),rfl⟩))
 ·obtain⟨r,c⟩:=c;obtain⟨g2,e⟩:=u;dsimp only at e;subst e;exact wpS_pure (q _ g2)
end
theorem tI:∀(ps:List Keyed) (a:Array Keyed) (i k:Nat),i+k+ps.length≤a.size→
  ((ps.zipIdx k).foldl (fun a (q:Keyed×Nat)=>a.setIfInBounds (i+q.2) q.1) a).toList=a.toList.take (i+k)++(ps++a.toList.drop (i+k+ps.length))
 |[],a,i,k,h=>by simp
 |p::ps,a,i,k,h=>by
  simp only[Z14]at h;rw[List.zipIdx_cons,List.foldl_cons,tI ps _ i (k+1) (by rw[Array.size_setIfInBounds];lia)];have hl:i+k<a.toList.length:=by simp;lia
  rw[Array.toList_setIfInBounds,show i+(k+1)=i+k+1 by lia,show i+k+(p::ps).length=i+k+1+ps.length by simp;lia,List.set_eq_take_append_cons_drop,if_pos (by exact hl)];have h1:(a.toList.take (i+k)).length=i+k:=by rw[V22];lia
  dsimp only;have h2:(a.toList.take (i+k)++p::a.toList.drop (i+k+1)).take (i+k+1)=a.toList.take (i+k)++[p]:=by
   rw[List.take_append,h1,W23 (by rw[h1];lia),show i+k+1-(i+k)=1 by lia]
   rfl
  have h3:(a.toList.take (i+k)++p::a.toList.drop (i+k+1)).drop (i+k+1+ps.length)=a.toList.drop (i+k+1+ps.length):=by
   rw[List.drop_append,h1,List.drop_of_length_le (by rw[h1];lia),show i+k+1+ps.length-(i+k)=ps.length+1 by lia,List.drop_succ_cons,V37]
   rfl
  rw[h2,h3];simp
theorem Fh{a m:Array Keyed}{i j k:Nat}(hij:i≤j)(hjk:j≤k)(hk:k≤a.size)(hm:m.Perm (a.extract i j++a.extract j k)):(m.toList.zipIdx.foldl (fun a (q:Keyed×Nat)=>a.setIfInBounds (i+q.2) q.1) a).Perm a:=by
 have hm':=V18.mp hm;simp only[Z22,iF]at hm';have e:(a.toList.drop i).take (j-i)++(a.toList.drop j).take (k-j)=(a.toList.drop i).take (k-i):=by
  rw[show a.toList.drop j=(a.toList.drop i).drop (j-i) by rw[V37];congr 1;lia,←List.take_add]
  congr 1;lia
 rw[e]at hm';have hl:m.toList.length=k-i:=by rw[hm'.length_eq,V22,W22];simp;lia
 rw[V18,tI m.toList a i 0 (by lia),Nat.add_zero,hl,show i+(k-i)=k by lia];refine .trans (W17 _ (Z29 _ hm')) ?_;rw[show a.toList.drop k=(a.toList.drop i).drop (k-i) by rw[V37];congr 1;lia,Y35,Y35]
theorem vC{a:Array Keyed}{i j:Nat}(h:∀p∈a.toList,Kd p):∀p∈(a.extract i j).toList,Kd p:=fun p hp=>by
 rw[iF]at hp;exact h p (List.mem_of_mem_drop (Z43 hp))
section
variable{prog:Program}{w:World}{A:Around}{E:Value→Shared→Prop}{s:Shared}{st:SortSt}{a₀:Array Keyed}{lo:Nat}
theorem Qp{σ:Type}{M:Model}{Q:PUnit→σ→Prop}{st x:σ}(h:Q ⟨⟩ x):wpS M A E s (set x:StateT σ Sem PUnit) Q st:=by
 unfold wpS;rw[StateT.run_set];exact Z10 ⟨rfl,h⟩
theorem xO{l1 l2:List (Nat×Nat×Nat)}{sa na pa sb nb pb:Nat}{Q:Bool→SortSt→Prop}(h:GB a₀ st lo)(h0:∀p∈a₀.toList,Kd p)(hp:(pendingOf st).toList=l1++(sa,na,pa)::(sb,nb,pb)::l2)
  (q:∀st',GB a₀ st' lo→Q true st'):wpS (model prog w) A E s (mergeAt' l1.length) Q st:=by
 have e1:(pendingOf st)[l1.length]?=some (sa,na,pa):=by rw[←W24,hp];simp
 have e2:(pendingOf st)[l1.length+1]?=some (sb,nb,pb):=by rw[←W24,hp];simp
 have hseg:=h.seg;rw[hp,Seg.app]at hseg;obtain⟨c,hs1,rfl,hs2,rfl,hs3,hs4⟩:=hseg;dsimp only at hs1 hs2 hs3 hs4 hp e2;have hle:=hs4.le;have hlo:=h.le;have hsz:=h.size;have hkd:=h.keyed h0
 let P:=((pendingOf st).setIfInBounds l1.length (sa,na+nb,pa)).eraseIdxIfInBounds (l1.length+1)
 have hP:P.toList=l1++(sa,na+nb,pa)::l2:=by
  show(((pendingOf st).setIfInBounds l1.length (sa,na+nb,pa)).eraseIdxIfInBounds (l1.length+1)).toList=_;rw[Array.toList_eraseIdxIfInBounds,Array.toList_setIfInBounds,hp,Z35 _ _ (W11 _),Nat.sub_self,List.set_cons_zero,List.eraseIdx_append_of_length_le (by lia),show l1.length+1-l1.length=1 by lia]
  rfl
 have g1:GB a₀ (SortSt.mk' (kindOf st) (arrOf st) P (gallopOf st) (failedOf st)) lo:=by
  refine⟨h.perm,h.kind,h.failed,?_,h.le⟩;show Seg 0 P.toList lo;rw[hP,Seg.app];exact⟨sa,hs1,rfl,by dsimp only;lia,by dsimp only;rw[show sa+(na+nb)=sa+na+nb by lia];exact hs4⟩
 refine wpS_bind (wpS_get ?_);simp only[pendingOf]at e1 e2;dsimp only;rw[e1,e2];dsimp only;refine wpS_bind (Qp ?_);obtain⟨p1,x1,k1⟩:=fF hkd (show sa+na < (arrOf st).size by lia);refine wpS_bind (we x1 ?_);refine wpS_bind (fK g1.kind k1 (fun i hi=>fF hkd (show sa+i < (arrOf st).size by lia)) (by lia) fun k hk=>?_);dsimp only
 split
 ·exact wpS_pure (q _ g1)
 rename_i n1;have n1':na-k≠0:=by simpa using n1
 obtain⟨p2,x2,k2⟩:=fF hkd (show sa+k+(na-k)-1 < (arrOf st).size by lia);refine wpS_bind (we x2 ?_);refine wpS_bind (fK g1.kind k2 (fun i hi=>fF hkd (show sa+na+i < (arrOf st).size by lia)) (show nb-1<nb by lia) fun m hm=>?_);dsimp only
 split
 ·exact wpS_pure (q _ g1)
 rename_i n2;have n2':m≠0:=by simpa using n2
 have fin:∀(r:Array Keyed) (st':SortSt),Sg (SortSt.mk' (kindOf st) (arrOf st) P (gallopOf st) (failedOf st)) st'→r.Perm ((arrOf st).extract (sa+k) (sa+na)++(arrOf st).extract (sa+na) (sa+na+m))→
   GB a₀ (setArr st' (r.toList.zipIdx.foldl (fun a (q:Keyed×Nat)=>a.setIfInBounds (sa+k+q.2) q.1) (arrOf st'))) lo:=by
  intro r st' sg hr;have g2:GB a₀ st' lo:=⟨by rw[sg.arr];exact g1.perm,by rw[sg.kind];exact g1.kind,by rw[sg.failed];exact g1.failed,by rw[sg.pend];exact g1.seg,g1.le⟩;refine g2.set ?_;rw[sg.arr];exact Fh (by lia) (by lia) (show sa+na+m≤(arrOf st).size by lia) hr
 have s1:0 < ((arrOf st).extract (sa+k) (sa+na)).size:=by rw[Array.size_extract];lia
 have s2:0 < ((arrOf st).extract (sa+na) (sa+na+m)).size:=by rw[Array.size_extract];lia
 have lst:∀st',GB a₀ st' lo→wpS (model prog w) A E s (do
   let t ←get
   pure (failedOf t).isNone) Q st':=fun st' g=>wpS_bind (wpS_get (wpS_pure (by rw[g.failed];exact q _ g)))
 split
 ·exact wpS_bind (xM g1.kind (vC hkd) (vC hkd) s1 s2 fun r st' sg hr=>wpS_bind (Y36 (lst _ (fin r st' sg hr))))
 ·exact wpS_bind (xN g1.kind (vC hkd) (vC hkd) s1 s2 fun r st' sg hr=>wpS_bind (Y36 (lst _ (fin r st' sg hr))))
end
section
variable{prog:Program}{w:World}{A:Around}{E:Value→Shared→Prop}{s:Shared}{st:SortSt}{a₀:Array Keyed}{lo:Nat}
theorem Xw{α:Type}{l:List α}{i:Nat}(h:i+1<l.length):∃l1 x y l2,l=l1++x::y::l2∧l1.length=i:=by
 refine⟨l.take i,l[i],l[i+1],l.drop (i+2),?_,by rw[V22];lia⟩;rw[←V21,←V21,Y35]
theorem qL{i:Nat}{Q:Bool→SortSt→Prop}(h:GB a₀ st lo)(h0:∀p∈a₀.toList,Kd p)(hi:i+1 < (pendingOf st).size)(q:∀st',GB a₀ st' lo→Q true st'):wpS (model prog w) A E s (mergeAt' i) Q st:=by
 obtain⟨l1,x,y,l2,e,rfl⟩:=Xw (l:=(pendingOf st).toList) (i:=i) (by simpa using hi);exact xO h h0 e q
theorem Seg.mod:∀{l:List (Nat×Nat×Nat)} {a b i:Nat} (pw:Nat),Seg a l b→Seg a (l.modify i fun p=>(p.1,p.2.1,pw)) b
 |[],a,b,i,pw,h=>by simpa using h
 |p::l,a,b,0,pw,h=>by simpa[Seg]using h
 |p::l,a,b,i+1,pw,h=>by
  rw[List.modify_succ_cons];exact⟨h.1,h.2.1,Seg.mod pw h.2.2⟩
def FP(a₀:Array Keyed):ForInStep (Option Unit×Nat)→SortSt→Prop
 |.done c,st'=>GB a₀ st' c.2∧c.1=none
 |.yield c,st'=>GB a₀ st' c.2∧c.1=none
theorem Je{Q:Unit→SortSt→Prop}(h:GB a₀ st 0)(h0:∀p∈a₀.toList,Kd p)(q:∀st',(arrOf st').Perm a₀→failedOf st'=none→Q () st'):wpS (model prog w) A E s sortRuns' Q st:=by
 refine wpS_bind (wpS_get ?_);have hz:(arrOf st).size=a₀.size:=h.size;refine wpS_bind (wpS_mono (Q:=fun(c:Option Unit×Nat) st'=>GB a₀ st' c.2∧c.1=none) ?_ fun c st' u=>?_)
 ·refine Y22 (I:=fun x (c:Option Unit×Nat) st'=>GB a₀ st' c.2∧c.1=none) ?_ (fun c st' u=>u) ⟨h,rfl⟩;rintro x ⟨r,lo⟩ st1 _ _ ⟨g1,e⟩;dsimp only at e g1;subst e;dsimp -zeta only;show wpS (model prog w) A E s (if lo≥(arrOf st).size then _ else _) _ st1
  split
  ·exact wpS_pure ⟨g1,rfl⟩
  rename_i hlo;refine wpS_bind (Fg g1 h0 (show lo+((arrOf st).size-lo)≤a₀.size by lia) (show 1≤(arrOf st).size-lo by lia) fun n st2 g2 n1 n2=>?_)
  replace n2:n≤(arrOf st).size-lo:=n2
  dsimp -zeta only
  extract_lets n0 jp fo
  have hj:∀n st',GB a₀ st' lo→1≤n→lo+n≤a₀.size→wpS (model prog w) A E s (jp () n) (FP a₀) st':=by
   intro n st3 g3 n1 n2;refine wpS_bind (wpS_get ?_)
   extract_lets lo2 jp2
   have hj2:∀st',GB a₀ st' lo→wpS (model prog w) A E s (jp2 ()) (FP a₀) st':=by
    intro st4 g4;refine wpS_bind (Y36 (wpS_pure ⟨⟨g4.perm,g4.kind,g4.failed,?_,n2⟩,rfl⟩));show Seg 0 ((pendingOf st4).push (lo,n,0)).toList (lo+n);rw[Z28,Seg.app];exact⟨lo,g4.seg,rfl,n1,rfl⟩
   clear_value jp2
   split
   ·rename_i s1 n1 z eq
    extract_lets pw
    refine wpS_bind (wpS_mono (Q:=fun(c:Option Unit×Unit) st'=>GB a₀ st' lo∧c.1=none) ?_ fun c st' u=>?_)
    ·refine Y22 (I:=fun x (c:Option Unit×Unit) st'=>GB a₀ st' lo∧c.1=none) ?_ (fun c st' u=>u) ⟨g3,rfl⟩;rintro y ⟨r,c⟩ st4 _ _ ⟨g4,e⟩;refine wpS_bind (wpS_get ?_)
     extract_lets p
     split
     ·rename_i o1 o2 o3 eqo
      split
      ·exact wpS_pure ⟨g4,rfl⟩
      ·have hp:1 < (pendingOf st4).size:=by
        rcases Nat.lt_or_ge 1 (pendingOf st4).size with h|h
        ·exact h
        ·have:p.size≤1:=h;rw[if_neg (by lia)]at eqo;cases eqo
       exact wpS_bind (qL g4 h0 (show(pendingOf st4).size-2+1 < (pendingOf st4).size by lia) fun st5 g5=>wpS_pure ⟨g5,rfl⟩)
     ·exact wpS_pure ⟨g4,rfl⟩
    ·obtain⟨r,c⟩:=c;obtain⟨g4,e⟩:=u;dsimp only at e;subst e;refine wpS_bind (Y36 (hj2 _ ⟨g4.perm,g4.kind,g4.failed,?_,g4.le⟩));show Seg 0 ((pendingOf st').modify ((pendingOf st').size-1) fun x=>(x.1,x.2.1,pw)).toList lo;rw[Array.toList_modify];exact g4.seg.mod pw
   ·exact hj2 _ g3
  clear_value jp
  refine wpS_mono (Q:=FP a₀) ?_ fun r st' q=>by cases r<;>exact q
  split
  ·rename_i hmr;refine wpS_bind (wpS_lift (V27 ⟨rfl,?_⟩));have hfo:1≤fo∧fo≤(arrOf st).size-lo:=by
    have hmr':n<minRun' (arrOf st).size (arrOf st).size 0:=hmr;have:fo=min ((arrOf st).size-lo) (minRun' (arrOf st).size (arrOf st).size 0):=rfl
    lia
   exact wpS_bind (zT g2 h0 (by lia) fun st3 g3=>hj _ _ g3 hfo.1 (by lia))
  ·exact hj _ _ g2 n1 (show lo+n≤a₀.size by lia)
 ·obtain⟨r,lo⟩:=c;obtain⟨g,e⟩:=u;dsimp only at e g;subst e;dsimp only;refine wpS_bind (wpS_mono (Q:=fun(c:Option Unit×Unit) st'=>GB a₀ st' lo∧c.1=none) ?_ fun c st' u=>?_)
  ·refine Y22 (I:=fun x (c:Option Unit×Unit) st'=>GB a₀ st' lo∧c.1=none) ?_ (fun c st' u=>u) ⟨g,rfl⟩;rintro y ⟨r,c⟩ st4 _ _ ⟨g4,e⟩;refine wpS_bind (wpS_get ?_);show wpS (model prog w) A E s (if(pendingOf st4).size≤1 then _ else _) _ st4
   split
   ·exact wpS_pure ⟨g4,rfl⟩
   ·rename_i hp;have hi:∀c:Prop,[Decidable c]→(if c then(pendingOf st4).size-2-1 else(pendingOf st4).size-2)+1 < (pendingOf st4).size:=by
     intro c _
     split<;>lia
    exact wpS_bind (qL g4 h0 (hi _) fun st5 g5=>wpS_pure ⟨g5,rfl⟩)
  ·obtain⟨r,c⟩:=c;obtain⟨g4,e⟩:=u;dsimp only at e;subst e;exact wpS_pure (q _ g4.perm g4.failed)
end
end TSO
namespace TXS
open PySem PySem.Spec PyProof.Rows
section
variable{prog:Program}{w:World}{A:Around}{E:Value→Shared→Prop}{s:Shared}
theorem xP{vs:List Value}{ss:List Str}(hS:StrsAre vs ss):∀p∈(pairsOf vs).toList,TSO.Kd p:=hS.keysOf
theorem zU{a:Addr}{vs:List Value}{ss:List Str}{n:Nat}{P:Fin→Shared→Prop}(ho:s.heap.get? a=some (seqObj "list" vs.toArray n))(hS:StrsAre vs ss)(hl:vs.length≤100000)
  (h:∀st':SortSt,(arrOf st').Perm (pairsOf vs)→P (.done (.ret .none)) { s with heap:=sortedHeap s.heap a vs ((arrOf st').map (·.2)) }):wpAny (model prog w) A (Builtin.«list.sort» ⟨[.ref a],[]⟩) P E s:=by
 rw[list_sort_plain];have hz:vs.length≤sizeLine:=by rw[Y12];lia
 have hsz:vs.toArray.size=vs.length:=by simp
 refine Y10 (listItems_at ho rfl (Y10 (listUpdate_at ho rfl ?_ (by rw[hsz];exact hz))));obtain⟨e1,o1⟩:∃k,(s.heap.update a (Obj.mapSeq fun _=>#[])).get? a=some (seqObj "list" #[] k):=⟨_,U34 ho (fun _=>#[])⟩;refine Y10 (seqEpoch_at o1 rfl (Y10 (wpAny_newTuple (Y10 (wpAny_newList (U16 ?_))) (by simpa using hz))));have hlt:a<s.heap.objs.size:=W12 ho;have o6:(((s.heap.update a (Obj.mapSeq fun _=>#[])).push (seqObj "tuple" vs.toArray 0)).push (seqObj "list" #[] 0)).get? a=some (seqObj "list" #[] e1):=by
  rw[Heap.get?_push_ne _ _ _ (by rw[size_push',Heap.size_update];exact U14 (Y26 hlt)),Heap.get?_push_ne _ _ _ (by rw[Heap.size_update];exact U14 hlt)];exact o1
 show wpAny (model prog w) A _ P E { s with heap:=((s.heap.update a (Obj.mapSeq fun _=>#[])).push (seqObj "tuple" vs.toArray 0)).push (seqObj "list" #[] 0) };dsimp only
 by_cases h2:vs.toArray.size<2
 ·rw[if_pos h2,if_pos h2];refine Y10 (Z10 ?_);rw[StateT.run_pure];refine Y10 (Z10 (Y10 (seqEpoch_at o6 rfl (Y10 (listUpdate_at o6 rfl ?_ (hsz2:=?_))))))
  ·simp only[bne_self_eq_false,Z23,if_false];exact Z10 (h (SortSt.mk' general' (vs.toArray.zip vs.toArray) #[] 7 none) (Array.Perm.refl _))
  ·rw[Array.size_map];show(pairsOf vs).size≤_;rw[pairsOf_size];lia
 ·rw[if_neg h2,if_neg h2];obtain⟨x,y,r,rfl⟩:∃x y r,vs=x::y::r:=by
   match vs,h2 with
   |[],h2=>simp at h2
   |[_],h2=>simp at h2
   |x::y::r,_=>exact⟨x,y,r,rfl⟩
  rw[keyKind_strs hS];refine Y10 (Z10 (Y10 (Z27 (TSO.Je (a₀:=pairsOf (x::y::r)) (st:=SortSt.mk' oneType' ((x::y::r).toArray.zip (x::y::r).toArray) #[] 7 none)
   (Q:=fun _ st'=>(arrOf st').Perm (pairsOf (x::y::r))∧failedOf st'=none) ⟨Array.Perm.refl _,rfl,rfl,rfl,V24 _⟩ (xP hS) fun st' a1 a2=>⟨a1,a2⟩) ?_ fun _ _ e=>e)))
  rintro⟨⟨⟩,st'⟩ s' ⟨rfl,hp,hf⟩;refine Y10 (seqEpoch_at o6 rfl (Y10 (listUpdate_at o6 rfl ?_ (hsz2:=?_))))
  ·rw[hf];simp only[bne_self_eq_false,Z23,if_false];exact Z10 (h st' hp)
  ·refine Y14 (W44 ((Array.size_map ..).trans (hp.size_eq.trans (pairsOf_size _)))) ?_
   lia
theorem Jf{vs:List Value}{ss:List Str}(hS:StrsAre vs ss){xs:Array Keyed}(hp:xs.Perm (pairsOf vs)):∃ss',StrsAre (xs.map (·.2)).toList ss'∧ss'.Perm ss:=by
 have hl:xs.toList.Perm (vs.zip vs):=by rw[←pairsOf_toList];exact V18.mp hp
 have hm:(xs.map (·.2)).toList.Perm vs:=by
  rw[Array.toList_map];have:=hl.map Prod.snd
  rwa [List.map_snd_zip (W11 _)]at this
 refine⟨_,strsAre_map _ fun v hv=>hS.all v (hm.mem_iff.mp hv),?_⟩;have:=hm.map strOf
 rwa [hS.strs]at this
theorem sortedP{x:Value}{Q:Value→Shared→Prop}
  (g:wpAny (model prog w) A.in1 (collect x) (fun vs s1=>∃ss:List Str,StrsAre vs ss∧vs.length≤100000∧∀(D:Addr) (h':Heap) (us:List Value) (tt:List Str) (e:Nat),s1.heap.objs.size≤D→(∀b o,s1.heap.get? b=some o→h'.get? b=some o)→
   h'.get? D=some (seqObj "list" us.toArray e)→StrsAre us tt→tt.Perm ss→Q (.ref D) { s1 with heap:=h' }) E s):wpAny (model prog w) A (call (.builtin "sorted") [x]) Q E s:=by
 refine Calls.call_function_entry kind_sorted plain_sorted entry_sorted (args_sorted1 _) ?_;unfold Builtin.«sorted»;refine Y10 (m:=checkCount "sorted" 1 1 _) (Z10 (Y10 (Z27 g (fun vs s1 q=>?_) fun _ _ e=>e)));obtain⟨ss,hs,hl,q⟩:=q;refine Y10 (wpAny_newList ?_ (by rw[Y12];lia));have e1:(s1.heap.push (seqObj "list" vs.toArray 0)).get? s1.heap.objs.size=some (seqObj "list" vs.toArray 0):=Z11 _ rfl;refine Y10 (U16 (V16 slot_list_sort ⟨_,e1,rfl⟩ entry_list_sort ?_ (args_list_sort _)));refine zU (s:={ s1 with heap:=s1.heap.push (seqObj "list" vs.toArray 0) }) e1 hs hl fun st' hp=>⟨_,rfl,Z10 ⟨_,rfl,?_⟩⟩;obtain⟨tt,h1,h2⟩:=Jf hs hp;obtain⟨e,he⟩:=sortedHeap_at (out:=(arrOf st').map (·.2)) e1;refine q s1.heap.objs.size _ ((arrOf st').map (·.2)).toList tt e (W11 _) (fun b o eb=>?_) he h1 h2;have hlt:=W12 eb;change (sortedHeap _ _ _ _).get? b=_;rw[sortedHeap_old (U14 hlt) (by rw[V20];exact Y26 hlt)];exact V10 _ eb
end
end TXS
namespace L2
variable {e:Expr}{p:Prop}
open PySem PySem.Spec PyProof.Rows
section
variable{X:Cx}
def Xx(w:World):List V→Hp→VK→Prop:=fun xs H Q=>∃p L,xs=[.ref p]∧H p=some (nF w p L)∧L.length≤5000∧∀q (ss:List Str),H q=none→ss.Perm L→Q (.ref q) (upd H q (.lst (ss.map V.str)))
theorem zV(hc:X.calm=true):dB X (.builtin "sorted") (Xx X.w):=by
 intro pins s σ H xs us Q I r h;obtain⟨p,L,rfl,hp,hL,q⟩:=h;obtain⟨u,rfl,ru⟩:=vals1 r;cases ru;have hS:TXS.TSet X.w p L s.heap:=(I.hok p _ hp).1;refine TXS.sortedP (TXS.collI (A:=X.A.in1) (I.ok.hd hc) hS fun h1 d l kp told=>?_);have hll:l.length=L.length:=by have:=told.pm.length_eq;rwa [U12]at this
 refine⟨_,told.is,by lia,fun D h2 vs tt e hD kp2 eD hv ht=>?_⟩;have I1:Inv X pins σ H { s with heap:=h1,drawn:=d }:=(I.kept (t':=s.toks) kp).drew d;have hlen:tt.length≤5000:=by have:=(ht.trans told.pm).length_eq;lia
 refine⟨.ref D,upd H D (.lst (tt.map V.str)),I1.laid (h':=h2) (t':=s.toks) (fun b o e=>kp2 b o e) hD ?_,rfl,q D tt (I1.hok.fresh hD) (ht.trans told.pm)⟩;exact⟨by rw[U12,Y12];lia,vs,e,tH hv,eD⟩
end
theorem bK{X:Cx}{t u:TE}(h:PE X e t)(hu:∀σ H Q,u σ H Q→t σ H Q):PE X e u:=fun pins s σ H Q I q=>h pins s σ H Q I (hu σ H Q q)
theorem zW{X:Cx}{t u:TT}(h:PT X e t)(hu:∀σ H Q,u σ H Q→t σ H Q):PT X e u:=fun pins s σ H Q I q=>h pins s σ H Q I (hu σ H Q q)
theorem Jg{X:Cx}{t u:TT}(h:PW X e t)(hu:∀σ H Q,u σ H Q→t σ H Q):PW X e u:=fun w pins s σ H Q I q=>h w pins s σ H Q I (hu σ H Q q)
theorem Jh{X:Cx}{es:List Expr}{t u:TA}(h:PA X es t)(hu:∀σ H Q,u σ H Q→t σ H Q):PA X es u:=fun pos pins s σ H Q I q=>h pos pins s σ H Q I (hu σ H Q q)
theorem gG{X:Cx}{st:Stmt}{t u:TS}(h:PS X st t)(hu:∀D σ H,u D σ H→t D σ H):PS X st u:=fun pins s σ H D I q=>h pins s σ H D I (hu D σ H q)
theorem Ce{X:Cx}{st:List Stmt}{t u:TS}(h:PSs X st t)(hu:∀D σ H,u D σ H→t D σ H):PSs X st u:=fun pins s σ H D I q=>h pins s σ H D I (hu D σ H q)
theorem vE{X:Cx}{t u:TG}(h:PG X e t)(hu:∀v σ H Q,u v σ H Q→t v σ H Q):PG X e u:=fun pins s σ H v uu Q I r q=>h pins s σ H v uu Q I r (hu v σ H Q q)
theorem Cf{X:Cx}{e:List Expr}{t u:TGs}(h:PGs X e t)(hu:∀v σ H Q,u v σ H Q→t v σ H Q):PGs X e u:=fun pins s σ H v uu Q I r q=>h pins s σ H v uu Q I r (hu v σ H Q q)
theorem nG{X:Cx}{tg:Expr}{t u:TI}(h:PI X tg e t)(hu:∀σ H Q,u σ H Q→t σ H Q):PI X tg e u:=fun pins s σ H R I q=>h pins s σ H R I (hu σ H R q)
theorem Ji{X:Cx}{t u:TE}(h:PE X e t)(h':PE X e u):PE X e (fun σ H Q=>t σ H Q∨u σ H Q):=fun pins s σ H Q I q=>q.elim (h pins s σ H Q I) (h' pins s σ H Q I)
theorem Us{X:Cx}{tg:Expr}{t u:TI}(h:PI X tg e t)(h':PI X tg e u):PI X tg e (fun σ H Q=>t σ H Q∨u σ H Q):=fun pins s σ H Q I q=>q.elim (h pins s σ H Q I) (h' pins s σ H Q I)
theorem Ut{X:Cx}{t u:TG}(h:PG X e t)(h':PG X e u):PG X e (fun v σ H Q=>t v σ H Q∨u v σ H Q):=fun pins s σ H v uu Q I r q=>q.elim (h pins s σ H v uu Q I r) (h' pins s σ H v uu Q I r)
theorem eG.imp{X:Cx}{f:Value→Value→Sem Value}{r r':R2}(h:eG X f r)(hu:∀x y H Q,r' x y H Q→r x y H Q):eG X f r':=fun pins s σ H x y v u Q I rx ry q=>h pins s σ H x y v u Q I rx ry (hu _ _ _ _ q)
theorem Ug.imp{X:Cx}{f:Value→Sem Value}{r r':V→Hp→VK→Prop}(h:Ug X f r)(hu:∀x H Q,r' x H Q→r x H Q):Ug X f r':=fun pins s σ H x v Q I rx q=>h pins s σ H x v Q I rx (hu _ _ _ q)
theorem dB.imp{X:Cx}{f:Value}{r r':List V→Hp→VK→Prop}(h:dB X f r)(hu:∀x H Q,r' x H Q→r x H Q):dB X f r':=fun pins s σ H xs us Q I rx q=>h pins s σ H xs us Q I rx (hu _ _ _ q)
theorem sD.imp{X:Cx}{id:String}{r r':V→List V→Hp→VK→Prop}(h:sD X id r)(hu:∀x xs H Q,r' x xs H Q→r x xs H Q):sD X id r':=fun pins s σ H x xs v us Q I rx rs q=>h pins s σ H x xs v us Q I rx rs (hu _ _ _ _ q)
theorem Ex.imp{X:Cx}{r r':V→Option Int→Option Int→Hp→VK→Prop}(h:Ex X r)(hu:∀x lo hi H Q,r' x lo hi H Q→r x lo hi H Q):Ex X r':=fun pins s σ H x v vl vu lo hi sl Q I rx hs pl pu q=>h pins s σ H x v vl vu lo hi sl Q I rx hs pl pu (hu _ _ _ _ _ q)
inductive C where
 |l (xs:List D)
 |st (L:List Str)
 |p (L:List Str)
 |d (kvs:List (Key×D))
 |o (c:Addr) (fs:List (Str×D))
abbrev Sto:=List C
abbrev En:=List (Option D)
abbrev M(α:Type):=Sto→Option (α×Sto)
abbrev Cx.kw(X:Cx):KW:=⟨X.K,X.prog,X.w⟩
def KDict(k:KW)(a:Addr)(kws:List (Key×V)):Prop:=kws.length≤sizeLine∧(a==sysModules)=false∧∃vs ep,KV kws vs∧∀h:Heap,k.K.In h→h.DictAt (bE k.P k.w) a vs ep
def Xy(K:Fg9)(H:Hp)(a:Addr)(xs:List V):Prop:=
 (∃o,H a=some (.frz o (.lst xs)))∨
  ∃(o:Obj) (its:Array Value) (n:Nat),K.lookup a=some o∧o.cls=.type "list"∧o.dict=none∧o.data=.seq its n∧its.size≤sizeLine∧Vals xs its.toList
theorem Xy.sq{K:KW}{H:Hp}{a:Addr}{xs:List V}(h:Xy K H a xs):fE K H a xs:=by
 rcases h with⟨o,e⟩|h
 ·exact .inl (.inr ⟨o,e⟩)
 ·exact .inr h
def tJ:HO→Bool
 |.lst _=>true
 |.dK _=>true
 |.ins ..=>true
 |.ext _=>true
 |_=>false
theorem Xy.kp{K:KW}{H H':Hp}{a:Addr}{xs:List V}(h:Xy K H a xs)(k:∀a o,H a=some o→tJ o=false→H' a=some o):Xy K H' a xs:=by
 rcases h with⟨o,e⟩|h
 ·exact .inl ⟨o,k _ _ e rfl⟩
 ·exact .inr h
inductive RV (K:KW) (m:List Addr) (H:Hp):V→D→Prop where
 |no:RV K m H .non .no
 |b (x:Bool):RV K m H (.bl x) (.b x)
 |i (n:Int):RV K m H (.int n) (.i n)
 |s (x:Str):RV K m H (.str x) (.s x)
 |ty (n:String):RV K m H (.ty n) (.ty n)
 |t {a:Addr} {vs:List V} {ds:List D}:H a=some (.tup vs)→vs.length=ds.length→(∀(j:Nat) v d,vs[j]?=some v→ds[j]?=some d→RV K m H v d)→RV K m H (.ref a) (.t ds)
 |k {a:Addr} {vs:List V} {ds:List D}:(∀H',gR K H' a vs)→vs.length=ds.length→(∀(j:Nat) v d,vs[j]?=some v→ds[j]?=some d→RV K m H v d)→RV K m H (.ref a) (.k ds)
 |f {a:Addr} {vs:List V} {ds:List D}:Xy K H a vs→vs.length=ds.length→(∀(j:Nat) v d,vs[j]?=some v→ds[j]?=some d→RV K m H v d)→RV K m H (.ref a) (.f ds)
 |r {l:Nat} {a:Addr}:m[l]?=some a→RV K m H (.ref a) (.r l)
 |fn {x:Str} {a:Addr}:PySem.W.nsIn K mainGlobals x=some (some (.ref a))→RV K m H (.ref a) (.fn x)
 |dc {a:Addr} {kws:List (Key×V)} {kvs:List (Key×D)}:KDict K a kws→kws.map (·.1)=kvs.map (·.1)→(∀(j:Nat) w p,kws[j]?=some w→kvs[j]?=some p→RV K m H w.2 p.2)→RV K m H (.ref a) (.dc kvs)
def RVs(K:KW)(m:List Addr)(H:Hp)(vs:List V)(ds:List D):Prop:=vs.length=ds.length∧∀(j:Nat) v d,vs[j]?=some v→ds[j]?=some d→RV K m H v d
def RC(K:KW)(m:List Addr)(H:Hp)(a:Addr):C→Prop
 |.l xs=>∃vs,H a=some (.lst vs)∧RVs K m H vs xs
 |.st L=>H a=some (nF K.w a L)
 |.p L=>∃ss:List Str,H a=some (.lst (ss.map V.str))∧ss.Perm L
 |.d kvs=>∃kws:List (Key×V),H a=some (.dK kws)∧kws.map (·.1)=kvs.map (·.1)∧RVs K m H (kws.map (·.2)) (kvs.map (·.2))
 |.o c fs=>∃dx ws,H a=some (.ins c dx ws)∧ws.map (·.1)=fs.map (·.1)∧RVs K m H (ws.map (·.2)) (fs.map (·.2))
structure SR (K:KW) (m:List Addr) (H:Hp) (st:Sto):Prop where
 len:m.length=st.length
 nd:m.Nodup
 cel:∀(l:Nat) a c,m[l]?=some a→st[l]?=some c→RC K m H a c
structure Stp (m:List Addr) (H:Hp) (m':List Addr) (H':Hp):Prop where
 pre:∀(l:Nat) a,m[l]?=some a→m'[l]?=some a
 kt:∀a o,H a=some o→tJ o=false→H' a=some o
 fr:∀a o,H a=some o→a∉m→H' a=some o
 nw:∀a,a∈m'→a∉m→H a=none
def RE(K:KW)(m:List Addr)(H:Hp)(σ:St)(env:En):Prop:=σ.length=env.length∧∀(j:Nat) d,env[j]?=some (some d)→∃v,σ[j]?=some (some v)∧RV K m H v d
section
variable {i l:Nat}{σ:St}{env:En}{c:C}
variable{K:KW}{m m' m2:List Addr}{H H' H2:Hp}{st st':Sto}
theorem Stp.refl:Stp m H m H:=⟨fun _ _ h=>h,fun _ _ h _=>h,fun _ _ h _=>h,fun _ h n=>absurd h n⟩
theorem Stp.trans(s:Stp m H m' H')(u:Stp m' H' m2 H2):Stp m H m2 H2 where
 pre:=fun l a h=>u.pre l a (s.pre l a h)
 kt:=fun a o h c=>u.kt a o (s.kt a o h c) c
 fr:=fun a o h n=>u.fr a o (s.fr a o h n) fun hm=>by have:=s.nw a hm n;rw[h]at this;cases this
 nw:=fun a h n=>by
  by_cases h1:a∈m'
  ·exact s.nw a h1 n
  ·have e:=u.nw a h h1;cases q:H a with
   |none=>rfl
   |some o=>rw[s.fr a o q n]at e;cases e
theorem RV.stp{v:V}{d:D}(h:RV K m H v d)(s:Stp m H m' H'):RV K m' H' v d:=by
 induction h with
 |no=>exact .no
 |b=>exact .b _
 |i=>exact .i _
 |s=>exact .s _
 |ty=>exact .ty _
 |t e l _ ih=>exact .t (s.kt _ _ e rfl) l ih
 |k e l _ ih=>exact .k e l ih
 |f e l _ ih=>exact .f (e.kp s.kt) l ih
 |r e=>exact .r (s.pre _ _ e)
 |fn e=>exact .fn e
 |dc e k _ ih=>exact .dc e k ih
theorem RVs.stp{vs:List V}{ds:List D}(h:RVs K m H vs ds)(s:Stp m H m' H'):RVs K m' H' vs ds:=⟨h.1,fun j v d a b=>(h.2 j v d a b).stp s⟩
theorem RVs.nil:RVs K m H [] []:=⟨rfl,fun j v d h=>by simp at h⟩
theorem RVs.cons{v:V}{d:D}{vs:List V}{ds:List D}(h:RV K m H v d)(h':RVs K m H vs ds):RVs K m H (v::vs) (d::ds):=by
 refine⟨by rw[Z14,Z14,h'.1],fun i v' d' h1 h2=>?_⟩;cases i with
 |zero=>cases h1;cases h2;exact h
 |succ i=>exact h'.2 i v' d' (by simpa using h1) (by simpa using h2)
theorem RVs.append:∀{vs:List V} {ds:List D} {vs':List V} {ds':List D},RVs K m H vs ds→RVs K m H vs' ds'→RVs K m H (vs++vs') (ds++ds')
 |[],[],_,_,_,h=>h
 |v::vs,d::ds,_,_,h,h'=>by
  have h1:RVs K m H vs ds:=⟨by have:=h.1;simpa using this,fun i v' d' e1 e2=>h.2 (i+1) v' d' (by simpa using e1) (by simpa using e2)⟩;exact .cons (h.2 0 v d rfl rfl) (h1.append h')
 |[],d::ds,_,_,h,_=>by have:=h.1;simp at this
 |v::vs,[],_,_,h,_=>by have:=h.1;simp at this
theorem RVs.one{v:V}{d:D}(h:RV K m H v d):RVs K m H [v] [d]:=.cons h .nil
theorem RVs.at{vs:List V}{ds:List D}{d:D}(h:RVs K m H vs ds)(e:ds[i]?=some d):∃v,vs[i]?=some v∧RV K m H v d:=by
 have hi:i<ds.length:=(U10.mp e).1;have hv:i<vs.length:=by rw[h.1];exact hi
 exact⟨vs[i],by simp[hv],h.2 i vs[i] d (by simp[hv]) e⟩
theorem RVs.set{vs:List V}{ds:List D}{v:V}{d:D}(h:RVs K m H vs ds)(hv:RV K m H v d):RVs K m H (vs.set i v) (ds.set i d):=by
 refine⟨by rw[U33,U33,h.1],fun j v' d' a b=>?_⟩;rw[W26]at a b
 by_cases hij:i=j
 ·subst hij;rw[if_pos rfl]at a b
  split at a
  ·split at b
   ·cases a;cases b;exact hv
   ·cases b
  ·cases a
 ·rw[if_neg hij]at a b;exact h.2 j v' d' a b
theorem RVs.take{vs:List V}{ds:List D}(h:RVs K m H vs ds)(n:Nat):RVs K m H (vs.take n) (ds.take n):=by
 refine⟨by rw[V22,V22,h.1],fun j v d a b=>?_⟩;rw[List.getElem?_take]at a b
 split at a
 ·rename_i hj;rw[if_pos hj]at b;exact h.2 j v d a b
 ·cases a
theorem RVs.drop{vs:List V}{ds:List D}(h:RVs K m H vs ds)(n:Nat):RVs K m H (vs.drop n) (ds.drop n):=by
 refine⟨by rw[W22,W22,h.1],fun j v d a b=>?_⟩;rw[List.getElem?_drop]at a b;exact h.2 _ v d a b
theorem RVs.rev{vs:List V}{ds:List D}(h:RVs K m H vs ds):RVs K m H vs.reverse ds.reverse:=by
 refine⟨by rw[List.length_reverse,List.length_reverse,h.1],fun j v d a b=>?_⟩;have hj:j<vs.length:=by have:=(U10.mp a).1;simpa using this
 rw[V30 hj]at a;rw[V30 (by rw[←h.1];exact hj),←h.1]at b;exact h.2 _ v d a b
theorem RVs.dropLast{vs:List V}{ds:List D}(h:RVs K m H vs ds):RVs K m H vs.dropLast ds.dropLast:=by
 rw[List.dropLast_eq_take,List.dropLast_eq_take,h.1];exact h.take _
theorem RVs.atI{vs:List V}{ds:List D}{i:Int}{d:D}(h:RVs K m H vs ds)(e:L2.atI ds i=some d):∃v,L2.atI vs i=some v∧RV K m H v d:=by
 unfold L2.atI at e⊢;rw[h.1];cases q:wO ds.length i with
 |none=>rw[q]at e;cases e
 |some j=>rw[q]at e;obtain⟨v,h1,h2⟩:=h.at (by simpa using e);exact⟨v,by simpa using h1,h2⟩
theorem RVs.cut{vs:List V}{ds:List D}(h:RVs K m H vs ds)(lo hi:Option Int):RVs K m H (qF vs lo hi) ((ds.drop (HT.dY ds.length 0 lo)).take (HT.dY ds.length ds.length hi-HT.dY ds.length 0 lo)):=by
 unfold qF;rw[h.1];exact(h.drop _).take _
theorem RE.stp(h:RE K m H σ env)(s:Stp m H m' H'):RE K m' H' σ env:=⟨h.1,fun j d e=>by obtain⟨v,h1,h2⟩:=h.2 j d e;exact⟨v,h1,h2.stp s⟩⟩
theorem RE.set{v:V}{d:D}(h:RE K m H σ env)(hv:RV K m H v d):RE K m H (σ.set i (some v)) (env.set i (some d)):=by
 refine⟨by rw[U33,U33,h.1],fun j d' e=>?_⟩;rw[W26]at e
 by_cases hij:i=j
 ·subst hij;rw[if_pos rfl]at e
  split at e
  ·rename_i hl;cases e;exact⟨v,by rw[W26,if_pos rfl,if_pos (by rw[h.1];exact hl)],hv⟩
  ·cases e
 ·rw[if_neg hij]at e;obtain⟨w,h1,h2⟩:=h.2 j d' e;exact⟨w,by rw[W26,if_neg hij];exact h1,h2⟩
theorem RC.obj{a:Addr}(h:RC K m H a c):∃o,H a=some o∧tJ o=true:=by
 cases c with
 |l xs=>obtain⟨vs,e,_⟩:=h;exact⟨_,e,rfl⟩
 |d kvs=>obtain⟨vs,e,_⟩:=h;exact⟨_,e,rfl⟩
 |o c fs=>obtain⟨dx,ws,e,_⟩:=h;exact⟨_,e,rfl⟩
 |st L=>exact⟨_,h,rfl⟩
 |p L=>obtain⟨ss,e,_⟩:=h;exact⟨_,e,rfl⟩
theorem RC.kp{a:Addr}(h:RC K m H a c)(s:Stp m H m' H')(e:H' a=H a):RC K m' H' a c:=by
 cases c with
 |l xs=>obtain⟨vs,e',q⟩:=h;exact⟨vs,e.trans e',q.stp s⟩
 |d kvs=>obtain⟨vs,e',k,q⟩:=h;exact⟨vs,e.trans e',k,q.stp s⟩
 |o c fs=>obtain⟨dx,ws,e',k,q⟩:=h;exact⟨dx,ws,e.trans e',k,q.stp s⟩
 |st L=>exact e.trans h
 |p L=>obtain⟨ss,e',q⟩:=h;exact⟨ss,e.trans e',q⟩
theorem SR.mem{a:Addr}(S:SR K m H st)(h:a∈m):∃o,H a=some o∧tJ o=true:=by
 obtain⟨l,hl⟩:=V43 h;have hi:l<m.length:=(U10.mp hl).1;have hs:l<st.length:=by rw[←S.len];exact hi
 exact(S.cel l a st[l] hl (by simp[hs])).obj
theorem SR.same(S:SR K m H st)(s:Same H H'):SR K m H' st∧Stp m H m H':=by
 have p:Stp m H m H':=⟨fun _ _ h=>h,fun a o h _=>s a o h,fun a o h _=>s a o h,fun a h n=>absurd h n⟩;refine⟨⟨S.len,S.nd,fun l a c h1 h2=>?_⟩,p⟩;have q:=S.cel l a c h1 h2;obtain⟨o,e,_⟩:=q.obj;exact q.kp p (by rw[e];exact s _ _ e)
theorem qM{p:Addr}{o:HO}(h:H p=none):Same H (upd H p o):=fun b u e=>by rw[aQ (aV e h)];exact e
theorem SR.new{p:Addr}{o:HO}(S:SR K m H st)(h:H p=none)(hc:Stp m H (m++[p]) (upd H p o)→RC K (m++[p]) (upd H p o) p c):SR K (m++[p]) (upd H p o) (st++[c])∧Stp m H (m++[p]) (upd H p o):=by
 have s:=qM (o:=o) h;have hp:p∉m:=fun hm=>by obtain⟨o',e,_⟩:=S.mem hm;rw[h]at e;cases e
 have q:Stp m H (m++[p]) (upd H p o):=by
  refine⟨fun l a e=>by rw[Z17 (U10.mp e).1];exact e,fun a u e _=>s a u e,fun a u e _=>s a u e,fun a hm n=>?_⟩;rcases Z21.mp hm with hm|hm
  ·exact absurd hm n
  ·rw[Y15.mp hm];exact h
 refine⟨⟨by simp[S.len],?_,fun l a c' h1 h2=>?_⟩,q⟩
 ·rw[V41];exact⟨S.nd,by simp,fun a ha b hb e=>by rw[Y15.mp hb]at e;exact hp (e ▸ ha)⟩
 ·by_cases hl:l<m.length
  ·rw[Z17 hl]at h1;rw[Z17 (by rw[←S.len];exact hl)]at h2;have r:=S.cel l a c' h1 h2;obtain⟨o',e,_⟩:=r.obj;exact r.kp q (by rw[e];exact s _ _ e)
  ·have hl2:l=m.length:=by
    have:=(U10.mp h1).1;simp at this;lia
   subst hl2;rw[Y18 (W11 _)]at h1;rw[S.len,Y18 (W11 _)]at h2;simp at h1 h2;subst h1 h2;exact hc q
theorem SR.put{p:Addr}{o o':HO}(S:SR K m H st)(hl:m[l]?=some p)(ho:H p=some o)(hk:tJ o=true)(hc:Stp m H m (upd H p o')→RC K m (upd H p o') p c):SR K m (upd H p o') (st.set l c)∧Stp m H m (upd H p o'):=by
 have q:Stp m H m (upd H p o'):=by
  refine⟨fun _ _ h=>h,fun a u e n=>?_,fun a u e n=>?_,fun a h n=>absurd h n⟩
  ·rw[aQ fun z=>by subst z;rw[ho]at e;cases e;rw[hk]at n;cases n];exact e
  ·rw[aQ fun z=>by subst z;exact n (U27 hl)];exact e
 refine⟨⟨by rw[U33];exact S.len,S.nd,fun j a c' h1 h2=>?_⟩,q⟩;rw[W26]at h2
 by_cases hj:l=j
 ·subst hj;rw[if_pos rfl]at h2;rw[hl]at h1
  split at h2
  ·cases h1;cases h2;exact hc q
  ·cases h2
 ·rw[if_neg hj]at h2;have r:=S.cel j a c' h1 h2;refine r.kp q (aQ fun z=>?_);subst z;exact hj ((List.getElem?_inj (U10.mp hl).1 S.nd).mp (hl.trans h1.symm))
theorem SR.newT{p:Addr}{vs:List V}{ds:List D}(S:SR K m H st)(h:H p=none)(r:RVs K m H vs ds):SR K m (upd H p (.tup vs)) st∧Stp m H m (upd H p (.tup vs))∧RV K m (upd H p (.tup vs)) (.ref p) (.t ds):=by
 obtain⟨S',q⟩:=S.same (qM (o:=.tup vs) h);exact⟨S',q,.t bO r.1 (r.stp q).2⟩
theorem SR.newL{p:Addr}{vs:List V}{ds:List D}(S:SR K m H st)(h:H p=none)(r:RVs K m H vs ds):SR K (m++[p]) (upd H p (.lst vs)) (st++[.l ds])∧Stp m H (m++[p]) (upd H p (.lst vs))∧RV K (m++[p]) (upd H p (.lst vs)) (.ref p) (.r st.length):=by
 obtain⟨S',q⟩:=S.new (c:=.l ds) h fun q=>⟨vs,bO,r.stp q⟩;exact⟨S',q,.r (by rw[←S.len];simp)⟩
theorem SR.putL{p:Addr}{o:HO}{vs:List V}{ds:List D}(S:SR K m H st)(hl:m[l]?=some p)(ho:H p=some o)(hk:tJ o=true)(r:RVs K m H vs ds):SR K m (upd H p (.lst vs)) (st.set l (.l ds))∧Stp m H m (upd H p (.lst vs)):=
 S.put hl ho hk fun q=>⟨vs,bO,r.stp q⟩
theorem SR.lst{v:V}{l:Nat}{xs:List D}(S:SR K m H st)(h:RV K m H v (.r l))(e:st[l]?=some (.l xs)):∃a vs,v=.ref a∧m[l]?=some a∧H a=some (.lst vs)∧RVs K m H vs xs:=by
 cases h with
 |r hl=>obtain⟨vs,h1,h2⟩:=S.cel l _ _ hl e;exact⟨_,vs,rfl,hl,h1,h2⟩
theorem SR.dct{v:V}{kvs:List (Key×D)}(S:SR K m H st)(h:RV K m H v (.r l))(e:st[l]?=some (.d kvs)):∃a kws,v=.ref a∧m[l]?=some a∧H a=some (.dK kws)∧kws.map (·.1)=kvs.map (·.1)∧RVs K m H (kws.map (·.2)) (kvs.map (·.2)):=by
 cases h with
 |r hl=>obtain⟨vs,h1,h2⟩:=S.cel l _ _ hl e;exact⟨_,vs,rfl,hl,h1,h2⟩
end
variable{α β:Type}
noncomputable def ret(a:α):M α:=fun st=>some (a,st)
def bad:M α:=fun _=>none
noncomputable def bnd(x:M α)(f:α→M β):M β:=fun st=>match x st with
 |some (a,st')=>f a st'
 |none=>none
noncomputable def opt(x:Option α):M α:=fun st=>match x with
 |some a=>some (a,st)
 |none=>none
def need(p:Prop)[Decidable p](x:M α):M α:=fun st=>@ite _ p (Classical.propDecidable p) (x st) none
theorem aA{x:M α}{f:α→M β}{st:Sto}{r:β×Sto}(h:bnd x f st=some r):∃a st1,x st=some (a,st1)∧f a st1=some r:=by
 unfold bnd at h;cases q:x st with
 |none=>rw[q]at h;cases h
 |some p=>rw[q]at h;exact⟨p.1,p.2,rfl,h⟩
theorem aR{x:M α}{f:α→M β}{st:Sto}{a:α}{st1:Sto}(h:x st=some (a,st1)):bnd x f st=f a st1:=by unfold bnd;rw[h]
theorem bY[Decidable p]{x:M α}{st:Sto}{r:α×Sto}(h:need p x st=some r):p∧x st=some r:=by
 unfold need at h
 split at h
 ·exact⟨by assumption,h⟩
 ·cases h
theorem pH[Decidable p]{x:M α}{st:Sto}(h:p):need p x st=x st:=by unfold need;rw[if_pos h]
theorem aD{a:α}{st:Sto}{r:α×Sto}(h:ret a st=some r):r=(a,st):=by unfold ret at h;exact(Y17 h).symm
theorem qN{x:Option α}{st:Sto}{a:α}{st':Sto}(h:opt x st=some (a,st')):x=some a∧st'=st:=by
 unfold opt at h;cases x with
 |none=>cases h
 |some b=>cases h;exact⟨rfl,rfl⟩
section
variable(K:KW)
def Fin(m:List Addr)(H:Hp)(d:D)(st':Sto)(Q:VK):Prop:=∀v H' m',Stp m H m' H'→SR K m' H' st'→RV K m' H' v d→Q v H'
def LE(te:En→M D):TE:=fun σ H Q=>∃m env st d st',SR K m H st∧RE K m H σ env∧te env st=some (d,st')∧Fin K m H d st' Q
def LT(te:En→M Bool):TT:=fun σ H Q=>∃m env st d st',SR K m H st∧RE K m H σ env∧te env st=some (d,st')∧∀H' m',Stp m H m' H'→SR K m' H' st'→Q d H'
def LA(te:En→M (List D)):TA:=fun σ H Q=>∃m env st d st',SR K m H st∧RE K m H σ env∧te env st=some (d,st')∧∀vs H' m',Stp m H m' H'→SR K m' H' st'→RVs K m' H' vs d→Q vs H'
def LR(f:D→D→M D):R2:=fun x y H Q=>∃m st dx dy d st',SR K m H st∧RV K m H x dx∧RV K m H y dy∧f dx dy st=some (d,st')∧Fin K m H d st' Q
def LU(f:D→M D):V→Hp→VK→Prop:=fun x H Q=>∃m st dx d st',SR K m H st∧RV K m H x dx∧f dx st=some (d,st')∧Fin K m H d st' Q
def LC(f:List D→M D):List V→Hp→VK→Prop:=fun xs H Q=>∃m st ds d st',SR K m H st∧RVs K m H xs ds∧f ds st=some (d,st')∧Fin K m H d st' Q
def LM(f:D→List D→M D):V→List V→Hp→VK→Prop:=fun x xs H Q=>∃m st dx ds d st',SR K m H st∧RV K m H x dx∧RVs K m H xs ds∧f dx ds st=some (d,st')∧Fin K m H d st' Q
def LO(te:En→M (Option Int)):TO:=fun σ H Q=>∃m env st d st',SR K m H st∧RE K m H σ env∧te env st=some (d,st')∧∀H' m',Stp m H m' H'→SR K m' H' st'→Q d H'
def LSl(f:D→Option Int→Option Int→M D):V→Option Int→Option Int→Hp→VK→Prop:=fun x lo hi H Q=>∃m st dx d st',SR K m H st∧RV K m H x dx∧f dx lo hi st=some (d,st')∧Fin K m H d st' Q
def LF(f:List D→M D):Sp:=fun xs H Q _=>LC K f xs H Q
end
abbrev QE(X:Cx)(e:Expr)(te:En→M D):Prop:=PE X e (LE X.kw te)
abbrev QT(X:Cx)(e:Expr)(te:En→M Bool):Prop:=PT X e (LT X.kw te)
abbrev QW(X:Cx)(e:Expr)(te:En→M Bool):Prop:=PW X e (LT X.kw te)
abbrev QA(X:Cx)(e:List Expr)(te:En→M (List D)):Prop:=PA X e (LA X.kw te)
theorem Fin.now{K:KW}{m:List Addr}{H:Hp}{d:D}{st:Sto}{Q:VK}(k:Fin K m H d st Q)(S:SR K m H st){v:V}(r:RV K m H v d):Q v H:=k v H m .refl S r
section
variable {st':Sto}{d:D}{v:V}{K:KW}{f:D→D→M D}{σ:St}{Q:VK}{rest es:List Expr}{t:En→M (List D)}{g:List D→M D}
variable{X:Cx}{pos:Pos}{a b c:Expr}{ta tb:En→M D}{tc td:En→M Bool}
def vD(i:Nat)(env:En):M D:=fun st=>match env[i]? with
 |some (some d)=>some (d,st)
 |_=>none
theorem vF{i:Nat}{env:En}{st:Sto}(h:vD i env st=some (d,st')):env[i]?=some (some d)∧st'=st:=by
 unfold vD at h
 split at h
 ·cases h;exact⟨by assumption,rfl⟩
 ·cases h
theorem qv(i:Nat){x:Str}(hN:X.N[i]?=some x:=by rfl)(hv:Vis X.env.scope x)(hd:(x==("__debug__":Str))=false:=by decide)(hcd:(x==("__classdict__":Str))=false:=by decide):QE X (.Name x pos) (vD i):=by
 refine bK (Ho (i:=i) hN hv hd hcd) ?_;rintro σ H Q ⟨m,env,st,d,st',S,E,e,k⟩;obtain⟨e1,rfl⟩:=vF e;obtain⟨v,h1,h2⟩:=E.2 i d e1;exact⟨v,h1,k.now S h2⟩
theorem Fi(d:D)(h:PE X e (tC v))(r:∀m H,RV X.kw m H v d):QE X e (fun _=>ret d):=by
 refine bK h ?_;rintro σ H Q ⟨m,env,st,d',st',S,E,e,k⟩;cases aD e;exact k.now S (r m H)
theorem Xz{i:Int}{j}:QE X (.Constant (.int i) j pos) (fun _=>ret (.i i)):=Fi _ Vp fun _ _=>.i _
theorem Ya{i:Str}{j}:QE X (.Constant (.str i) j pos) (fun _=>ret (.s i)):=Fi _ Vr fun _ _=>.s _
theorem EJ{i:Bool}{j}:QE X (.Constant (.bool i) j pos) (fun _=>ret (.b i)):=Fi _ CL fun _ _=>.b _
theorem Yb{j}:QE X (.Constant .none j pos) (fun _=>ret .no):=Fi _ Vq fun _ _=>.no
theorem Qq{x:Str}{u:Value}(d:D)(hg:Gl X x)(hm:X.mg x=some u)(r:RelV v u)(rd:∀m H,RV X.kw m H v d)(hd:(x==("__debug__":Str))=false:=by decide):QE X (.Name x pos) (fun _=>ret d):=Fi d (Ot hg hm r hd) rd
theorem EK{x:Str}{n:String}(hg:Gl X x)(hm:X.mg x=none)(hv:bootBuiltins x=some (.type n))(hn:x≠"__name__":=by decide)(hd:(x==("__debug__":Str))=false:=by decide):QE X (.Name x pos) (fun _=>ret (.ty n)):=Fi (.ty n) (Ou (v:=.ty n) hg hm hv rfl hn hd) fun _ _=>.ty _
theorem vG{H:Hp}(h:LE K (fun env=>bnd (ta env) fun x=>bnd (tb env) fun y=>f x y) σ H Q):DA (LR K f) (LE K ta) (LE K tb) σ H Q:=by
 obtain⟨m,env,st,d,st',S,E,e,k⟩:=h;obtain⟨x,st1,e1,e2⟩:=aA e;obtain⟨y,st2,e3,e4⟩:=aA e2;exact⟨m,env,st,x,st1,S,E,e1,fun v1 H1 m1 s1 S1 r1=>⟨m1,env,st1,y,st2,S1,E.stp s1,e3,fun v2 H2 m2 s2 S2 r2=>⟨m2,st2,x,y,d,st',S2,r1.stp s2,r2,e4,fun v H' m' s3 S3 r3=>k v H' m' ((s1.trans s2).trans s3) S3 r3⟩⟩⟩
theorem EL{op:Operator}(ho:eG X (binaryOp op) (LR X.kw f))(ha:QE X a ta)(hb:QE X b tb):QE X (.BinOp a op b pos) (fun env=>bnd (ta env) fun x=>bnd (tb env) fun y=>f x y):=
 bK (DB ho ha hb) fun _ _ _ h=>vG h
theorem Yc{op:CmpOp}(ho:eG X (compareOp op) (LR X.kw f))(ha:QE X a ta)(hb:QE X b tb)(hm:behindInMarks op b=false):QE X (.Compare a [op] [b] pos) (fun env=>bnd (ta env) fun x=>bnd (tb env) fun y=>f x y):=
 bK (Pg ho ha hb hm) fun _ _ _ h=>vG h
def Cg:D→M Bool
 |.b x=>ret x
 |_=>bad
theorem mM{st:Sto}{x:Bool}(h:Cg d st=some (x,st')):d=.b x∧st'=st:=by
 cases d<;>first|(cases h;exact⟨rfl,rfl⟩)|cases h
theorem Yd{op:CmpOp}(ho:eG X (compareOp op) (LR X.kw f))(ha:QE X a ta)(hb:QE X b tb)(hm:behindInMarks op b=false):QT X (.Compare a [op] [b] pos) (fun env=>bnd (bnd (ta env) fun x=>bnd (tb env) fun y=>f x y) Cg):=by
 refine zW (Ph ho ha hb hm) ?_;rintro σ H Q ⟨m,env,st,d,st',S,E,e,k⟩;obtain⟨x,st1,e1,e2⟩:=aA e;obtain⟨rfl,rfl⟩:=mM e2;refine vG ⟨m,env,st,.b d,st',S,E,e1,fun v H' m' s S' r=>?_⟩;cases r;exact⟨d,rfl,k H' m' s S'⟩
def IS:Option C→Option Bool
 |some (.l xs)=>some (!xs.isEmpty)
 |some (.d xs)=>some (!xs.isEmpty)
 |_=>none
def kC:D→M Bool
 |.no=>ret false
 |.b x=>ret x
 |.i n=>ret (n != 0)
 |.s y=>need (y.length≤sizeLine) (ret ((y.length:Int) != 0))
 |.t xs=>ret (!xs.isEmpty)
 |.k xs=>ret (!xs.isEmpty)
 |.f xs=>ret (!xs.isEmpty)
 |.r l=>fun st=>opt (IS st[l]?) st
 |.ty _=>bad
 |.fn _=>bad
 |.dc _=>bad
theorem mN{xs:List α}{ys:List β}(h:xs.length=ys.length):(!xs.isEmpty)=!ys.isEmpty:=by
 cases xs<;>cases ys<;>simp_all
theorem Ye{m:List Addr}{H:Hp}{st:Sto}{x:V}{k:Bool}(S:SR K m H st)(r:RV K m H x d)(e:kC d st=some (k,st')):Wq K x H k∧st'=st:=by
 cases r with
 |no=>cases e;exact⟨rfl,rfl⟩
 |b=>cases e;exact⟨rfl,rfl⟩
 |i=>cases e;exact⟨rfl,rfl⟩
 |s=>obtain⟨h,e⟩:=bY e;cases e;exact⟨⟨h,rfl⟩,rfl⟩
 |ty=>cases e
 |fn=>cases e
 |dc=>cases e
 |t e1 l _=>cases e;exact⟨.inr (.inl ⟨_,gR.of e1,(mN l).symm⟩),rfl⟩
 |k e1 l _=>cases e;exact⟨.inr (.inl ⟨_,e1 H,(mN l).symm⟩),rfl⟩
 |f e1 l _=>cases e;exact⟨.inl ⟨_,e1.sq,(mN l).symm⟩,rfl⟩
 |@r l a e1=>
  obtain⟨e,rfl⟩:=qN e
  match hs:st'[l]? with
  |none=>rw[hs]at e;cases e
  |some (.o _ _)=>rw[hs]at e;cases e
  |some (.st _)=>rw[hs]at e;cases e
  |some (.p _)=>rw[hs]at e;cases e
  |some (.l xs)=>
   rw[hs]at e;cases e;obtain⟨vs,h1,h2⟩:=S.cel l a _ e1 hs;exact⟨.inl ⟨_,fE.of h1,(mN h2.1).symm⟩,rfl⟩
  |some (.d xs)=>
   rw[hs]at e;cases e;obtain⟨vs,h1,h2,h3⟩:=S.cel l a _ e1 hs;exact⟨.inr (.inr ⟨_,h1,(mN (by have:=congrArg List.length h2;simpa using this)).symm⟩),rfl⟩
theorem Yg(ha:QE X a ta)(he:∀whole,isTrue a X.env whole=(do let v ←whole;standAt a.pos;holding [v] (truthy v)):=by intro _;rfl):QT X a (fun env=>bnd (ta env) kC):=by
 refine zW (Hw ha he) ?_;rintro σ H Q ⟨m,env,st,d,st',S,E,e,k⟩;obtain⟨x,st1,e1,e2⟩:=aA e;refine⟨m,env,st,x,st1,S,E,e1,fun v H' m' s S' r=>?_⟩;obtain⟨h,rfl⟩:=Ye S' r e2;exact⟨d,h,k H' m' s S'⟩
theorem Qr(ha:QT X a tc):QW X (.BoolOp .And [a] pos) tc:=Ov ha
theorem Yh(ha:QT X a tc):QW X (.BoolOp .Or [a] pos) tc:=Vs ha
theorem Yi(ha:QT X a tc)(hb:QW X (.BoolOp .And (b::rest) pos) td):QW X (.BoolOp .And (a::b::rest) pos) (fun env=>bnd (tc env) fun x=>if x=true then td env else ret false):=by
 refine Jg (Vt ha hb) ?_;rintro σ H Q ⟨m,env,st,d,st',S,E,e,k⟩;obtain⟨x,st1,e1,e2⟩:=aA e;refine⟨m,env,st,x,st1,S,E,e1,fun H' m' s S'=>?_⟩;cases x with
 |true=>exact⟨m',env,st1,d,st',S',E.stp s,e2,fun H2 m2 s2 S2=>k H2 m2 (s.trans s2) S2⟩
 |false=>cases aD e2;exact k H' m' s S'
theorem EM(ha:QT X a tc)(hb:QW X (.BoolOp .Or (b::rest) pos) td):QW X (.BoolOp .Or (a::b::rest) pos) (fun env=>bnd (tc env) fun x=>if x=true then ret true else td env):=by
 refine Jg (CM ha hb) ?_;rintro σ H Q ⟨m,env,st,d,st',S,E,e,k⟩;obtain⟨x,st1,e1,e2⟩:=aA e;refine⟨m,env,st,x,st1,S,E,e1,fun H' m' s S'=>?_⟩;cases x with
 |false=>exact⟨m',env,st1,d,st',S',E.stp s,e2,fun H2 m2 s2 S2=>k H2 m2 (s.trans s2) S2⟩
 |true=>cases aD e2;exact k H' m' s S'
theorem IT(h:QW X a tc):QT X a tc:=PW.pt h
theorem Yj(ha:QT X a tc):QT X (.UnaryOp .Not a pos) (fun env=>bnd (tc env) fun x=>ret (!x)):=by
 refine zW (Vu ha) ?_;rintro σ H Q ⟨m,env,st,d,st',S,E,e,k⟩;obtain⟨x,st1,e1,e2⟩:=aA e;cases aD e2;exact⟨m,env,st,x,_,S,E,e1,fun H' m' s S'=>k H' m' s S'⟩
theorem Yk{op}(h:QE X a ta):QE X (.BoolOp op [a] pos) ta:=Vv h
theorem Yl(ha:QE X a ta)(hb:QE X (.BoolOp .And (b::rest) pos) tb):QE X (.BoolOp .And (a::b::rest) pos) (fun env=>bnd (bnd (ta env) Cg) fun x=>if x=true then tb env else ret (.b false)):=by
 refine bK (Vw ha hb) ?_;rintro σ H Q ⟨m,env,st,d,st',S,E,e,k⟩;obtain⟨x,st1,e1,e2⟩:=aA e;obtain⟨y,st2,e3,e4⟩:=aA e1;obtain⟨rfl,rfl⟩:=mM e4;refine⟨m,env,st,.b x,_,S,E,e3,fun v H' m' s S' r=>?_⟩;cases r;refine⟨x,rfl,?_⟩;cases x with
 |true=>exact⟨m',env,st1,d,st',S',E.stp s,e2,fun v H2 m2 s2 S2=>k v H2 m2 (s.trans s2) S2⟩
 |false=>cases aD e2;exact k _ H' m' s S' (.b _)
theorem EO(ha:QE X a ta)(hb:QE X (.BoolOp .Or (b::rest) pos) tb):QE X (.BoolOp .Or (a::b::rest) pos) (fun env=>bnd (bnd (ta env) Cg) fun x=>if x=true then ret (.b true) else tb env):=by
 refine bK (CP ha hb) ?_;rintro σ H Q ⟨m,env,st,d,st',S,E,e,k⟩;obtain⟨x,st1,e1,e2⟩:=aA e;obtain⟨y,st2,e3,e4⟩:=aA e1;obtain⟨rfl,rfl⟩:=mM e4;refine⟨m,env,st,.b x,_,S,E,e3,fun v H' m' s S' r=>?_⟩;cases r;refine⟨x,rfl,?_⟩;cases x with
 |false=>exact⟨m',env,st1,d,st',S',E.stp s,e2,fun v H2 m2 s2 S2=>k v H2 m2 (s.trans s2) S2⟩
 |true=>cases aD e2;exact k _ H' m' s S' (.b _)
theorem Ym(ha:QE X a ta):QE X (.UnaryOp .Not a pos) (fun env=>bnd (bnd (ta env) Cg) fun x=>ret (.b (!x))):=by
 refine bK (Vx ha) ?_;rintro σ H Q ⟨m,env,st,d,st',S,E,e,k⟩;obtain⟨x,st1,e1,e2⟩:=aA e;obtain⟨y,st2,e3,e4⟩:=aA e1;obtain⟨rfl,rfl⟩:=mM e4;cases aD e2;refine⟨m,env,st,.b x,_,S,E,e3,fun v H' m' s S' r=>?_⟩;cases r;exact⟨x,rfl,k _ H' m' s S' (.b _)⟩
theorem Jj(hc:QT X c tc)(ha:QE X a ta)(hb:QE X b tb):QE X (.IfExp c a b pos) (fun env=>bnd (tc env) fun x=>if x=true then ta env else tb env):=by
 refine bK (Hq hc ha hb) ?_;rintro σ H Q ⟨m,env,st,d,st',S,E,e,k⟩;obtain⟨x,st1,e1,e2⟩:=aA e;refine⟨m,env,st,x,st1,S,E,e1,fun H' m' s S'=>?_⟩;cases x with
 |true=>exact⟨m',env,st1,d,st',S',E.stp s,e2,fun v H2 m2 s2 S2=>k v H2 m2 (s.trans s2) S2⟩
 |false=>exact⟨m',env,st1,d,st',S',E.stp s,e2,fun v H2 m2 s2 S2=>k v H2 m2 (s.trans s2) S2⟩
theorem ER{op:UnaryOp}{f:D→M D}(ho:Ug X (unaryOp op) (LU X.kw f))(ha:QE X a ta):QE X (.UnaryOp op a pos) (fun env=>bnd (ta env) f):=by
 refine bK (DC ho ha) ?_;rintro σ H Q ⟨m,env,st,d,st',S,E,e,k⟩;obtain⟨x,st1,e1,e2⟩:=aA e;exact⟨m,env,st,x,st1,S,E,e1,fun v H' m' s S' r=>⟨m',st1,x,d,st',S',r,e2,fun v2 H2 m2 s2 S2=>k v2 H2 m2 (s.trans s2) S2⟩⟩
theorem Yn:QA X [] (fun _=>ret []):=by
 refine Jh Wv ?_;rintro σ H Q ⟨m,env,st,d,st',S,E,e,k⟩;cases aD e;exact k [] H m .refl S .nil
theorem Qs(ha:QE X a ta)(hr:QA X es t)(hs:starEach (a::es) X.env=(false,eval a X.env)::starEach es X.env:=by rfl):QA X (a::es) (fun env=>bnd (ta env) fun x=>bnd (t env) fun xs=>ret (x::xs)):=by
 refine Jh (Po ha hr hs) ?_;rintro σ H Q ⟨m,env,st,d,st',S,E,e,k⟩;obtain⟨x,st1,e1,e2⟩:=aA e;obtain⟨y,st2,e3,e4⟩:=aA e2;cases aD e4;exact⟨m,env,st,x,st1,S,E,e1,fun v1 H1 m1 s1 S1 r1=>⟨m1,env,st1,y,_,S1,E.stp s1,e3,fun v2 H2 m2 s2 S2 r2=>k _ H2 m2 (s1.trans s2) S2 (.cons (r1.stp s2) r2)⟩⟩
theorem Yo{x1}(h:QA X es t):QE X (.Tuple es x1 pos) (fun env=>bnd (t env) fun xs=>need (xs.length≤sizeLine) (ret (.t xs))):=by
 refine bK (Ww h) ?_;rintro σ H Q ⟨m,env,st,d,st',S,E,e,k⟩;obtain⟨x,st1,e1,e2⟩:=aA e;obtain⟨hl,e2⟩:=bY e2;cases aD e2;refine⟨m,env,st,x,_,S,E,e1,fun vs H' m' s S' r=>⟨by rw[r.1];exact hl,fun p hp=>?_⟩⟩;obtain⟨S2,s2,r2⟩:=S'.newT hp r;exact k _ _ _ (s.trans s2) S2 r2
def newL(xs:List D):M D:=fun st=>if xs.length≤sizeLine then some (.r st.length,st++[.l xs]) else none
theorem tK{xs:List D}{st:Sto}(h:newL xs st=some (d,st')):xs.length≤sizeLine∧d=.r st.length∧st'=st++[.l xs]:=by
 unfold newL at h
 split at h
 ·cases h;exact⟨by assumption,rfl,rfl⟩
 ·cases h
theorem Yp(h:QA X es t):QE X (.List es pos) (fun env=>bnd (t env) newL):=by
 refine bK (Wx h) ?_;rintro σ H Q ⟨m,env,st,d,st',S,E,e,k⟩;obtain⟨x,st1,e1,e2⟩:=aA e;obtain⟨hl,rfl,rfl⟩:=tK e2;refine⟨m,env,st,x,_,S,E,e1,fun vs H' m' s S' r=>⟨by rw[r.1];exact hl,fun p hp=>?_⟩⟩;obtain⟨S2,s2,r2⟩:=S'.newL hp r;exact k _ _ _ (s.trans s2) S2 r2
theorem vH{f:List D→M D}{H:Hp}(h:LE K (fun env=>bnd (t env) f) σ H Q):LA K t σ H fun vs H1=>LC K f vs H1 Q:=by
 obtain⟨m,env,st,d,st',S,E,e,k⟩:=h;obtain⟨x,st1,e1,e2⟩:=aA e;exact⟨m,env,st,x,st1,S,E,e1,fun vs H' m' s S' r=>⟨m',st1,x,d,st',S',r,e2,fun v H2 m2 s2 S2=>k v H2 m2 (s.trans s2) S2⟩⟩
theorem Qt{CX:CXT}{k:Nat}{f:Addr}{fd:FuncData}{ps:List Str}{x:Str}{p:Pos}{E:XK}(F:FnOk X.prog X.w X.K X.mg X.base CX k f fd ps (LF X.kw g))(hr:Room k X.A)(hg:Gl X x)(hm:X.mg x=some (.ref f))(hk:PySem.W.keepIn X.K (.ref f)=true)(hb:Binds X.K fd ps [])(hx:Passes CX X E)
  (ha:QA X (a::es) t)(hdb:(x==("__debug__":Str))=false:=by decide)(he:starEach (a::es) X.env=(false,eval a X.env)::starEach es X.env:=by rfl)(hpl:(backTo pos (starEach es X.env)).any (·.1)=false:=by rfl):
  QE X (.Call (.Name x p) (a::es) [] pos) (fun env=>bnd (t env) g):=by
 refine bK (Pp F hr hg hm hk hb .nil hx ha hdb he hpl) ?_;intro σ H Q h;have:=vH h;obtain⟨m,env,st,d,st',S,E,e,k⟩:=this;exact⟨m,env,st,d,st',S,E,e,fun vs H' m' s S' r=>by show LF X.kw g (vs++[]) H' Q _;rw[U19];exact k vs H' m' s S' r⟩
theorem Jk{id:String}{x:Str}{p:Pos}(hc:dB X (.builtin id) (LC X.kw g))(hg:Gl X x)(hm:X.mg x=none)(hv:bootBuiltins x=some (.builtin id))(ha:QA X (a::es) t)(hn:x≠"__name__":=by decide)(hdb:(x==("__debug__":Str))=false:=by decide)
  (he:starEach (a::es) X.env=(false,eval a X.env)::starEach es X.env:=by rfl)(hpl:(backTo pos (starEach es X.env)).any (·.1)=false:=by rfl):
  QE X (.Call (.Name x p) (a::es) [] pos) (fun env=>bnd (t env) g):=bK (Ie hc hg hm hv ha hn hdb he hpl) fun _ _ _ h=>vH h
theorem Fj{T:String}{x:Str}{p:Pos}(hc:dB X (.type T) (LC X.kw g))(hg:Gl X x)(hm:X.mg x=none)(hv:bootBuiltins x=some (.type T))(ha:QA X (a::es) t)(hn:x≠"__name__":=by decide)(hdb:(x==("__debug__":Str))=false:=by decide)
  (he:starEach (a::es) X.env=(false,eval a X.env)::starEach es X.env:=by rfl)(hpl:(backTo pos (starEach es X.env)).any (·.1)=false:=by rfl):
  QE X (.Call (.Name x p) (a::es) [] pos) (fun env=>bnd (t env) g):=bK (Ew hc hg hm hv ha hn hdb he hpl) fun _ _ _ h=>vH h
end
end L2
namespace L2
open PySem PySem.Spec PyProof.Rows
noncomputable def lsc(st:Sto)(l:Nat):Option (List D):=match st[l]? with
 |some (.l xs)=>some xs
 |_=>none
theorem jC{st:Sto}{l:Nat}{xs:List D}(h:lsc st l=some xs):st[l]?=some (.l xs):=by
 unfold lsc at h
 split at h
 ·cases h;assumption
 ·cases h
theorem kD{st:Sto}{l:Nat}{xs:List D}(h:st[l]?=some (.l xs)):lsc st l=some xs:=by unfold lsc;rw[h]
def getL(l:Nat):M (List D):=fun st=>match lsc st l with
 |some xs=>some (xs,st)
 |none=>none
theorem cP{st st':Sto}{l:Nat}{xs:List D}(h:getL l st=some (xs,st')):st[l]?=some (.l xs)∧st'=st:=by
 unfold getL at h
 split at h
 ·rename_i h2;cases h;exact⟨jC h2,rfl⟩
 ·cases h
theorem dS{st:Sto}{l:Nat}{xs:List D}(h:st[l]?=some (.l xs)):getL l st=some (xs,st):=by unfold getL;rw[kD h]
def aI(x y:D):M D:=match x with
 |.i a=>(match y with |.i b=>ret (.i (a+b))|_=>bad)
 |.s a=>(match y with |.s b=>need (a.length+b.length≤sizeLine) (ret (.s (a++b)))|_=>bad)
 |.t a=>(match y with |.t b=>need (a.length+b.length≤sizeLine) (ret (.t (a++b)))|_=>bad)
 |.r a=>(match y with |.r b=>bnd (getL a) fun xs=>bnd (getL b) fun ys=>newL (xs++ys)|_=>bad)
 |_=>bad
section
variable {f:Value→Value→Sem Value}{g:Int→Int→V}{g':Int→Int→D}{w:V}{d:D}
variable{X:Cx}
theorem Yq:eG X (binaryOp .Add) (LR X.kw aI):=by
 refine(Wi.or (zE.or (Qd.or Xg))).imp ?_;rintro x y H Q ⟨m,st,dx,dy,d,st',S,rx,ry,e,k⟩;cases rx with
 |i a=>cases ry with
  |i b=>cases aD e;exact .inl ⟨_,_,rfl,rfl,k.now S (.i _)⟩
  |_=>cases e
 |s a=>cases ry with
  |s b=>obtain⟨h,e⟩:=bY e;cases aD e;exact .inr (.inl ⟨_,_,rfl,rfl,h,k.now S (.s _)⟩)
  |_=>cases e
 |t ea la ha=>cases ry with
  |t eb lb hb=>
   obtain⟨h,e⟩:=bY e;cases aD e;refine .inr (.inr (.inl ⟨_,_,_,_,rfl,rfl,ea,eb,by rw[la,lb];exact h,fun p H' ep sm=>?_⟩));obtain⟨S2,s2⟩:=S.same sm;have rr:=(RVs.append ⟨la,ha⟩ ⟨lb,hb⟩).stp s2;exact k _ _ _ s2 S2 (.t ep rr.1 rr.2)
  |_=>cases e
 |r el=>cases ry with
  |r em=>
   obtain⟨xs,st1,e1,e2⟩:=aA e;obtain⟨h1,rfl⟩:=cP e1;obtain⟨ys,st2,e3,e4⟩:=aA e2;obtain⟨h2,rfl⟩:=cP e3;obtain⟨hl,rfl,rfl⟩:=tK e4;obtain⟨pa,vs,ea,ma,oa,ra⟩:=S.lst (.r el) h1;obtain⟨pb,ws,eb,mb,ob,rb⟩:=S.lst (.r em) h2;cases ea;cases eb;refine .inr (.inr (.inr ⟨_,_,vs,ws,rfl,rfl,oa,ob,by rw[ra.1,rb.1,←V12];exact hl,fun p hp=>?_⟩));obtain⟨S2,s2,r2⟩:=S.newL hp (ra.append rb);exact k _ _ _ s2 S2 r2
  |_=>cases e
 |_=>cases e
def intD(C:Int→Int→Prop)[∀i j,Decidable (C i j)](g:Int→Int→D)(x y:D):M D:=match x with
 |.i a=>(match y with |.i b=>need (C a b) (ret (g a b))|_=>bad)
 |_=>bad
theorem vI{C:Int→Int→Prop}[∀i j,Decidable (C i j)](ho:eG X f (rI C g))(hg:∀m H i j,RV X.kw m H (g i j) (g' i j)):eG X f (LR X.kw (intD C g')):=by
 refine ho.imp ?_;rintro x y H Q ⟨m,st,dx,dy,d,st',S,rx,ry,e,k⟩;cases rx with
 |i a=>cases ry with
  |i b=>obtain⟨h,e⟩:=bY e;cases aD e;exact⟨_,_,rfl,rfl,h,k.now S (hg ..)⟩
  |_=>cases e
 |_=>cases e
def int0(g:Int→Int→D)(x y:D):M D:=match x with
 |.i a=>(match y with |.i b=>ret (g a b)|_=>bad)
 |_=>bad
theorem mO(ho:eG X f (Hv g))(hg:∀m H i j,RV X.kw m H (g i j) (g' i j)):eG X f (LR X.kw (int0 g')):=by
 refine ho.imp ?_;rintro x y H Q ⟨m,st,dx,dy,d,st',S,rx,ry,e,k⟩;cases rx with
 |i a=>cases ry with
  |i b=>cases aD e;exact⟨_,_,rfl,rfl,k.now S (hg ..)⟩
  |_=>cases e
 |_=>cases e
instance (i j:Int):Decidable (CDiv i j):=inferInstanceAs (Decidable (_∧_))
instance (i j:Int):Decidable (CPow i j):=inferInstanceAs (Decidable (_∧_∧_))
instance (i j:Int):Decidable (CMul i j):=inferInstanceAs (Decidable (_∨_))
def nH:D→D→M D:=int0 fun i j=>.i (i-j)
def lS:D→D→M D:=intD CDiv fun i j=>.i (i/j)
def lU:D→D→M D:=intD (fun _ j=>0<j) fun i j=>.i (i%j)
def zX:D→D→M D:=intD CPow fun i j=>.i (i^j.toNat)
def Yr:D→D→M D:=int0 fun i j=>.b (decide (i<j))
def HC:D→D→M D:=int0 fun i j=>.b (decide (i≤j))
def Oe:D→D→M D:=int0 fun i j=>.b (decide (j<i))
def ES:D→D→M D:=int0 fun i j=>.b (decide (j≤i))
theorem Ys:eG X (binaryOp .Sub) (LR X.kw nH):=mO Wj fun _ _ _ _=>.i _
theorem Qu:eG X (binaryOp .FloorDiv) (LR X.kw lS):=vI Pd fun _ _ _ _=>.i _
theorem Yt:eG X (binaryOp .Mod) (LR X.kw lU):=vI Wl fun _ _ _ _=>.i _
theorem Yu:eG X (binaryOp .Pow) (LR X.kw zX):=vI Wm fun _ _ _ _=>.i _
theorem ET:eG X (compareOp .Lt) (LR X.kw Yr):=mO DD fun _ _ _ _=>.b _
theorem EU:eG X (compareOp .LtE) (LR X.kw HC):=mO DE fun _ _ _ _=>.b _
theorem EV:eG X (compareOp .Gt) (LR X.kw Oe):=mO DF fun _ _ _ _=>.b _
theorem EW:eG X (compareOp .GtE) (LR X.kw ES):=mO DG fun _ _ _ _=>.b _
def qO:D→D→M D:=intD CMul fun i j=>.i (i*j)
theorem Yv:eG X (binaryOp .Mult) (LR X.kw qO):=vI Wk fun _ _ _ _=>.i _
def mP:D→M D
 |.i a=>ret (.i (-a))
 |_=>bad
theorem Yw:Ug X (unaryOp .USub) (LU X.kw mP):=by
 refine Wn.imp ?_;rintro x H Q ⟨m,st,dx,d,st',S,rx,e,k⟩
 match dx,rx,e with
 |.i a,.i _,e=>cases aD e;exact⟨_,rfl,k.now S (.i _)⟩
def Fl:D→Option V
 |.no=>some .non
 |.b x=>some (.bl x)
 |.i n=>some (.int n)
 |.s x=>some (.str x)
 |_=>none
theorem Jl{K:KW}{m:List Addr}{H:Hp}{v:V}(r:RV K m H v d)(h:Fl d=some w):v=w:=by
 cases r<;>first|(cases h;rfl)|cases h
theorem xQ(h:Fl d=some w):jB w=true:=by
 cases d<;>first|(cases h;rfl)|cases h
def Qv(xs:List D):List D→Option Bool
 |[]=>some xs.isEmpty
 |_=>none
theorem tL{xs ys:List D}{b:Bool}(h:Qv xs ys=some b):ys=[]∧xs.isEmpty=b:=by
 cases ys with
 |nil=>exact⟨rfl,Y17 h⟩
 |cons y ys=>cases h
noncomputable def deq(st:Sto)(x y:D):Option Bool:=match x with
 |.i a=>(match y with |.i b=>some (a==b)|_=>none)
 |.s a=>(match y with |.s b=>some (a==b)|_=>none)
 |.t xs=>(match y with |.t ys=>Qv xs ys|_=>none)
 |.r a=>(match y with |.r b=>(lsc st a).bind fun xs=>(lsc st b).bind fun ys=>Qv xs ys|_=>none)
 |_=>none
section
variable{m:List Addr}{H:Hp}{st:Sto}{pins:List (Addr×Obj)}{σ:St}{s:Shared}
theorem Jm{A:Around}{x y:V}{e:D}{b:Bool}{u v:Value}(I:Inv X pins σ H s)(S:SR X.kw m H st)(hu:A.units<cLine)(r1:RV X.kw m H x d)(r2:RV X.kw m H y e)(h:deq st d e=some b)(ru:RelV x u)(rv:RelV y v):SeqAt.RcAt A s u v b∧SeqAt.RcNeAt A s u v (!b):=by
 have nil:∀{vs ws:List V} {xs:List D} {us zs:List Value},RVs X.kw m H vs xs→RVs X.kw m H ws []→Vals vs us→Vals ws zs→zs=[]∧xs.isEmpty=(us.toArray.size==0):=by
  intro vs ws xs us zs h1 h2 q1 q2;have l1:=q1.length;have l2:=q2.length;refine⟨Z25.mp (by rw[←l2,h2.1];rfl),?_⟩;rw[V11,←l1,h1.1];cases xs<;>rfl
 cases r1 with
 |i=>cases r2 with
  |i=>cases h;obtain⟨t,rfl⟩:=ru;obtain⟨t',rfl⟩:=rv;exact⟨SeqAt.RcAt.int_int _ _ _ _,SeqAt.RcNeAt.int_int _ _ _ _⟩
  |_=>cases h
 |s=>cases r2 with
  |s=>cases h;obtain⟨t,rfl⟩:=ru;obtain⟨t',rfl⟩:=rv;exact⟨SeqAt.RcAt.str_str _ _ _ _,SeqAt.RcNeAt.str_str _ _ _ _⟩
  |_=>cases h
 |t e1 l1 h1=>cases r2 with
  |t e2 l2 h2=>
   obtain⟨rfl,rfl⟩:=tL h;cases ru;cases rv;obtain⟨us,q1,t1,_⟩:=I.tuple (gR.of e1);obtain⟨zs,q2,t2,_⟩:=I.tuple (gR.of e2);obtain⟨rfl,hk⟩:=nil ⟨l1,h1⟩ ⟨l2,h2⟩ q1 q2;have hk':(us.toArray.size==0)=((List.range (min us.toArray.size ([]:List Value).toArray.size)).all (fun _=>true)&&us.toArray.size==([]:List Value).toArray.size):=by simp
   rw[hk,hk'];exact⟨SeqAt.RcAt.tuples t1 t2 hu fun j _ h=>absurd h (Z44 j),SeqAt.RcNeAt.tuples t1 t2 hu fun j _ h=>absurd h (Z44 j)⟩
  |_=>cases h
 |r e1=>cases r2 with
  |r e2=>
   obtain⟨xs,q,h⟩:=V25.mp h;obtain⟨ys,q',h⟩:=V25.mp h;obtain⟨rfl,rfl⟩:=tL h;cases ru;cases rv;obtain⟨vs,o1,hv1⟩:=S.cel _ _ _ e1 (jC q);obtain⟨ws,o2,hv2⟩:=S.cel _ _ _ e2 (jC q');obtain⟨us,q1,t1,_⟩:=I.list (fE.of o1);obtain⟨zs,q2,t2,_⟩:=I.list (fE.of o2);obtain⟨rfl,hk⟩:=nil hv1 hv2 q1 q2
   by_cases hz:us.toArray.size=([]:List Value).toArray.size
   ·have h1:=SeqAt.RcAt.lists (e:=fun _=>true) t1.isList t2.isList hz hu fun j _ h=>absurd h (Z44 j);have h2:=SeqAt.RcNeAt.lists (e:=fun _=>true) t1.isList t2.isList hz hu fun j _ h=>absurd h (Z44 j);rw[hz]at h1 h2;rw[hk,hz];exact⟨h1,h2⟩
   ·rw[hk,show(us.toArray.size==0)=false by simpa using hz];exact⟨SeqAt.RcAt.lists_lengths t1.isList t2.isList (by simpa using hz) hu,SeqAt.RcNeAt.lists_lengths t1.isList t2.isList (by simpa using hz) hu⟩
  |_=>cases h
 |_=>cases h
end
def gZ(x y:D):M D:=fun st=>match deq st x y with
 |some b=>some (.b b,st)
 |none=>none
def Of(x y:D):M D:=fun st=>match deq st x y with
 |some b=>some (.b (!b),st)
 |none=>none
theorem EX(hu:X.A.units+900<cLine):eG X (compareOp .Eq) (LR X.kw gZ):=by
 rintro pins s σ H x y v u Q I rx ry ⟨m,st,dx,dy,d,st',S,r1,r2,e,k⟩;unfold gZ at e;cases q:deq st dx dy with
 |none=>rw[q]at e;cases e
 |some b=>
  rw[q]at e;cases e;exact EqBoolInt.of_rc (Jm I S (A:=X.A) (by lia) r1 r2 q rx ry).1 ⟨.bl b,H,I,rfl,k.now S (.b _)⟩
theorem EY(hu:X.A.units+900<cLine):eG X (compareOp .NotEq) (LR X.kw Of):=by
 rintro pins s σ H x y v u Q I rx ry ⟨m,st,dx,dy,d,st',S,r1,r2,e,k⟩;unfold Of at e;cases q:deq st dx dy with
 |none=>rw[q]at e;cases e
 |some b=>
  rw[q]at e;cases e;exact EqBoolInt.of_rcne (Jm I S (A:=X.A) (by lia) r1 r2 q rx ry).2 ⟨.bl (!b),H,I,rfl,k.now S (.b _)⟩
end
section
variable {K:KW}{m:List Addr}{st:Sto}{b:Bool}
variable{X:Cx}
def eB(st:Sto):D→Option (List D)
 |.t xs=>some xs
 |.k xs=>some xs
 |.f xs=>some xs
 |.r l=>lsc st l
 |_=>none
theorem jD{H:Hp}{v:V}{d:D}{xs:List D}(S:SR K m H st)(r:RV K m H v d)(h:eB st d=some xs):∃a vs,v=.ref a∧(fE K H a vs∨gR K H a vs)∧RVs K m H vs xs:=by
 cases r with
 |t e l q=>cases h;exact⟨_,_,rfl,.inr (gR.of e),l,q⟩
 |k e l q=>cases h;exact⟨_,_,rfl,.inr (e H),l,q⟩
 |f e l q=>cases h;exact⟨_,_,rfl,.inl e.sq,l,q⟩
 |r e=>obtain⟨vs,o1,hv⟩:=S.cel _ _ _ e (jC h);exact⟨_,_,rfl,.inl (fE.of o1),hv⟩
 |_=>cases h
def dcc(st:Sto)(l:Nat):Option (List (Key×D)):=match st[l]? with
 |some (.d xs)=>some xs
 |_=>none
theorem qP{l:Nat}{xs:List (Key×D)}(h:dcc st l=some xs):st[l]?=some (.d xs):=by
 unfold dcc at h
 split at h
 ·cases h;assumption
 ·cases h
noncomputable def Fm:D→Option Key
 |.i n=>some (.inl n)
 |.s x=>some (.inr x)
 |_=>none
theorem pI{H:Hp}{v:V}{d:D}{k:Key}(r:RV K m H v d)(h:Fm d=some k):v=kV k:=by
 cases r<;>first|(cases h;rfl)|cases h
def hU(kvs:List (Key×D))(k:Key):Option D:=(kvs.find? fun kv=>decide (kv.1=k)).map (·.2)
def putD(kvs:List (Key×D))(k:Key)(v:D):List (Key×D):=if(kvs.any fun kv=>decide (kv.1=k)) then kvs.map fun kv=>if kv.1=k then(kv.1,v) else kv else kvs++[(k,v)]
theorem pJ{K:KW}{m:List Addr}{H:Hp}:∀{kws:List (Key×V)} {kvs:List (Key×D)} {k:Key},kws.map (·.1)=kvs.map (·.1)→RVs K m H (kws.map (·.2)) (kvs.map (·.2))→(hU kvs k=none→mL kws k=none)∧∀d,hU kvs k=some d→∃v,mL kws k=some v∧RV K m H v d
 |[],[],k,_,_=>⟨fun _=>rfl,fun d h=>by cases h⟩
 |p::kws,[],k,h,_=>by cases h
 |[],q::kvs,k,h,_=>by cases h
 |p::kws,q::kvs,k,h,r=>by
  simp only[Z12,V35]at h;have r0:=r.2 0 p.2 q.2 rfl rfl;have r1:RVs K m H (kws.map (·.2)) (kvs.map (·.2)):=⟨by have:=r.1;simpa using this,fun i v' d' e1 e2=>r.2 (i+1) v' d' (by simpa using e1) (by simpa using e2)⟩
  by_cases hk:q.1=k
  ·have hp:p.1=k:=h.1.trans hk;rw[qI hp];have:hU (q::kvs) k=some q.2:=by simp[hU,U28,hk]
   rw[this];exact⟨(fun z=>by cases z),fun d z=>by cases z;exact⟨_,rfl,r0⟩⟩
  ·have hp:¬ p.1=k:=fun z=>hk (h.1.symm.trans z);rw[qJ hp];have:hU (q::kvs) k=hU kvs k:=by simp[hU,U28,hk]
   rw[this];exact pJ h.2 r1
theorem Yx{H:Hp}{kws:List (Key×V)}{kvs:List (Key×D)}(e2:kws.map (·.1)=kvs.map (·.1))(e3:∀(j:Nat) w p,kws[j]?=some w→kvs[j]?=some p→RV K m H w.2 p.2):RVs K m H (kws.map (·.2)) (kvs.map (·.2)):=by
 have hl:=congrArg List.length e2;simp only[U12]at hl;refine⟨by simp[hl],fun j v d h1 h2=>?_⟩;rw[W14]at h1 h2;obtain⟨w,q1,rfl⟩:=V13.mp h1;obtain⟨p,q2,rfl⟩:=V13.mp h2;exact e3 j w p q1 q2
section
variable{X:Cx}{pins:List (Addr×Obj)}{σ:St}{H:Hp}{s:Shared}{A:Around}{E:Value→Shared→Prop}{a:Addr}{kws:List (Key×V)}{k:Key}{u:Value}
theorem Uu(I:Inv X pins σ H s)(g:KDict X.kw a kws):kws.length≤sizeLine∧(a==sysModules)=false∧∃vs,KV kws vs∧s.heap.DictOf (bE X.prog X.w) a vs:=by
 obtain⟨h1,h2,vs,ep,h3,h4⟩:=g;exact⟨h1,h2,vs,h3,(h4 _ (I.mod.kin.keeps I.bk)).dictOf⟩
theorem Fo{v:V}{Q:Value→Shared→Prop}(I:Inv X pins σ H s)(g:KDict X.kw a kws)(l:mL kws k=some v)(ry:RelV (kV k) u)(h:∀w' s',Inv X pins σ H s'→RelV v w'→Q w' s'):
  wpAny (model X.prog X.w) A (getItem (.ref a) u) Q E s:=by
 obtain⟨z,hd,vs,rel,dd⟩:=Uu I g;obtain⟨w',hw,rw'⟩:=jZ.some_of (v:=v) (o:=valueAt vs k) (by rw[←l];exact rel.val k);exact wpAny_getItem_of (xG ry) dd.mapOf hw (h w' _ (I.tok _) rw')
theorem Qw{o i:Expr}{td ty:TE}{pos:Pos}(ho:PE X o td)(hi:PE X i ty)(hs:Xo i):PE X (.Subscript o i pos) (fun σ H Q=>td σ H fun x H1=>ty σ H1 fun y H2=>∃a kws k v,x=.ref a∧KDict X.kw a kws∧y=kV k∧mL kws k=some v∧Q v H2):=by
 intro pins s σ H Q I h;refine Ca PySem.F.slot_dict_getitem.lookup hs (thn (ho pins s σ H _ I h) fun u s1 ⟨x,H1,I1,rx,q1⟩=>thn (hi pins s1 σ H1 _ I1 q1) fun iv s2 ⟨y,H2,I2,ry,a,kws,k,v,ex,g,ey,l,q2⟩=>?_);subst ex ey;obtain rfl:u=Value.ref a:=rx;obtain⟨_,_,vs,_,dd⟩:=Uu I2 g;exact⟨dd.typeIs,Fo I2 g l ry fun w' s3 I3 rw'=>⟨v,H2,I3,rw',q2⟩⟩
end
def pin(st:Sto)(l:Nat)(x:D):Option Bool:=match st[l]?,x with
 |some (.p L),.s y=>some (L.contains y)
 |_,_=>none
theorem oO(x:Str):∀ss:List Str,wZ (.str x) (ss.map V.str)=ss.contains x
 |[]=>rfl
 |s::ss=>by
  have ih:=oO x ss;unfold wZ at ih⊢;rw[Z12,W38,ih,W39]
  congr 1
  show(s==x)=(x==s);exact BEq.comm
theorem Jn{l:Nat}{x:D}(h:pin st l x=some b):∃L y,st[l]?=some (.p L)∧x=.s y∧b=L.contains y:=by
 unfold pin at h
 split at h
 ·rename_i L y e;cases h;exact⟨L,y,e,rfl,rfl⟩
 ·cases h
def Ci(x y:D)(st:Sto):Option Bool:=match eB st y with
 |some xs=>(Fl x).bind fun a=>(xs.mapM Fl).map fun vs=>wZ a vs
 |none=>match x with
  |.s a=>(match y with
   |.s b=>some (!(Builtin.Str.occurrences b a 0 b.length 1).isEmpty)
   |.r l=>pin st l (.s a)
   |_=>none)
  |_=>none
theorem xR{α β:Type}{f:α→Option β}:∀{xs:List α} {ys:List β},xs.mapM f=some ys→xs.length=ys.length∧∀(i:Nat) x y,xs[i]?=some x→ys[i]?=some y→f x=some y
 |[],ys,h=>by simp at h;subst h;exact⟨rfl,fun i x y h=>by simp at h⟩
 |x::xs,ys,h=>by
  rw[List.mapM_cons]at h;cases q:f x with
  |none=>rw[q]at h;cases h
  |some z=>
   rw[q]at h;cases q2:xs.mapM f with
   |none=>rw[q2]at h;cases h
   |some zs=>
    rw[q2]at h;cases h;obtain⟨h1,h2⟩:=xR q2;refine⟨by simp[h1],fun i a b ha hb=>?_⟩;cases i with
    |zero=>cases ha;cases hb;exact q
    |succ i=>exact h2 i a b (by simpa using ha) (by simpa using hb)
theorem Jo{H:Hp}{vs ws:List V}{ds:List D}(r:RVs K m H vs ds)(h:ds.mapM Fl=some ws):vs=ws∧ws.all jB=true:=by
 obtain⟨h1,h2⟩:=xR h;refine⟨List.ext_getElem (by rw[r.1,h1]) fun i g1 g2=>?_,?_⟩
 ·have hd:i<ds.length:=by rw[←r.1];exact g1
  exact Jl (r.2 i vs[i] ds[i] (by simp[g1]) (by simp[hd])) (h2 i ds[i] ws[i] (by simp[hd]) (by simp[g2]))
 ·rw[V19];intro w hw;obtain⟨i,hi⟩:=V43 hw;have hd:i<ds.length:=by rw[h1];exact(U10.mp hi).1
  exact xQ (h2 i ds[i] w (by simp[hd]) hi)
inductive InR (K:KW) (H:Hp):V→V→Bool→Prop where
 |s (a b:Str):InR K H (.str a) (.str b) (!(Builtin.Str.occurrences b a 0 b.length 1).isEmpty)
 |l {p:Addr} {x:V} {vs:List V}:(fE K H p vs∨gR K H p vs)→jB x=true→vs.all jB=true→InR K H x (.ref p) (wZ x vs)
theorem Jp{H:Hp}{x y:V}{dx dy:D}(S:SR K m H st)(rx:RV K m H x dx)(ry:RV K m H y dy)(h:Ci dx dy st=some b):InR K H x y b:=by
 unfold Ci at h;cases q:eB st dy with
 |some xs=>
  rw[q]at h;obtain⟨a,vs,rfl,hs,rr⟩:=jD S ry q;obtain⟨w,q1,q2⟩:=V25.mp h;obtain⟨ws,q3,rfl⟩:=V13.mp q2;obtain⟨rfl,hf⟩:=Jo rr q3;have e:=Jl rx q1;subst e;exact .l hs (xQ q1) hf
 |none=>
  rw[q]at h;cases rx with
  |s w=>cases ry with
   |s z=>cases h;exact .s _ _
   |r e=>
    obtain⟨L,z,e1,e2,rfl⟩:=Jn h;cases e2;obtain⟨ss,o1,hp⟩:=S.cel _ _ _ e e1;have hc:L.contains w=wZ (.str w) (ss.map V.str):=by
     rw[oO,Bool.eq_iff_iff,Z19,Z19];exact hp.mem_iff.symm
    rw[hc];exact .l (.inl (fE.of o1)) rfl (by rw[List.all_map];simp[jB])
   |_=>cases h
  |_=>cases h
def inD(x y:D):M D:=fun st=>match Ci x y st with
 |some b=>some (.b b,st)
 |none=>none
def iL(x y:D):M D:=fun st=>match Ci x y st with
 |some b=>some (.b (!b),st)
 |none=>none
theorem EZ(hu:X.A.units+1<cLine):eG X (compareOp .In) (LR X.kw inD):=by
 rintro pins s σ H x y v u Q I rx ry ⟨m,st,dx,dy,d,st',S,r1,r2,e,k⟩;unfold inD at e;cases q:Ci dx dy st with
 |none=>rw[q]at e;cases e
 |some b=>
  rw[q]at e;cases e;have kk:=k.now S (.b b);cases Jp S r1 r2 q with
  |s a c=>exact Em pins s σ H _ _ v u Q I rx ry ⟨a,c,rfl,rfl,kk⟩
  |l g1 g2 g3=>exact Ey pins s σ H _ _ v u Q I rx ry ⟨_,_,rfl,g1,g2,g3,kk⟩
theorem Jq(hu:X.A.units+1<cLine):eG X (compareOp .NotIn) (LR X.kw iL):=by
 rintro pins s σ H x y v u Q I rx ry ⟨m,st,dx,dy,d,st',S,r1,r2,e,k⟩;unfold iL at e;cases q:Ci dx dy st with
 |none=>rw[q]at e;cases e
 |some b=>
  rw[q]at e;cases e;have kk:=k.now S (.b (!b));cases Jp S r1 r2 q with
  |s a c=>exact uP pins s σ H _ _ v u Q I rx ry ⟨a,c,rfl,rfl,kk⟩
  |l g1 g2 g3=>exact uU pins s σ H _ _ v u Q I rx ry ⟨_,_,rfl,g1,g2,g3,kk⟩
def CF:D→Bool
 |.no=>true
 |_=>false
theorem Yy{H:Hp}{v:V}{d:D}(r:RV K m H v d):decide (v=.non)=CF d:=by
 cases r<;>simp[CF]
def HD(x y:D):M D:=match y with
 |.no=>ret (.b (CF x))
 |_=>bad
theorem FA:eG X (compareOp .Is) (LR X.kw HD):=by
 refine Wo.imp ?_;rintro x y H Q ⟨m,st,dx,dy,d,st',S,rx,ry,e,k⟩;cases ry with
 |no=>
  cases aD e;exact⟨rfl,by rw[Yy rx];exact k.now S (.b _)⟩
 |_=>cases e
def Hf(st:Sto)(x y:D):Option D:=match y with
 |.i n=>(match x with
  |.s z=>if z.length≤sizeLine then(atI z.cps.toList n).map fun c=>.s ⟨#[c]⟩ else none
  |.dc kvs=>hU kvs (.inl n)
  |x=>(eB st x).bind fun xs=>atI xs n)
 |.s k=>(match x with
  |.dc kvs=>hU kvs (.inr k)
  |.r l=>(dcc st l).bind fun kvs=>hU kvs (.inr k)
  |_=>none)
 |_=>none
def jO(x y:D):M D:=fun st=>match Hf st x y with
 |some d=>some (d,st)
 |none=>none
theorem Jr{x y d:D}{st':Sto}(h:jO x y st=some (d,st')):Hf st x y=some d∧st'=st:=by
 unfold jO at h;cases q:Hf st x y with
 |none=>rw[q]at h;cases h
 |some z=>rw[q]at h;cases h;exact⟨rfl,rfl⟩
theorem FC{a b:Expr}{ta tb:En→M D}{pos:Pos}(hu:X.A.units+1<cLine)(ha:QE X a ta)(hb:QE X b tb)(hs:uS b):QE X (.Subscript a b pos) (fun env=>bnd (ta env) fun x=>bnd (tb env) fun y=>jO x y):=by
 refine bK (Ji (Ji (DP Xc ha hb hs) (Qi hu ha hb hs)) (Qw ha hb hs)) ?_;rintro σ H Q ⟨m,env,st,d,st',S,E,e,k⟩;obtain⟨x,st1,e1,e2⟩:=aA e;obtain⟨y,st2,e3,e4⟩:=aA e2;obtain⟨e5,rfl⟩:=Jr e4
 by_cases hc:∃kvs,x=.dc kvs
 ·right
  obtain⟨kvs,rfl⟩:=hc;refine⟨m,env,st,_,st1,S,E,e1,fun v1 H1 m1 s1 S1 r1=>⟨m1,env,st1,y,_,S1,E.stp s1,e3,fun v2 H2 m2 s2 S2 r2=>?_⟩⟩;have e6:((Fm y).bind fun k=>hU kvs k)=some d:=by cases y<;>first|exact e5|cases e5
  obtain⟨key,q1,q2⟩:=V25.mp e6;have ek:=pI r2 q1;subst ek;cases r1.stp s2 with
  |@dc a kws _ g1 g2 g3=>
   obtain⟨v,hv,rv⟩:=(pJ (k:=key) g2 (Yx g2 g3)).2 d q2;exact⟨a,kws,key,v,rfl,g1,rfl,hv,k v H2 m2 (s1.trans s2) S2 rv⟩
 left
 by_cases hd:∃l z,x=.r l∧y=.s z
 ·right
  obtain⟨l,z,rfl,rfl⟩:=hd;refine⟨m,env,st,_,st1,S,E,e1,fun v1 H1 m1 s1 S1 r1=>⟨m1,env,st1,_,_,S1,E.stp s1,e3,fun v2 H2 m2 s2 S2 r2=>?_⟩⟩;obtain⟨kvs,hd,q2⟩:=V25.mp (show(dcc st' l).bind (fun kvs=>hU kvs (.inr z))=some d from e5);have ek:=pI (k:=.inr z) r2 rfl;subst ek;obtain⟨a',kws,rfl,hm,o1,h2,h3⟩:=S2.dct (r1.stp s2) (qP hd);obtain⟨v,hv,rv⟩:=(pJ (k:=.inr z) h2 h3).2 d q2;exact⟨a',v,rfl,by rw[←hv];exact DGet.k o1,k v H2 m2 (s1.trans s2) S2 rv⟩
 ·left
  refine⟨m,env,st,_,st1,S,E,e1,fun v1 H1 m1 s1 S1 r1=>⟨m1,env,st1,y,_,S1,E.stp s1,e3,fun v2 H2 m2 s2 S2 r2=>?_⟩⟩;have r1:=r1.stp s2;have fin:∀v,RV X.kw m2 H2 v d→Q v H2:=fun v rv=>k v H2 m2 (s1.trans s2) S2 rv;cases r2 with
  |i n=>
   have key:(eB st' x).bind (fun xs=>atI xs n)=some d→JV X.K v1 (.int n) H2 Q:=fun e=>by
    obtain⟨xs,q1,q2⟩:=V25.mp e;obtain⟨a',vs,rfl,hs,rr⟩:=jD S2 r1 q1;obtain⟨v,hv,rv⟩:=rr.atI q2;rcases hs with hs|hs
    ·exact .inl ⟨a',vs,n,v,rfl,rfl,hs,hv,fin v rv⟩
    ·exact .inr (.inl ⟨a',vs,n,v,rfl,rfl,hs,hv,fin v rv⟩)
   cases r1 with
   |s z=>
    rw[Hf]at e5
    split at e5
    ·obtain⟨c,q1,rfl⟩:=V13.mp e5;exact .inr (.inr ⟨z,n,c,rfl,rfl,by assumption,q1,fin _ (.s _)⟩)
    ·cases e5
   |dc g1 g2 g3=>exact absurd ⟨_,rfl⟩ hc
   |_=>exact key e5
  |s z=>cases r1 with
   |dc g1 g2 g3=>exact absurd ⟨_,rfl⟩ hc
   |r e=>exact absurd ⟨_,_,rfl,rfl⟩ hd
   |_=>cases e5
  |_=>cases e5
end
section
variable {d:D}{st':Sto}{a o:Expr}{ta to:En→M D}{K:KW}{m:List Addr}{vs:List V}{T:String}{name:Str}{apos cpos:Pos}{f:List D→Option (D×List D)}
variable{X:Cx}{pos:Pos}
def FD:D→M Int
 |.i n=>ret n
 |_=>bad
theorem Js{st:Sto}{x:Int}(h:FD d st=some (x,st')):d=.i x∧st'=st:=by
 cases d<;>first|(cases h;exact⟨rfl,rfl⟩)|cases h
abbrev QO(X:Cx)(e:Option Expr)(te:En→M (Option Int)):Prop:=PO X e (LO X.kw te)
theorem Jt{e:Option Expr}{t u:TO}(h:PO X e t)(hu:∀σ H Q,u σ H Q→t σ H Q):PO X e u:=fun pins s σ H Q I q=>h pins s σ H Q I (hu σ H Q q)
theorem Qx:QO X none (fun _=>ret none):=by
 refine Jt Pw ?_;rintro σ H Q ⟨m,env,st,d,st',S,E,e,k⟩;cases aD e;exact k H m .refl S
theorem Qy(ha:QE X a ta):QO X (some a) (fun env=>bnd (ta env) fun x=>bnd (FD x) fun n=>ret (some n)):=by
 refine Jt (Px ha) ?_;rintro σ H Q ⟨m,env,st,d,st',S,E,e,k⟩;obtain⟨x,st1,e1,e2⟩:=aA e;obtain⟨n,st2,e3,e4⟩:=aA e2;cases aD e4;obtain⟨rfl,rfl⟩:=Js e3;refine⟨m,env,st,_,_,S,E,e1,fun v H' m' s S' r=>?_⟩;cases r;exact⟨n,rfl,k H' m' s S'⟩
def cutD(xs:List D)(lo hi:Option Int):List D:=(xs.drop (HT.dY xs.length 0 lo)).take (HT.dY xs.length xs.length hi-HT.dY xs.length 0 lo)
def Qz(x:D)(lo hi:Option Int):M D:=match x with
 |.s z=>need (z.length≤sizeLine) (ret (.s (Txt.slice z lo hi)))
 |.t xs=>ret (.t (cutD xs lo hi))
 |.f xs=>fun st=>some (.r st.length,st++[.l (cutD xs lo hi)])
 |.r l=>bnd (getL l) fun xs=>fun st=>some (.r st.length,st++[.l (cutD xs lo hi)])
 |_=>bad
theorem FE:Ex X (LSl X.kw Qz):=by
 refine(Xi.or (Qe.or Qb)).imp ?_;rintro x lo hi H Q ⟨m,st,dx,d,st',S,rx,e,k⟩;cases rx with
 |s z=>obtain⟨h,e⟩:=bY e;cases aD e;exact .inl ⟨z,rfl,h,k.now S (.s _)⟩
 |t e1 l1 h1=>
  cases aD e;refine .inr (.inl ⟨_,_,rfl,e1,fun p H' ep sm=>?_⟩);obtain⟨S2,s2⟩:=S.same sm;have rr:=(RVs.cut ⟨l1,h1⟩ lo hi).stp s2;exact k _ _ _ s2 S2 (.t ep rr.1 rr.2)
 |f e1 l1 h1=>
  cases e;refine .inr (.inr ⟨_,_,rfl,e1.sq,fun p hp=>?_⟩);obtain⟨S2,s2,r2⟩:=S.newL hp (RVs.cut ⟨l1,h1⟩ lo hi);exact k _ _ _ s2 S2 r2
 |r e1=>
  obtain⟨xs,st1,e2,e3⟩:=aA e;obtain⟨h1,rfl⟩:=cP e2;cases e3;obtain⟨pa,vs,q,ma,oa,ra⟩:=S.lst (.r e1) h1;cases q;refine .inr (.inr ⟨_,_,rfl,fE.of oa,fun p hp=>?_⟩);obtain⟨S2,s2,r2⟩:=S.newL hp (ra.cut lo hi);exact k _ _ _ s2 S2 r2
 |_=>cases e
theorem Ju{lo hi:Option Expr}{tl th:En→M (Option Int)}{p2:Pos}(ha:QE X a ta)(hl:QO X lo tl)(hh:QO X hi th):QE X (.Subscript a (.Slice lo hi none p2) pos) (fun env=>bnd (ta env) fun x=>bnd (tl env) fun l=>bnd (th env) fun h=>Qz x l h):=by
 refine bK (Ih FE ha hl hh) ?_;rintro σ H Q ⟨m,env,st,d,st',S,E,e,k⟩;obtain⟨x,st1,e1,e2⟩:=aA e;obtain⟨l,st2,e3,e4⟩:=aA e2;obtain⟨h,st3,e5,e6⟩:=aA e4;exact⟨m,env,st,x,st1,S,E,e1,fun v1 H1 m1 s1 S1 r1=>⟨m1,env,st1,l,st2,S1,E.stp s1,e3,fun H2 m2 s2 S2=>⟨m2,env,st2,h,st3,S2,(E.stp s1).stp s2,e5,fun H3 m3 s3 S3=>
  ⟨m3,st3,x,d,st',S3,(r1.stp s2).stp s3,e6,fun v H' m' s4 S4 r4=>k v H' m' (((s1.trans s2).trans s3).trans s4) S4 r4⟩⟩⟩⟩
def xS(st:Sto):D→Option Int
 |.s y=>if y.length≤sizeLine then some (y.length:Nat) else none
 |x=>(eB st x).map fun xs=>((xs.length:Nat):Int)
def bZ:List D→M D
 |[x]=>fun st=>match xS st x with
  |some n=>some (.i n,st)
  |none=>none
 |_=>bad
theorem cL{H:Hp}(r:RVs K m H vs [d]):∃v,vs=[v]∧RV K m H v d:=by
 have hl:=r.1
 match vs,hl with
 |[v],_=>exact⟨v,rfl,r.2 0 v d rfl rfl⟩
theorem Jv{H:Hp}{e:D}(r:RVs K m H vs [d,e]):∃v w,vs=[v,w]∧RV K m H v d∧RV K m H w e:=by
 have hl:=r.1
 match vs,hl with
 |[v,w],_=>exact⟨v,w,rfl,r.2 0 v d rfl rfl,r.2 1 w e rfl rfl⟩
theorem Cj{H:Hp}(r:RVs K m H vs []):vs=[]:=Z25.mp r.1
theorem Yz:dB X (.builtin "len") (LC X.kw bZ):=by
 refine Hx.imp ?_;rintro xs H Q ⟨m,st,ds,d,st',S,r,e,k⟩
 match ds,r,e with
 |[x],r,e=>
  obtain⟨v,rfl,rv⟩:=cL r;unfold bZ at e;dsimp only at e;cases q:xS st x with
  |none=>rw[q]at e;cases e
  |some n=>
   rw[q]at e;cases e;have kk:=k.now S (.i n);have sq:((eB st x).map fun xs=>((xs.length:Nat):Int))=some n→∃x_1 n,[v]=[x_1]∧DI X.K x_1 H n∧Q (.int (n:Nat)) H:=by
    intro q;obtain⟨ys,q1,q2⟩:=V13.mp q;subst q2;obtain⟨a,vs,rfl,hs,rr⟩:=jD S rv q1;refine⟨_,ys.length,rfl,?_,kk⟩;rcases hs with hs|hs
    ·exact .inl ⟨vs,hs,rr.1.symm⟩
    ·exact .inr ⟨vs,hs,rr.1.symm⟩
   cases rv with
   |s y=>
    rw[xS]at q
    split at q
    ·cases q;exact⟨_,y.length,rfl,⟨by assumption,rfl⟩,kk⟩
    ·cases q
   |_=>exact sq q
def tM:List D→M D
 |[x]=>fun st=>match eB st x with
  |some xs=>some (.r st.length,st++[.l xs])
  |none=>none
 |_=>bad
theorem Ra:dB X (.type "list") (LC X.kw tM):=by
 refine uV.imp ?_;rintro xs H Q ⟨m,st,ds,d,st',S,r,e,k⟩
 match ds,r,e with
 |[x],r,e=>
  obtain⟨v,rfl,rv⟩:=cL r;unfold tM at e;dsimp only at e;cases q:eB st x with
  |none=>rw[q]at e;cases e
  |some ys=>
   rw[q]at e;cases e;obtain⟨a,vs,rfl,hs,rr⟩:=jD S rv q;refine⟨a,vs,rfl,hs,fun l hl=>?_⟩;obtain⟨S2,s2,r2⟩:=S.newL hl rr;exact k _ _ _ s2 S2 r2
def xT:List D→M D
 |[.t xs]=>ret (.t xs)
 |[.r l]=>bnd (getL l) fun xs=>ret (.t xs)
 |[.f xs]=>ret (.t xs)
 |_=>bad
theorem Jw:dB X (.type "tuple") (LC X.kw xT):=by
 refine sJ.imp ?_;rintro xs H Q ⟨m,st,ds,d,st',S,r,e,k⟩
 match ds,r,e with
 |[.t xs],r,e=>
  obtain⟨v,rfl,rv⟩:=cL r;cases aD e;have kk:=k.now S rv;cases rv with
  |t e1 l1 h1=>exact⟨_,_,rfl,.inr ⟨gR.of e1,kk⟩⟩
 |[.f xs],r,e=>
  obtain⟨v,rfl,rv⟩:=cL r;cases aD e;cases rv with
  |f e1 l1 h1=>
   refine⟨_,_,rfl,.inl ⟨e1.sq,fun p hp=>?_⟩⟩;obtain⟨S2,s2,r2⟩:=S.newT hp ⟨l1,h1⟩;exact k _ _ _ s2 S2 r2
 |[.r l],r,e=>
  obtain⟨v,rfl,rv⟩:=cL r;obtain⟨xs,st1,e2,e3⟩:=aA e;obtain⟨h1,rfl⟩:=cP e2;cases aD e3;obtain⟨pa,vs,rfl,ma,oa,ra⟩:=S.lst rv h1;refine⟨_,_,rfl,.inl ⟨fE.of oa,fun p hp=>?_⟩⟩;obtain⟨S2,s2,r2⟩:=S.newT hp ra;exact k _ _ _ s2 S2 r2
def tyName(st:Sto):D→Option String
 |.no=>some "NoneType"
 |.b _=>some "bool"
 |.i _=>some "int"
 |.s _=>some "str"
 |.t _=>some "tuple"
 |.r l=>match st[l]? with
  |some (.l _)=>some "list"
  |some (.d _)=>some "dict"
  |_=>none
 |_=>none
theorem tN{H:Hp}{st:Sto}{v:V}{n:String}(S:SR K m H st)(r:RV K m H v d)(h:tyName st d=some n):TyOf K H v (.type n):=by
 cases r with
 |no=>cases h;exact .non
 |b=>cases h;exact .bl _
 |i=>cases h;exact .int _
 |s=>cases h;exact .str _
 |t e _ _=>cases h;exact .tup e
 |@r l a e=>
  rw[tyName]at h
  match q:st[l]? with
  |none=>rw[q]at h;cases h
  |some (.o _ _)=>rw[q]at h;cases h
  |some (.st _)=>rw[q]at h;cases h
  |some (.p _)=>rw[q]at h;cases h
  |some (.l xs)=>rw[q]at h;cases h;obtain⟨vs,o1,_⟩:=S.cel l a _ e q;exact .lst o1
  |some (.d xs)=>rw[q]at h;cases h;obtain⟨vs,o1,_⟩:=S.cel l a _ e q;exact .dK o1
 |_=>cases h
noncomputable def qQ:List (String×String):=[("tuple","str"),("str","tuple"),("list","str"),("str","list"),("tuple","list"),("list","tuple"),("int","str"),("str","int"),("tuple","int"),("NoneType","str"),("NoneType","tuple"),("int","tuple"),("int","bool"),("tuple","dict"),("list","dict"),("str","dict")]
theorem Jx{K:Fg9}{n c:String}(h:(n,c)∈qQ):PySem.W.kitOne K (.type n) (.type c)=some false:=by
 simp only[qQ,Z13,U21,U15,or_false]at h;rcases h with⟨rfl,rfl⟩|⟨rfl,rfl⟩|⟨rfl,rfl⟩|⟨rfl,rfl⟩|⟨rfl,rfl⟩|⟨rfl,rfl⟩|⟨rfl,rfl⟩|⟨rfl,rfl⟩|⟨rfl,rfl⟩|⟨rfl,rfl⟩|⟨rfl,rfl⟩|⟨rfl,rfl⟩|⟨rfl,rfl⟩|⟨rfl,rfl⟩|⟨rfl,rfl⟩|⟨rfl,rfl⟩<;>kernel_rfl
def bD:List D→M D
 |[x,.ty c]=>fun st=>match tyName st x with
  |some n=>if n=c then some (.b true,st) else if(n,c)∈qQ then some (.b false,st) else none
  |none=>none
 |_=>bad
theorem Fp:dB X (.builtin "isinstance") (LC X.kw bD):=by
 refine xB.imp ?_;rintro xs H Q ⟨m,st,ds,d,st',S,r,e,k⟩
 match ds,r,e with
 |[x,.ty c],r,e=>
  obtain⟨v,w,rfl,rv,rw⟩:=Jv r;cases rw;unfold bD at e;dsimp only at e;cases h:tyName st x with
  |none=>rw[h]at e;cases e
  |some n=>
   rw[h]at e;dsimp only at e
   split at e
   ·rename_i hn;subst hn;cases e;exact⟨v,.type n,n,true,rfl,tN S rv h,by unfold PySem.W.kitOne;rw[if_pos (by simp)],k.now S (.b _)⟩
   ·split at e
    ·rename_i hm;cases e;exact⟨v,.type n,c,false,rfl,tN S rv h,Jx hm,k.now S (.b _)⟩
    ·cases e
def dO(T:String)(x:D):M Unit:=fun st=>match x with
 |.s _=>if T="str" then some ((),st) else none
 |.f _=>if T="list" then some ((),st) else none
 |.r l=>match st[l]? with
  |some (.l _)=>if T="list" then some ((),st) else none
  |some (.d _)=>if T="dict" then some ((),st) else none
  |_=>none
 |_=>none
theorem vJ{H:Hp}{st:Sto}{v:V}{u:Unit}(S:SR K m H st)(r:RV K m H v d)(h:dO T d st=some (u,st')):HA K T v H∧st'=st:=by
 unfold dO at h;cases r with
 |s=>dsimp only at h;split at h;· rename_i e;cases h;exact⟨e,rfl⟩
     ·cases h
 |f e _ _=>
  dsimp only at h
  split at h
  ·rename_i eT;cases h;exact⟨.inl ⟨eT,_,e.sq⟩,rfl⟩
  ·cases h
 |@r l a e=>
  dsimp only at h
  match q:st[l]? with
  |none=>rw[q]at h;cases h
  |some (.o _ _)=>rw[q]at h;cases h
  |some (.st _)=>rw[q]at h;cases h
  |some (.p _)=>rw[q]at h;cases h
  |some (.l xs)=>
   rw[q]at h;dsimp only at h
   split at h
   ·rename_i eT;cases h;obtain⟨vs,o1,_⟩:=S.cel l a _ e q;exact⟨.inl ⟨eT,_,fE.of o1⟩,rfl⟩
   ·cases h
  |some (.d xs)=>
   rw[q]at h;dsimp only at h
   split at h
   ·rename_i eT;cases h;obtain⟨vs,o1,_⟩:=S.cel l a _ e q;exact⟨.inr (.inr (.inl ⟨eT,.inl ⟨_,o1⟩⟩)),rfl⟩
   ·cases h
 |_=>cases h
theorem FF{es:List Expr}{t:En→M (List D)}{id:String}{f:D→List D→M D}(pa:PlainAttrs T)(slot:Slot T name id)(hty:typeOf (.builtin id)=pure (.type "method_descriptor"))(hm:sD X id (LM X.kw f))(ho:QE X o to)(ha:QA X (a::es) t)
  (hbase:attributeBase o name X.env (eval o X.env)=eval o X.env:=by rfl)
  (hfew:((backTo cpos (starEach (a::es) X.env)).all (fun x=>!x.1)&&(backToKw cpos (keywordEach [] X.env)).all (fun x=>x.1.isSome)
   &&decide ((a::es).length+([]:List Keyword).length+(if([]:List Keyword).isEmpty then 0 else 1)<30))=true:=by rfl)
  (hline:(apos.endLine==cpos.line)=true:=by rfl)(hs:starEach (a::es) X.env=(false,eval a X.env)::starEach es X.env:=by rfl)(hplain:(backTo cpos (starEach es X.env)).any (·.1)=false:=by rfl):
  QE X (.Call (.Attribute o name apos) (a::es) [] cpos) (fun env=>bnd (to env) fun x=>bnd (dO T x) fun _=>bnd (t env) fun xs=>f x xs):=by
 refine bK (DU pa slot hty hm ho ha hbase hfew hline hs hplain) ?_;rintro σ H Q ⟨m,env,st,d,st',S,E,e,k⟩;obtain⟨x,st1,e1,e2⟩:=aA e;obtain⟨u,st2,e3,e4⟩:=aA e2;obtain⟨xs,st3,e5,e6⟩:=aA e4;refine⟨m,env,st,x,st1,S,E,e1,fun v1 H1 m1 s1 S1 r1=>?_⟩;obtain⟨ty,rfl⟩:=vJ S1 r1 e3;exact⟨ty,m1,env,_,xs,st3,S1,E.stp s1,e5,fun vs H2 m2 s2 S2 r2=>⟨m2,st3,x,xs,d,st',S2,r1.stp s2,r2,e6,fun v H' m' s3 S3 r3=>k v H' m' ((s1.trans s2).trans s3) S3 r3⟩⟩
theorem Za{id:String}{f:D→List D→M D}(pa:PlainAttrs T)(slot:Slot T name id)(hty:typeOf (.builtin id)=pure (.type "method_descriptor"))(hm:sD X id (LM X.kw f))(ho:QE X o to)
  (hbase:attributeBase o name X.env (eval o X.env)=eval o X.env:=by rfl)(hline:(apos.endLine==cpos.line)=true:=by rfl):
  QE X (.Call (.Attribute o name apos) [] [] cpos) (fun env=>bnd (to env) fun x=>bnd (dO T x) fun _=>f x []):=by
 refine bK (Xe pa slot hty hm ho hbase hline) ?_;rintro σ H Q ⟨m,env,st,d,st',S,E,e,k⟩;obtain⟨x,st1,e1,e2⟩:=aA e;obtain⟨u,st2,e3,e4⟩:=aA e2;refine⟨m,env,st,x,st1,S,E,e1,fun v1 H1 m1 s1 S1 r1=>?_⟩;obtain⟨ty,rfl⟩:=vJ S1 r1 e3;exact⟨ty,m1,_,x,[],d,st',S1,r1,.nil,e4,fun v H' m' s3 S3 r3=>k v H' m' (s1.trans s3) S3 r3⟩
def xU(l:Nat)(f:List D→Option (D×List D)):M D:=fun st=>match lsc st l with
 |some xs=>match f xs with
  |some (d,ys)=>some (d,st.set l (.l ys))
  |none=>none
 |none=>none
theorem lE{l:Nat}{st:Sto}(h:xU l f st=some (d,st')):∃xs ys,st[l]?=some (.l xs)∧f xs=some (d,ys)∧st'=st.set l (.l ys):=by
 unfold xU at h;cases q:lsc st l with
 |none=>rw[q]at h;cases h
 |some xs=>
  rw[q]at h;dsimp only at h;cases q2:f xs with
  |none=>rw[q2]at h;cases h
  |some p=>rw[q2]at h;cases h;exact⟨xs,p.2,jC q,q2,rfl⟩
theorem pK{l:Nat}{st:Sto}{xs ys:List D}(h:st[l]?=some (.l xs))(h2:f xs=some (d,ys)):xU l f st=some (d,st.set l (.l ys)):=by
 unfold xU;rw[kD h];dsimp only;rw[h2]
def eH:D→List D→M D
 |.r l,[y]=>xU l fun xs=>if xs.length<sizeLine then some (.no,xs++[y]) else none
 |_,_=>bad
theorem Fs:sD X "list.append" (LM X.kw eH):=by
 have h0:sD X "list.append" Bv:=Ez;refine h0.imp ?_;rintro x xs H Q ⟨m,st,dx,ds,d,st',S,rx,r,e,k⟩
 match dx,ds,rx,r,e with
 |.r l,[y],rx,r,e=>
  obtain⟨w,rfl,rw⟩:=cL r;obtain⟨zs,ys,h1,h2,rfl⟩:=lE e
  split at h2
  ·rename_i hl;cases h2;obtain⟨a,vs,rfl,ma,oa,ra⟩:=S.lst rx h1;obtain⟨S2,s2⟩:=S.putL ma oa rfl (ra.append (.one rw));exact⟨a,vs,w,rfl,rfl,oa,by rw[ra.1];exact hl,k _ _ _ s2 S2 .no⟩
  ·cases h2
def iM:D→List D→M D
 |.r l,[]=>xU l fun xs=>(xs[xs.length-1]?).map fun y=>(y,xs.dropLast)
 |_,_=>bad
theorem Zb:sD X "list.pop" (LM X.kw iM):=by
 have h0:sD X "list.pop" DV:=Xf;refine h0.imp ?_;rintro x xs H Q ⟨m,st,dx,ds,d,st',S,rx,r,e,k⟩
 match dx,ds,rx,r,e with
 |.r l,[],rx,r,e=>
  cases Cj r;obtain⟨zs,ys,h1,h2,rfl⟩:=lE e;obtain⟨y,q1,q2⟩:=V13.mp h2;cases q2;obtain⟨a,vs,rfl,ma,oa,ra⟩:=S.lst rx h1;obtain⟨S2,s2⟩:=S.putL ma oa rfl ra.dropLast;obtain⟨v,hv,rv⟩:=ra.at q1;exact⟨a,vs,v,rfl,rfl,oa,by rw[ra.1];exact hv,k _ _ _ s2 S2 (rv.stp s2)⟩
def cN:D→List D→M D
 |.r l,[.t ys]=>xU l fun xs=>if xs.length+ys.length≤sizeLine then some (.no,xs++ys) else none
 |.r l,[.r b]=>bnd (getL b) fun ys=>xU l fun xs=>if xs.length+ys.length≤sizeLine then some (.no,xs++ys) else none
 |_,_=>bad
theorem Ft:sD X "list.extend" (LM X.kw cN):=by
 have h0:sD X "list.extend" Bw:=Fb;have h1:sD X "list.extend" xC:=zP;refine(h0.or h1).imp ?_;rintro x xs H Q ⟨m,st,dx,ds,d,st',S,rx,r,e,k⟩
 match dx,ds,rx,r,e with
 |.r l,[.t ys],rx,r,e=>
  obtain⟨w,rfl,rw⟩:=cL r;obtain⟨zs,us,h1,h2,rfl⟩:=lE e
  split at h2
  ·rename_i hl;cases h2;obtain⟨a,vs,rfl,ma,oa,ra⟩:=S.lst rx h1;cases rw with
   |@t b ws _ e1 l1 q1=>
    obtain⟨S2,s2⟩:=S.putL ma oa rfl (ra.append ⟨l1,q1⟩);exact .inr ⟨a,b,vs,ws,rfl,rfl,oa,e1,by rw[ra.1,l1];exact hl,k _ _ _ s2 S2 .no⟩
  ·cases h2
 |.r l,[.r b],rx,r,e=>
  obtain⟨w,rfl,rw⟩:=cL r;obtain⟨ys,st1,e2,e3⟩:=aA e;obtain⟨hb,rfl⟩:=cP e2;obtain⟨zs,us,h1,h2,rfl⟩:=lE e3
  split at h2
  ·rename_i hl;cases h2;obtain⟨a,vs,rfl,ma,oa,ra⟩:=S.lst rx h1;obtain⟨c,ws,rfl,mc,oc,rc⟩:=S.lst rw hb;obtain⟨S2,s2⟩:=S.putL ma oa rfl (ra.append rc);exact .inl ⟨a,c,vs,ws,rfl,rfl,oa,oc,by rw[ra.1,rc.1];exact hl,k _ _ _ s2 S2 .no⟩
  ·cases h2
def xV(x y z:D):M D:=fun st=>match x with
 |.r l=>match dcc st l,Fm y with
  |some kvs,some k=>some ((hU kvs k).getD z,st)
  |_,_=>none
 |_=>none
theorem Rb{b:Expr}{tb:En→M D}(hu:X.A.units+1<cLine)(ho:QE X o to)(ha:QE X a ta)(hb:QE X b tb)(m:M2 X o "get" apos a b cpos):
  QE X (.Call (.Attribute o "get" apos) [a,b] [] cpos) (fun env=>bnd (to env) fun x=>bnd (dO "dict" x) fun _=>bnd (ta env) fun y=>bnd (tb env) fun z=>xV x y z):=by
 refine bK (Iw hu ho ha hb m) ?_;rintro σ H Q ⟨m,env,st,d,st',S,E,e,k⟩;obtain⟨x,st1,e1,e2⟩:=aA e;obtain⟨u,st2,e3,e4⟩:=aA e2;obtain⟨y,st3,e5,e6⟩:=aA e4;obtain⟨z,st4,e7,e8⟩:=aA e6;refine⟨m,env,st,x,st1,S,E,e1,fun v1 H1 m1 s1 S1 r1=>?_⟩;have hst:st2=st1:=(vJ S1 r1 e3).2;subst hst;unfold xV at e8;cases r1 with
 |@r l a' el=>
  dsimp only at e8;unfold dO at e3;dsimp only at e3
  match q:st2[l]? with
  |none=>rw[q]at e3;cases e3
  |some (.o _ _)=>rw[q]at e3;cases e3
  |some (.st _)=>rw[q]at e3;cases e3
  |some (.p _)=>rw[q]at e3;cases e3
  |some (.l _)=>rw[q]at e3;dsimp only at e3;rw[if_neg (by decide)]at e3;cases e3
  |some (.d kvs0)=>
   obtain⟨kws0,o0,_⟩:=S1.cel l a' _ el q;refine⟨a',rfl,.inl ⟨_,.inl o0⟩,m1,env,_,y,st3,S1,E.stp s1,e5,fun v2 H2 m2 s2 S2 r2=>⟨m2,env,st3,z,st4,S2,(E.stp s1).stp s2,e7,fun v3 H3 m3 s3 S3 r3=>?_⟩⟩;cases q1:dcc st4 l with
   |none=>rw[q1]at e8;cases e8
   |some kvs=>
    cases q2:Fm y with
    |none=>rw[q1,q2]at e8;cases e8
    |some key=>
     rw[q1,q2]at e8;cases e8;have ek:=pI r2 q2;subst ek;obtain⟨kws,o1,h2,h3⟩:=S3.cel l a' _ (s3.pre _ _ (s2.pre _ _ el)) (qP q1);have v:=pJ (k:=key) h2 h3;refine⟨_,DGet.k o1,k _ H3 m3 ((s1.trans s2).trans s3) S3 ?_⟩;cases q3:hU kvs key with
     |none=>rw[v.1 q3];exact r3
     |some w=>obtain⟨w',hw,rw⟩:=v.2 w q3;rw[hw];exact rw
 |_=>cases e8
end
inductive Fw where
 |nx
 |bk
 |ct
 |rt (d:D)
section
variable(K:KW)
def LG(g:D→En→M En):TG:=fun v σ H Q=>∃m env st d env' st',SR K m H st∧RE K m H σ env∧RV K m H v d∧g d env st=some (env',st')∧∀σ' H' m',Stp m H m' H'→SR K m' H' st'→RE K m' H' σ' env'→Q σ' H'
def LGs(g:List D→En→M En):TGs:=fun vs σ H Q=>∃m env st ds env' st',SR K m H st∧RE K m H σ env∧RVs K m H vs ds∧g ds env st=some (env',st')∧∀σ' H' m',Stp m H m' H'→SR K m' H' st'→RE K m' H' σ' env'→Q σ' H'
def LSet(f:D→D→D→M Unit):TSet:=fun o i v H Q=>∃m st x y z st',SR K m H st∧RV K m H o x∧RV K m H i y∧RV K m H v z∧f x y z st=some ((),st')∧∀H' m',Stp m H m' H'→SR K m' H' st'→Q H'
def After(D:Ends)(σ':St)(H':Hp)(m':List Addr):Fw→Prop
 |.nx=>D.nx σ' H'
 |.bk=>D.bk σ' H'
 |.ct=>D.ct σ' H'
 |.rt d=>∀v,RV K m' H' v d→D.rt v H'
def LS(ts:En→M (Fw×En)):TS:=fun D σ H=>∃m env st fl env' st',SR K m H st∧RE K m H σ env∧ts env st=some ((fl,env'),st')∧∀σ' H' m',Stp m H m' H'→SR K m' H' st'→RE K m' H' σ' env'→After K D σ' H' m' fl
end
abbrev QG(X:Cx)(e:Expr)(g:D→En→M En):Prop:=PG X e (LG X.kw g)
abbrev QGs(X:Cx)(e:List Expr)(g:List D→En→M En):Prop:=PGs X e (LGs X.kw g)
abbrev QS(X:Cx)(s:Stmt)(t:En→M (Fw×En)):Prop:=PS X s (LS X.kw t)
abbrev QSs(X:Cx)(s:List Stmt)(t:En→M (Fw×En)):Prop:=PSs X s (LS X.kw t)
section
variable {i:Nat}{es:List Expr}{g:D→En→M En}{gs:List D→En→M En}{K:KW}{H:Hp}{pos':Pos}
variable{X:Cx}{pos:Pos}{a b c:Expr}{ta tb:En→M D}{tc:En→M Bool}{s1 s2:En→M (Fw×En)}
def Rf(i:Nat)(d:D)(env:En):M En:=ret (env.set i (some d))
theorem Rg{x:Str}(hN:X.N.Nodup)(hi:X.N[i]?=some x)(hx:Loc X.env.scope x)(hf:X.fn x=true∨X.env.scope.names.lookup x=some .local):QG X (.Name x pos) (Rf i):=by
 refine vE (Bq (i:=i) hN hi hx hf) ?_;rintro v σ H Q ⟨m,env,st,d,env',st',S,E,r,e,k⟩;cases aD e;exact k _ H m .refl S (E.set r)
theorem Rh:QGs X [] (fun ds env=>match ds with
  |[]=>ret env
  |_=>bad):=by
 refine Cf Br ?_;rintro v σ H Q ⟨m,env,st,ds,env',st',S,E,r,e,k⟩;cases ds with
 |nil=>cases Cj r;cases aD e;exact⟨rfl,k _ H m .refl S E⟩
 |cons d ds=>cases e
theorem Jy(h1:QG X a g)(h2:QGs X es gs)
  (ha:(assignEach (a::es) X.env).map (fun x=>x.snd)=assign a X.env::(assignEach es X.env).map (fun x=>x.snd):=by rfl):QGs X (a::es) (fun ds env=>match ds with
  |d::ds=>bnd (g d env) fun env'=>gs ds env'
  |[]=>bad):=by
 refine Cf (wX h1 h2 ha) ?_;rintro vs σ H Q ⟨m,env,st,ds,env',st',S,E,r,e,k⟩
 match ds,vs,r,e with
 |d::ds,v::vs,r,e=>
  have r0:=r.2 0 v d rfl rfl;have r1:RVs X.kw m H vs ds:=⟨by have:=r.1;simpa using this,fun i v' d' e1 e2=>r.2 (i+1) v' d' (by simpa using e1) (by simpa using e2)⟩;obtain⟨env1,st1,e1,e2⟩:=aA e;exact⟨v,vs,rfl,m,env,st,d,env1,st1,S,E,r0,e1,fun σ1 H1 m1 p1 S1 E1=>⟨m1,env1,st1,ds,env',st',S1,E1,r1.stp p1,e2,fun σ' H' m' p2 S2 E2=>k σ' H' m' (p1.trans p2) S2 E2⟩⟩
 |d::ds,[],r,e=>exact absurd r.1 (by simp)
def unp(n:Nat)(gs:List D→En→M En)(d:D)(env:En):M En:=fun st=>match eB st d with
 |some xs=>if xs.length=n then gs xs env st else none
 |none=>none
theorem Jz{n:Nat}{d:D}{env env':En}{st st':Sto}(h:unp n gs d env st=some (env',st')):∃xs,eB st d=some xs∧xs.length=n∧gs xs env st=some (env',st'):=by
 unfold unp at h;cases q:eB st d with
 |none=>rw[q]at h;cases h
 |some xs=>
  rw[q]at h;dsimp only at h
  split at h
  ·exact⟨xs,rfl,by assumption,h⟩
  ·cases h
theorem Zc{kk:Nat}{n:Nat}(hc:X.calm=true)(h:QGs X es gs)(hn:(assignEach es X.env).length=n:=by rfl)(hst:(assignEach es X.env).findIdx? (·.1)=none:=by rfl):QG X (.Tuple es kk pos) (unp n gs):=by
 refine vE (Ut (Hs (k:=kk) (n:=n) hc h hn hst) (By (k:=kk) (n:=n) hc h hn hst)) ?_;rintro v σ H Q ⟨m,env,st,d,env',st',S,E,r,e,k⟩;obtain⟨xs,q1,q2,q3⟩:=Jz e;obtain⟨p,vs,rfl,hs,rr⟩:=jD S r q1;have body:LGs X.kw gs vs σ H Q:=⟨m,env,st,xs,env',st',S,E,rr,q3,k⟩;rcases hs with hs|hs
 ·exact .inr ⟨p,vs,rfl,hs,by rw[rr.1];exact q2,body⟩
 ·exact .inl ⟨p,vs,rfl,hs,by rw[rr.1];exact q2,body⟩
def qR(x y z:D):M Unit:=fun st=>match x with
 |.r l=>match lsc st l,y with
  |some xs,.i n=>match wO xs.length n with
   |some j=>some ((),st.set l (.l (xs.set j z)))
   |none=>none
  |_,_=>none
 |_=>none
theorem Ri{m:List Addr}{kws:List (Key×V)}{kvs:List (Key×D)}{k:Key}{v:V}{d:D}(h:kws.map (·.1)=kvs.map (·.1))(r:RVs K m H (kws.map (·.2)) (kvs.map (·.2)))(rv:RV K m H v d):
  (putK kws k v).map (·.1)=(putD kvs k d).map (·.1)∧RVs K m H ((putK kws k v).map (·.2)) ((putD kvs k d).map (·.2)):=by
 have hany:(kws.any fun kv=>decide (kv.1=k))=kvs.any fun kv=>decide (kv.1=k):=by
  have e1:∀{β:Type} (l:List (Key×β)),(l.any fun kv=>decide (kv.1=k))=(l.map (·.1)).any fun x=>decide (x=k):=fun l=>by rw[List.any_map];rfl
  rw[e1,e1,h]
 unfold putK putD;rw[hany]
 split
 ·have key:∀(kws:List (Key×V)) (kvs:List (Key×D)),kws.map (·.1)=kvs.map (·.1)→RVs K m H (kws.map (·.2)) (kvs.map (·.2))→
    (kws.map fun kv=>if kv.1=k then(kv.1,v) else kv).map (·.1)=(kvs.map fun kv=>if kv.1=k then(kv.1,d) else kv).map (·.1)∧RVs K m H ((kws.map fun kv=>if kv.1=k then(kv.1,v) else kv).map (·.2)) ((kvs.map fun kv=>if kv.1=k then(kv.1,d) else kv).map (·.2)):=by
   intro kws
   induction kws with
   |nil=>intro kvs h r;cases kvs with
    |nil=>exact⟨rfl,.nil⟩
    |cons=>cases h
   |cons p kws ih=>
    intro kvs h r;cases kvs with
    |nil=>cases h
    |cons q kvs=>
     simp only[Z12,V35]at h;have r0:=r.2 0 p.2 q.2 rfl rfl;have r1:RVs K m H (kws.map (·.2)) (kvs.map (·.2)):=⟨by have:=r.1;simpa using this,fun i v' d' e1 e2=>r.2 (i+1) v' d' (by simpa using e1) (by simpa using e2)⟩;obtain⟨i1,i2⟩:=ih kvs h.2 r1;rw[Z12,Z12,Z12,Z12,Z12,Z12,i1]
     by_cases hk:q.1=k
     ·rw[if_pos hk,if_pos (h.1.trans hk),h.1];exact⟨rfl,.cons rv i2⟩
     ·rw[if_neg hk,if_neg fun z=>hk (h.1.symm.trans z),h.1];exact⟨rfl,.cons r0 i2⟩
  exact key kws kvs h r
 ·rw[Y19,Y19,Y19,Y19,h];exact⟨rfl,r.append (.one rv)⟩
theorem Zd(hu:X.A.units+1<cLine):PSet X (LSet X.kw qR):=by
 rintro pins s σ H o i v ov iv u Q I ro ri rv ⟨m,st,x,y,z,st',S,rx,ry,rz,e,k⟩;unfold qR at e;cases rx with
 |@r l p el=>
  dsimp only at e;cases q2:lsc st l with
  |none=>rw[q2]at e;cases e
  |some xs=>
   rw[q2]at e;cases ry with
   |i n=>
    dsimp only at e;cases q3:wO xs.length n with
    |none=>rw[q3]at e;cases e
    |some j=>
     rw[q3]at e;cases e;obtain⟨vs,o1,rr⟩:=S.cel l p _ el (jC q2);obtain⟨S2,s2⟩:=S.putL el o1 rfl (rr.set (i:=j) rz);exact set_list pins s σ H _ _ v ov iv u Q I ro ri rv ⟨p,vs,n,j,rfl,rfl,o1,by rw[rr.1];exact q3,k _ _ s2 S2⟩
   |_=>cases e
 |_=>cases e
theorem Ze(hu:X.A.units+1<cLine)(ho:QE X a ta)(hi:QE X b tb)
  (ha:∀v,assign (.Subscript a b pos) X.env v=(do
   let ov ←holding [v] (eval a X.env)
   let iv ←holding [v,ov] (eval b X.env)
   standAt pos
   holding [v,ov,iv] (setItem ov iv v)
   release [v,ov,iv] []):=by intro _;rfl):QG X (.Subscript a b pos) (fun d env=>bnd (ta env) fun x=>bnd (tb env) fun y=>bnd (qR x y d) fun _=>ret env):=by
 refine vE (Vz ho hi (Zd hu) ha) ?_;rintro v σ H Q ⟨m,env,st,d,env',st',S,E,r,e,k⟩;obtain⟨x,st1,e1,e2⟩:=aA e;obtain⟨y,st2,e3,e4⟩:=aA e2;obtain⟨u,st3,e5,e6⟩:=aA e4;cases aD e6;exact⟨m,env,st,x,st1,S,E,e1,fun v1 H1 m1 s1 S1 r1=>⟨m1,env,st1,y,st2,S1,E.stp s1,e3,fun v2 H2 m2 s2 S2 r2=>⟨m2,st2,x,y,d,_,S2,r1.stp s2,r2,(r.stp s1).stp s2,e5,fun H3 m3 s3 S3=>k _ H3 m3 ((s1.trans s2).trans s3) S3 (((E.stp s1).stp s2).stp s3)⟩⟩⟩
theorem Rj:QSs X [] (fun env=>ret (.nx,env)):=by
 refine Ce Ow ?_;rintro D σ H ⟨m,env,st,fl,env',st',S,E,e,k⟩;cases aD e;exact k _ H m .refl S E
def aE(s1 s2:En→M (Fw×En))(env:En):M (Fw×En):=bnd (s1 env) fun p=>match p.1 with
 |.nx=>s2 p.2
 |.bk=>ret (.bk,p.2)
 |.ct=>ret (.ct,p.2)
 |.rt d=>ret (.rt d,p.2)
theorem Ka{st:Stmt}{rest:List Stmt}(h1:QS X st s1)(h2:QSs X rest s2):QSs X (st::rest) (aE s1 s2):=by
 refine Ce (Hr h1 h2) ?_;rintro D σ H ⟨m,env,st,fl,env',st',S,E,e,k⟩;obtain⟨⟨f1,env1⟩,st1,e1,e2⟩:=aA e;refine⟨m,env,st,f1,env1,st1,S,E,e1,fun σ1 H1 m1 p1 S1 E1=>?_⟩;cases f1 with
 |nx=>exact⟨m1,env1,st1,fl,env',st',S1,E1,e2,fun σ' H' m' p2 S2 E2=>k σ' H' m' (p1.trans p2) S2 E2⟩
 |bk=>cases aD e2;exact k σ1 H1 m1 p1 S1 E1
 |ct=>cases aD e2;exact k σ1 H1 m1 p1 S1 E1
 |rt d=>cases aD e2;exact k σ1 H1 m1 p1 S1 E1
theorem Rl{st:Stmt}(h1:QS X st s1):QSs X [st] s1:=Ox h1
theorem Rm(he:QE X a ta)(hs:swapsWith a none pos.line X.env=pure false:=by rfl):QS X (.Expr a pos) (fun env=>bnd (ta env) fun _=>ret (.nx,env)):=by
 refine gG (Oy he hs) ?_;rintro D σ H ⟨m,env,st,fl,env',st',S,E,e,k⟩;obtain⟨x,st1,e1,e2⟩:=aA e;cases aD e2;exact⟨m,env,st,x,_,S,E,e1,fun v H' m' s S' r=>k σ H' m' s S' (E.stp s)⟩
theorem Zf(he:QE X a ta):QS X (.Return (some a) pos) (fun env=>bnd (ta env) fun d=>ret (.rt d,env)):=by
 refine gG (Vy he) ?_;rintro D σ H ⟨m,env,st,fl,env',st',S,E,e,k⟩;obtain⟨x,st1,e1,e2⟩:=aA e;cases aD e2;exact⟨m,env,st,x,_,S,E,e1,fun v H' m' s S' r=>k σ H' m' s S' (E.stp s) v r⟩
theorem Ro:QS X (.Return none pos) (fun env=>ret (.rt .no,env)):=by
 refine gG Oz ?_;rintro D σ H ⟨m,env,st,fl,env',st',S,E,e,k⟩;cases aD e;exact k σ H m .refl S E _ .no
theorem FG{xs ys:List Stmt}(hc:QT X c tc)(ha:QSs X xs s1)(hb:QSs X ys s2):QS X (.If c xs ys pos) (fun env=>bnd (tc env) fun b=>if b=true then s1 env else s2 env):=by
 refine gG (CU hc ha hb) ?_;rintro D σ H ⟨m,env,st,fl,env',st',S,E,e,k⟩;obtain⟨x,st1,e1,e2⟩:=aA e;refine⟨m,env,st,x,st1,S,E,e1,fun H' m' s S'=>?_⟩;cases x with
 |true=>exact⟨m',env,st1,fl,env',st',S',E.stp s,e2,fun σ2 H2 m2 p2 S2 E2=>k σ2 H2 m2 (s.trans p2) S2 E2⟩
 |false=>exact⟨m',env,st1,fl,env',st',S',E.stp s,e2,fun σ2 H2 m2 p2 S2 E2=>k σ2 H2 m2 (s.trans p2) S2 E2⟩
theorem qS{g:D→En→M En}{D:Ends}{σ:St}(h:LS K (fun env=>bnd (ta env) fun d=>bnd (g d env) fun env'=>ret (.nx,env')) D σ H):LE K ta σ H fun x H1=>LG K g x σ H1 D.nx:=by
 obtain⟨m,env,st,fl,env',st',S,E,e,k⟩:=h;obtain⟨x,st1,e1,e2⟩:=aA e;obtain⟨env1,st2,e3,e4⟩:=aA e2;cases aD e4;exact⟨m,env,st,x,st1,S,E,e1,fun v H1 m1 s1 S1 r1=>⟨m1,env,st1,x,_,_,S1,E.stp s1,r1,e3,fun σ' H' m' p S' E'=>k σ' H' m' (s1.trans p) S' E'⟩⟩
theorem Zg(he:QE X a ta)(hg:QG X b g)(hs:swapsWithSole [b] a pos.line X.env=pure false:=by rfl)(hw:swappedStores [b] a X.env=pure none:=by rfl)
  (h1:(assignEach [b] X.env).map (·.2)=[assign b X.env]:=by rfl):QS X (.Assign [b] a pos) (fun env=>bnd (ta env) fun d=>bnd (g d env) fun env'=>ret (.nx,env')):=
 gG (Wb he hg hs hw h1) fun _ _ _ h=>qS h
theorem Kb{x:Str}(hN:X.N.Nodup)(hi:X.N[i]?=some x)(hx:Loc X.env.scope x)(he:QE X a ta)(hs:swapsWith a (some (.Name x pos')) pos.line X.env=pure false:=by rfl)(hf:X.fn x=true∨X.env.scope.names.lookup x=some .local):
  QS X (.Assign [.Name x pos'] a pos) (fun env=>bnd (ta env) fun d=>bnd (Rf i d env) fun env'=>ret (.nx,env')):=by
 refine gG (Wc (i:=i) hN hi hx he hs hf) fun D σ H h=>?_;obtain⟨m,env,st,d,st',S,E,e,k⟩:=qS h;refine⟨m,env,st,d,st',S,E,e,fun v H' m' s S' r=>?_⟩;obtain⟨m1,env1,st1,d1,env',st2,S1,E1,r1,e1,k1⟩:=k v H' m' s S' r;cases aD e1;exact k1 _ H' m1 .refl S1 (E1.set r1)
theorem Zh{x:Str}{op:Operator}{f:D→D→M D}(hN:X.N.Nodup)(hi:X.N[i]?=some x)(hx:Loc X.env.scope x)(he:QE X a ta)(ho:eG X (inplaceOp op) (LR X.kw f))(hf:X.fn x=true∨X.env.scope.names.lookup x=some .local):
  QS X (.AugAssign (.Name x pos') op a pos) (fun env=>bnd (vD i env) fun x=>bnd (ta env) fun y=>bnd (f x y) fun z=>ret (.nx,env.set i (some z))):=by
 refine gG (Wd (i:=i) (ti:=LR X.kw f) hN hi hx he ho hf) ?_;rintro D σ H ⟨m,env,st,fl,env',st',S,E,e,k⟩;obtain⟨x,st1,e1,e2⟩:=aA e;obtain⟨y,st2,e3,e4⟩:=aA e2;obtain⟨z,st3,e5,e6⟩:=aA e4;cases aD e6;obtain⟨e7,rfl⟩:=vF e1;obtain⟨v,h1,h2⟩:=E.2 i x e7;exact⟨v,h1,m,env,_,y,st2,S,E,e3,fun v2 H2 m2 p2 S2 r2=>⟨m2,st2,x,y,z,_,S2,h2.stp p2,r2,e5,fun v3 H3 m3 p3 S3 r3=>k _ H3 m3 (p2.trans p3) S3 ((E.stp (p2.trans p3)).set r3)⟩⟩
def kE:D→D→M D
 |.i a,.i b=>ret (.i (a+b))
 |.s a,.s b=>need (a.length+b.length≤sizeLine) (ret (.s (a++b)))
 |_,_=>bad
theorem Zi:eG X (inplaceOp .Add) (LR X.kw kE):=by
 refine(Pe.or wY).imp ?_;rintro x y H Q ⟨m,st,dx,dy,d,st',S,rx,ry,e,k⟩
 match dx,dy,rx,ry,e with
 |.i a,.i b,.i _,.i _,e=>cases aD e;exact .inl ⟨_,_,rfl,rfl,k.now S (.i _)⟩
 |.s a,.s b,.s _,.s _,e=>obtain⟨h,e⟩:=bY e;cases aD e;exact .inr ⟨_,_,rfl,rfl,h,k.now S (.s _)⟩
def Ck(tc:En→M Bool)(tb:En→M (Fw×En)):Nat→En→M (Fw×En)
 |0,_=>bad
 |n+1,env=>bnd (tc env) fun b=>if b=true then bnd (tb env) fun p=>match p.1 with
   |.nx=>Ck tc tb n p.2
   |.ct=>Ck tc tb n p.2
   |.bk=>ret (.nx,p.2)
   |.rt d=>ret (.rt d,p.2) else ret (.nx,env)
open Classical in
def oP(tc:En→M Bool)(tb:En→M (Fw×En))(env:En):M (Fw×En):=fun st=>if h:∃r n,Ck tc tb n env st=some r then some h.choose else none
theorem Kc{body:List Stmt}(hp:PassesOwn (model X.prog X.w) X.A X.env X.xe)(hc:QT X c tc)(hb:QSs X body s1):QS X (.While c body [] pos) (oP tc s1):=by
 refine gG (Ht hp hc hb) ?_;rintro D σ H ⟨m,env,st,fl,env',st',S,E,e,k⟩;unfold oP at e
 split at e
 ·rename_i h;have h2:=h.choose_spec;rw[Y17 e]at h2;obtain⟨n,h2⟩:=h2;refine⟨fun n σ1 H1=>∃m1 env1 st1,SR X.kw m1 H1 st1∧RE X.kw m1 H1 σ1 env1∧Ck tc s1 n env1 st1=some ((fl,env'),st')∧Stp m H m1 H1,⟨n,m,env,st,S,E,h2,.refl⟩,?_⟩;rintro n σ1 H1 ⟨m1,env1,st1,S1,E1,h3,p1⟩;cases n with
  |zero=>cases h3
  |succ n=>
   rw[Ck]at h3;obtain⟨b,st2,e1,e2⟩:=aA h3;refine⟨m1,env1,st1,b,st2,S1,E1,e1,fun H2 m2 p2 S2=>?_⟩;cases b with
   |false=>
    rw[if_neg (by decide)]at e2;cases aD e2;rw[if_neg (by decide)];exact k σ1 H2 m2 (p1.trans p2) S2 (E1.stp p2)
   |true=>
    rw[if_pos rfl]at e2⊢;obtain⟨⟨f1,env2⟩,st3,e3,e4⟩:=aA e2;refine⟨fun σ3 H3=>∃m1 env1 st1,SR X.kw m1 H3 st1∧RE X.kw m1 H3 σ3 env1∧Ck tc s1 n env1 st1=some ((fl,env'),st')∧Stp m H m1 H3,fun σ3 H3 h=>⟨n,W42 n,h⟩,?_⟩;refine⟨m2,env1,st2,f1,env2,st3,S2,E1.stp p2,e3,fun σ3 H3 m3 p3 S3 E3=>?_⟩;have pp:=(p1.trans p2).trans p3;cases f1 with
    |nx=>exact⟨m3,env2,st3,S3,E3,e4,pp⟩
    |ct=>exact⟨m3,env2,st3,S3,E3,e4,pp⟩
    |bk=>cases aD e4;exact k σ3 H3 m3 pp S3 E3
    |rt d=>cases aD e4;exact k σ3 H3 m3 pp S3 E3
 ·cases e
theorem xW{tb:En→M (Fw×En)}:∀{n:Nat} {env:En} {st:Sto} {r:(Fw×En)×Sto} {k:Nat},Ck tc tb n env st=some r→n≤k→Ck tc tb k env st=some r:=by
 intro n
 induction n with
 |zero=>intro env st r k h;cases h
 |succ n ih=>
  intro env st r k h hk;obtain⟨k,rfl⟩:∃j,k=j+1:=⟨k-1,by lia⟩;rw[Ck]at h⊢;obtain⟨b,st2,e1,e2⟩:=aA h;rw[aR e1];cases b with
  |false=>exact e2
  |true=>
   rw[if_pos rfl]at e2⊢;obtain⟨⟨f1,env2⟩,st3,e3,e4⟩:=aA e2;rw[aR e3];cases f1 with
   |nx=>exact ih e4 (by lia)
   |ct=>exact ih e4 (by lia)
   |bk=>exact e4
   |rt d=>exact e4
theorem Ke{tb:En→M (Fw×En)}{n:Nat}{env:En}{st:Sto}{r:(Fw×En)×Sto}(h:Ck tc tb n env st=some r):oP tc tb env st=some r:=by
 unfold oP;have hx:∃r n,Ck tc tb n env st=some r:=⟨r,n,h⟩;rw[dif_pos hx];obtain⟨k,hk⟩:=hx.choose_spec;have h1:=xW h (Nat.le_max_left n k);have h2:=xW hk (Nat.le_max_right n k);rw[h1]at h2;exact h2.symm
theorem Zj{tb:En→M (Fw×En)}{env:En}{st:Sto}{r:(Fw×En)×Sto}(h:oP tc tb env st=some r):∃n,Ck tc tb n env st=some r:=by
 unfold oP at h
 split at h
 ·rename_i hx;obtain⟨k,hk⟩:=hx.choose_spec;rw[Y17 h]at hk;exact⟨k,hk⟩
 ·cases h
theorem iN{tb:En→M (Fw×En)}{env env1:En}{st st1 st2:Sto}{r:(Fw×En)×Sto}(h1:tc env st=some (true,st1))(h2:tb env st1=some ((.nx,env1),st2))(h3:oP tc tb env1 st2=some r):oP tc tb env st=some r:=by
 obtain⟨n,h3⟩:=Zj h3;exact Ke (n:=n+1) (by rw[Ck,aR h1,if_pos rfl,aR h2];exact h3)
theorem iG{tb:En→M (Fw×En)}{env:En}{st st1:Sto}(h1:tc env st=some (false,st1)):oP tc tb env st=some ((.nx,env),st1):=
 Ke (n:=1) (by rw[Ck,aR h1,if_neg (by decide)];rfl)
end
abbrev Its':=List D×(Sto→Prop)
def Fu(K:KW)(m0:List Addr)(H0:Hp)(J:It)(its:Its'):Prop:=∀(i:Nat) m H st,Stp m0 H0 m H→SR K m H st→its.2 st→
 (∀d,its.1[i]?=some d→J.go i H∧∀x H',J.yld i H x H'→SR K m H' st∧Stp m H m H'∧RV K m H' x d)∧(i=its.1.length→J.stop i H)
def LI(K:KW)(ti:En→M Its'):TI:=fun σ H R=>∃m env st its st',SR K m H st∧RE K m H σ env∧ti env st=some (its,st')∧∀J H' m',Stp m H m' H'→SR K m' H' st'→Fu K m' H' J its→R J H'
abbrev QI(X:Cx)(tg e:Expr)(ti:En→M Its'):Prop:=PI X tg e (LI X.kw ti)
def chars(x:Str):List D:=x.cps.toList.map fun c=>.s ⟨#[c]⟩
def yZ:D→M Its'
 |.t xs=>ret (xs,fun _=>True)
 |.k xs=>ret (xs,fun _=>True)
 |.f xs=>ret (xs,fun _=>True)
 |.r l=>bnd (getL l) fun xs=>ret (xs,fun st=>st[l]?=some (.l xs))
 |.s x=>ret (chars x,fun _=>True)
 |_=>bad
section
variable {K:KW}{m0:List Addr}{H0:Hp}{chk:Sto→Prop}{d:D}{t:En→M (List D)}{p:Pos}
variable{X:Cx}{pos:Pos}{tg a b:Expr}{ta tb:En→M D}
theorem Zk{a:Addr}{xs:List D}(h:∀m H st,Stp m0 H0 m H→SR K m H st→chk st→∃vs,fE K H a vs∧RVs K m H vs xs):Fu K m0 H0 (Itl K a) (xs,chk):=by
 intro i m H st p S c;obtain⟨vs,hs,r⟩:=h m H st p S c;refine⟨fun d hd=>?_,fun hi=>⟨vs,hs,by rw[r.1,hi];exact W11 _⟩⟩;obtain⟨v,hv,rv⟩:=r.at hd;refine⟨⟨vs,v,hs,hv⟩,fun x H' y=>?_⟩;obtain⟨rfl,y⟩:=y;have:=y vs hs;rw[hv]at this;cases this;exact⟨S,.refl,rv⟩
theorem Zl{a:Addr}{xs:List D}(h:∀m H st,Stp m0 H0 m H→SR K m H st→chk st→∃vs,gR K H a vs∧RVs K m H vs xs):Fu K m0 H0 (Itt K a) (xs,chk):=by
 intro i m H st p S c;obtain⟨vs,hs,r⟩:=h m H st p S c;refine⟨fun d hd=>?_,fun hi=>⟨vs,hs,by rw[r.1,hi];exact W11 _⟩⟩;obtain⟨v,hv,rv⟩:=r.at hd;refine⟨⟨vs,v,hs,hv⟩,fun x H' y=>?_⟩;obtain⟨rfl,y⟩:=y;have:=y vs hs;rw[hv]at this;cases this;exact⟨S,.refl,rv⟩
theorem Zm{its:Its'}{st st':Sto}(h:yZ d st=some (its,st')):st'=st:=by
 cases d with
 |r l=>obtain⟨xs,st1,e2,e3⟩:=aA h;obtain⟨_,rfl⟩:=cP e2;cases e3;rfl
 |_=>first|(cases h;rfl)|cases h
theorem Zn(ha:QE X a ta):QI X tg a (fun env=>bnd (ta env) yZ):=by
 refine nG (Us (Pa ha) (Us (Wf ha) (Xh ha))) ?_;rintro σ H R ⟨m,env,st,its,st',S,E,e,k⟩;obtain⟨x,st1,e1,e2⟩:=aA e;have hst:=Zm e2;subst hst
 by_cases hs:∃z,x=.s z
 ·obtain⟨z,rfl⟩:=hs;cases e2;refine .inr (.inr ⟨m,env,st,_,_,S,E,e1,fun v H' m' s S' r=>?_⟩);cases r;refine⟨z,rfl,k _ H' m' s S' ?_⟩;intro i m2 H2 st2 p2 S2 _;refine⟨fun d hd=>?_,fun hi=>?_⟩
  ·unfold chars at hd;rw[W14]at hd;obtain⟨c,hc,rfl⟩:=V13.mp hd;rw[W24]at hc;refine⟨(W25.mp hc).1,?_⟩;rintro x H3 ⟨rfl,c',h1,rfl⟩;rw[hc]at h1;cases h1;exact⟨S2,.refl,.s _⟩
  ·show z.cps.size≤i;rw[hi];simp[chars]
 ·have hs':∀z,x≠.s z:=fun z h=>hs ⟨z,h⟩;have pick:(∃xs,x=.t xs∨x=.k xs)∨(∃xs,x=.f xs)∨∃l,x=.r l:=by
   cases x with
   |t xs=>exact .inl ⟨xs,.inl rfl⟩
   |k xs=>exact .inl ⟨xs,.inr rfl⟩
   |f xs=>exact .inr (.inl ⟨xs,rfl⟩)
   |r l=>exact .inr (.inr ⟨l,rfl⟩)
   |s z=>exact absurd rfl (hs' z)
   |_=>cases e2
  rcases pick with⟨xs,hx⟩|hx
  ·refine .inr (.inl ⟨m,env,st,x,_,S,E,e1,fun v H' m' s S' r=>?_⟩);have hsq:∃p,v=.ref p∧∀m2 H2 st2,Stp m' H' m2 H2→SR X.kw m2 H2 st2→its.2 st2→∃vs,gR X.K H2 p vs∧RVs X.kw m2 H2 vs its.1:=by
    rcases hx with rfl|rfl
    ·cases e2;cases r with
     |t e l q=>exact⟨_,rfl,fun m H st p S _=>⟨_,gR.of (p.kt _ _ e rfl),RVs.stp ⟨l,q⟩ p⟩⟩
    ·cases e2;cases r with
     |k e l q=>exact⟨_,rfl,fun m H st p S _=>⟨_,e H,RVs.stp ⟨l,q⟩ p⟩⟩
   obtain⟨p,rfl,hp⟩:=hsq;obtain⟨vs,h1,h2⟩:=hp m' H' st' .refl S' (by rcases hx with rfl|rfl<;>(cases e2;trivial));exact⟨p,rfl,⟨vs,h1⟩,k _ H' m' s S' (Zl hp)⟩
  ·refine .inl ⟨m,env,st,x,_,S,E,e1,fun v H' m' s S' r=>?_⟩;have hsq:∃p,v=.ref p∧its.2 st'∧∀m2 H2 st2,Stp m' H' m2 H2→SR X.kw m2 H2 st2→its.2 st2→∃vs,fE X.K H2 p vs∧RVs X.kw m2 H2 vs its.1:=by
    rcases hx with⟨xs,rfl⟩|⟨l,rfl⟩
    ·cases e2;cases r with
     |f e l q=>exact⟨_,rfl,trivial,fun m H st p S _=>⟨_,(e.kp p.kt).sq,RVs.stp ⟨l,q⟩ p⟩⟩
    ·obtain⟨xs,st3,e3,e4⟩:=aA e2;obtain⟨h1,rfl⟩:=cP e3;cases e4;cases r with
     |r e=>
      refine⟨_,rfl,h1,fun m H st p S c=>?_⟩;obtain⟨vs,o,rr⟩:=S.cel l _ _ (p.pre _ _ e) c;exact⟨vs,fE.of o,rr⟩
   obtain⟨p,rfl,hc,hp⟩:=hsq;obtain⟨vs,h1,h2⟩:=hp m' H' st' .refl S' hc;exact⟨p,rfl,⟨vs,h1⟩,k _ H' m' s S' (Zk hp)⟩
def lV:List D→M Its'
 |[.i j]=>need (-(2^62)≤j∧j<2^62) (ret ((List.range j.toNat).map fun(k:Nat)=>D.i (0+(k:Int)),fun _=>True))
 |[.i i,.i j]=>need (-(2^62)≤i∧i<2^62∧-(2^62)≤j∧j<2^62) (ret ((List.range (j-i).toNat).map fun(k:Nat)=>D.i (i+(k:Int)),fun _=>True))
 |_=>bad
theorem Zo{lo:Int}{n:Nat}:Fu K m0 H0 (Itr lo n) ((List.range n).map fun(k:Nat)=>D.i (lo+(k:Int)),fun _=>True):=by
 intro i m H st p S c;refine⟨fun d hd=>?_,fun hi=>?_⟩
 ·rw[W14]at hd;obtain⟨j,hj,rfl⟩:=V13.mp hd;obtain⟨h1,h2⟩:=U10.mp hj;simp at h1 h2;subst h2;refine⟨h1,?_⟩;rintro x H' ⟨rfl,rfl⟩;exact⟨S,.refl,.i _⟩
 ·show n≤i;rw[hi];simp
theorem Fv(hg:Gl X "range")(hm:X.mg "range"=none)(ha:QA X [a] t)(hs:starEach [a] X.env=[(false,eval a X.env)]:=by rfl):QI X tg (.Call (.Name "range" p) [a] [] pos) (fun env=>bnd (t env) fun xs=>need (xs.length=1) (lV xs)):=by
 refine nG (Ek hg hm ha hs) ?_;rintro σ H R ⟨m,env,st,its,st',S,E,e,k⟩;obtain⟨xs,st1,e1,e2⟩:=aA e;obtain⟨hl,e2⟩:=bY e2
 match xs,hl,e1,e2 with
 |[.i j],_,e1,e2=>
  obtain⟨h,e2⟩:=bY e2;cases aD e2;refine⟨m,env,st,_,_,S,E,e1,fun vs H' m' s S' r=>?_⟩;obtain⟨v,rfl,rv⟩:=cL r;cases rv;exact⟨j,rfl,h.1,h.2,k _ H' m' s S' Zo⟩
def hV(xs:List D):List D:=(List.range xs.length).map fun(k:Nat)=>D.t [.i (k:Nat),xs.getD k .no]
theorem qT{xs:List D}{i:Nat}(h:(hV xs)[i]?=some d):∃x,xs[i]?=some x∧d=.t [.i (i:Nat),x]:=by
 unfold hV at h;rw[W14]at h;obtain⟨j,hj,rfl⟩:=V13.mp h;obtain⟨h1,h2⟩:=U10.mp hj;simp at h1 h2;subst h2;exact⟨xs[i],by simp[h1],by simp[W18,h1]⟩
def Cm:List D→M Its'
 |[.f xs]=>ret (hV xs,fun _=>True)
 |_=>bad
theorem Rp{a:Addr}{xs:List D}(h:∀m H st,Stp m0 H0 m H→SR K m H st→chk st→∃vs,fE K H a vs∧RVs K m H vs xs):Fu K m0 H0 (Itel K a) (hV xs,chk):=by
 intro i m H st p S c;obtain⟨vs,hs,r⟩:=h m H st p S c;refine⟨fun d hd=>?_,fun hi=>⟨vs,hs,by rw[hi,r.1];simp[hV]⟩⟩;obtain⟨x,hx,rfl⟩:=qT hd;obtain⟨v,hv,rv⟩:=r.at hx;refine⟨⟨vs,v,hs,hv⟩,?_⟩;rintro y H' ⟨T,z,rfl,hT,hz,rfl⟩;have:=hz vs hs;rw[hv]at this;cases this;obtain⟨S2,s2,r2⟩:=S.newT hT (.cons (.i _) (.cons rv .nil));exact⟨S2,s2,r2⟩
theorem Rq{es:List Expr}{kk:Nat}{tpos:Pos}(hg:Gl X "enumerate")(hm:X.mg "enumerate"=none)(ha:QA X [a] t)(hs:starEach [a] X.env=[(false,eval a X.env)]:=by rfl):
  QI X (.Tuple es kk tpos) (.Call (.Name "enumerate" p) [a] [] pos) (fun env=>bnd (t env) Cm):=by
 refine nG (Iq hg hm ha hs) ?_;rintro σ H R ⟨m,env,st,its,st',S,E,e,k⟩;obtain⟨xs,st1,e1,e2⟩:=aA e
 match xs,e1,e2 with
 |[.f xs],e1,e2=>
  cases aD e2;refine⟨m,env,st,_,_,S,E,e1,fun vs H' m' s S' r=>?_⟩;obtain⟨v,rfl,rv⟩:=cL r;cases rv with
  |f e l q=>exact⟨_,rfl,⟨_,e.sq⟩,k _ H' m' s S' (Rp fun m H st p S _=>⟨_,(e.kp p.kt).sq,RVs.stp ⟨l,q⟩ p⟩)⟩
end
open Classical in
def qU{α:Type}(c:Sto→Prop)(x:M α):M α:=fun st=>if c st then x st else none
theorem lF{α:Type}{c:Sto→Prop}{x:M α}{st:Sto}{r:α×Sto}(h:qU c x st=some r):c st∧x st=some r:=by
 unfold qU at h
 split at h
 ·exact⟨by assumption,h⟩
 ·cases h
theorem aS{α:Type}{c:Sto→Prop}{x:M α}{st:Sto}(h:c st):qU c x st=x st:=by unfold qU;rw[if_pos h]
def eK(c:Sto→Prop)(g:D→En→M En)(tb:En→M (Fw×En)):List D→En→M (Fw×En)
 |[],env=>qU c (ret (.nx,env))
 |x::xs,env=>qU c (bnd (g x env) fun env1=>bnd (tb env1) fun p=>match p.1 with
   |.nx=>eK c g tb xs p.2
   |.ct=>eK c g tb xs p.2
   |.bk=>ret (.nx,p.2)
   |.rt d=>ret (.rt d,p.2))
section
variable {K:KW}{m:List Addr}{tc:En→M Bool}{caps:List Nat}{bd:D→Sto→Option (List D)}{te:En→M D}
variable{X:Cx}{pos:Pos}{tg a b iter:Expr}{ti:En→M Its'}{g:D→En→M En}{s1:En→M (Fw×En)}
theorem Zp{body:List Stmt}(hp:PassesOwn (model X.prog X.w) X.A X.env X.xe)(hc:X.calm=true)(hi:QI X tg iter ti)(hg:QG X tg g)(hb:QSs X body s1)
  (hs:∀x,foldedSetIterable iter X.env x=pure x:=by intro _;rfl):QS X (.For tg iter body [] pos) (fun env=>bnd (ti env) fun its=>eK its.2 g s1 its.1 env):=by
 refine gG (Wg hp hc hi hg hb hs) ?_;rintro D σ H ⟨m,env,st,fl,env',st',S,E,e,k⟩;obtain⟨its,st1,e1,e2⟩:=aA e;refine⟨m,env,st,its,st1,S,E,e1,fun J H1 m1 p1 S1 O=>?_⟩;refine⟨fun i n σ2 H2=>∃m2 env2 st2,n=its.1.length-i∧i≤its.1.length∧SR X.kw m2 H2 st2∧RE X.kw m2 H2 σ2 env2∧eK its.2 g s1 (its.1.drop i) env2 st2=some ((fl,env'),st')∧Stp m1 H1 m2 H2,
  ⟨its.1.length,m1,env,st1,by simp,V24 _,S1,E.stp p1,e2,.refl⟩,?_⟩
 rintro i n σ2 H2 ⟨m2,env2,st2,rfl,hi,S2,E2,h2,p2⟩
 by_cases hlt:i<its.1.length
 ·have hd:its.1.drop i=its.1[i]::its.1.drop (i+1):=V21 hlt;rw[hd,eK]at h2;obtain⟨hc2,h2⟩:=lF h2;obtain⟨env3,st3,e3,e4⟩:=aA h2;obtain⟨⟨f1,env4⟩,st4,e5,e6⟩:=aA e4;obtain⟨O1,_⟩:=O i m2 H2 st2 p2 S2 hc2;obtain⟨go,yld⟩:=O1 its.1[i] (by simp[hlt]);refine .inr ⟨go,fun σ5 H5=>∃m2 env2 st2,SR X.kw m2 H5 st2∧RE X.kw m2 H5 σ5 env2∧eK its.2 g s1 (its.1.drop (i+1)) env2 st2=some ((fl,env'),st')∧Stp m1 H1 m2 H5,
   fun σ5 H5 ⟨m5,env5,st5,S5,E5,h5,p5⟩=>⟨its.1.length-(i+1),by omega,m5,env5,st5,rfl,hlt,S5,E5,h5,p5⟩,fun x H' hy=>?_⟩
  obtain⟨S3,p3,r3⟩:=yld x H' hy;refine⟨m2,env2,st2,its.1[i],env3,st3,S3,E2.stp p3,r3,e3,fun σ4 H4 m4 p4 S4 E4=>?_⟩;refine⟨m4,env3,st3,f1,env4,st4,S4,E4,e5,fun σ5 H5 m5 p5 S5 E5=>?_⟩;have pp:=((p2.trans p3).trans p4).trans p5;cases f1 with
  |nx=>exact⟨m5,env4,st4,S5,E5,e6,pp⟩
  |ct=>exact⟨m5,env4,st4,S5,E5,e6,pp⟩
  |bk=>cases aD e6;exact k σ5 H5 m5 (p1.trans pp) S5 E5
  |rt d=>cases aD e6;exact k σ5 H5 m5 (p1.trans pp) S5 E5
 ·have hi2:i=its.1.length:=by omega
  subst hi2;rw[List.drop_length,eK]at h2;obtain⟨hc2,h2⟩:=lF h2;cases aD h2;exact .inl ⟨(O _ m2 H2 _ p2 S2 hc2).2 rfl,k σ2 H2 m2 (p1.trans p2) S2 E2⟩
def iD(caps:List Nat)(env:En):En:=caps.map fun j=>(env[j]?).getD none
theorem RE.cap{H:Hp}{σ:St}{env:En}(h:RE K m H σ env)(caps:List Nat):RE K m H (dN caps σ) (iD caps env):=by
 unfold dN iD;refine⟨by simp,fun j d e=>?_⟩;rw[W14]at e;obtain⟨c,hc,e⟩:=V13.mp e;cases q:env[c]? with
 |none=>rw[q]at e;cases e
 |some o=>
  rw[q]at e;cases e;obtain⟨v,h1,h2⟩:=h.2 c d q;exact⟨v,by rw[W14,hc];simp[h1],h2⟩
theorem RE.app{H:Hp}{σ:St}{env:En}{vs:List V}{ds:List D}(h:RE K m H σ env)(r:RVs K m H vs ds):RE K m H (vs.map some++σ) (ds.map some++env):=by
 refine⟨by simp[r.1,h.1],fun j d e=>?_⟩
 by_cases hj:j<ds.length
 ·rw[Z17 (by simpa using hj),W14]at e;obtain⟨d',hd,e⟩:=V13.mp e;cases e;obtain⟨v,hv,rv⟩:=r.at hd;exact⟨v,by rw[Z17 (by simp[r.1,hj]),W14,hv];rfl,rv⟩
 ·rw[Y18 (by simp;omega)]at e;obtain⟨v,hv,rv⟩:=h.2 _ d e;refine⟨v,?_,rv⟩;rw[Y18 (by simp[r.1];omega)];simp only[U12,r.1]at hv⊢;exact hv
def aY(c:Sto→Prop)(bd:D→Sto→Option (List D))(tc:En→M Bool)(te:En→M D)(cap:En):List D→List D→M (List D)
 |[],acc=>qU c (ret acc)
 |x::xs,acc=>qU c fun st=>match bd x st with
  |some ds=>(bnd (tc (ds.map some++cap)) fun b=>if b=true then bnd (te (ds.map some++cap)) fun z=>aY c bd tc te cap xs (acc++[z]) else aY c bd tc te cap xs acc) st
  |none=>none
def Fx(K:KW)(k:Nat)(g:TG)(bd:D→Sto→Option (List D)):Prop:=∀m H st x d ds cs,SR K m H st→RV K m H x d→bd d st=some ds→∃vs:List V,vs.length=k∧RVs K m H vs ds∧g x (nones k++cs) H fun σ' H''=>σ'=vs.map some++cs∧H''=H
def bd1(d:D)(_:Sto):Option (List D):=some [d]
theorem Zq:Fx K 1 (oI 0) bd1:=by
 intro m H st x d ds cs S r h;cases h;exact⟨[x],rfl,.one r,rfl,rfl⟩
def Zr(n:Nat)(d:D)(st:Sto):Option (List D):=match eB st d with
 |some xs=>if xs.length=n then some xs else none
 |none=>none
theorem Kf{n:Nat}{d:D}{st:Sto}{ds:List D}(h:Zr n d st=some ds):eB st d=some ds∧ds.length=n:=by
 unfold Zr at h;cases q:eB st d with
 |none=>rw[q]at h;cases h
 |some xs=>
  rw[q]at h;dsimp only at h
  split at h
  ·cases h;exact⟨rfl,by assumption⟩
  ·cases h
def nI:Nat→Nat→TGs
 |_,0=>CV
 |i,n+1=>Ue (oI i) (nI (i+1) n)
theorem tO:∀{n i:Nat} {vs pre:List V} {cs:St} {H:Hp},vs.length=n→pre.length=i→nI i n vs (pre.map some++(nones n++cs)) H fun σ' H''=>σ'=(pre++vs).map some++cs∧H''=H
 |0,i,[],pre,cs,H,_,_=>⟨rfl,by simp[nones],rfl⟩
 |n+1,i,v::vs,pre,cs,H,hl,hp=>by
  refine⟨v,vs,rfl,?_⟩;have e:(pre.map some++(nones (n+1)++cs)).set i (some v)=(pre++[v]).map some++(nones n++cs):=by
   rw[Z35 _ _ (by simp[hp])];simp[hp,nones,List.replicate_succ]
  show nI (i+1) n vs ((pre.map some++(nones (n+1)++cs)).set i (some v)) H _;rw[e];have:=tO (n:=n) (i:=i+1) (vs:=vs) (pre:=pre++[v]) (cs:=cs) (H:=H) (by simpa using hl) (by simp[hp])
  simpa using this
theorem Zs{n:Nat}:Fx K n (fun v σ H Q=>CW K n (nI 0 n) v σ H Q∨Uk K n (nI 0 n) v σ H Q) (Zr n):=by
 intro m H st x d ds cs S r h;obtain⟨h1,h2⟩:=Kf h;obtain⟨a,vs,rfl,hs,rr⟩:=jD S r h1;have hl:vs.length=n:=by rw[rr.1];exact h2
 have body:=tO (n:=n) (i:=0) (vs:=vs) (pre:=[]) (cs:=cs) (H:=H) hl rfl;refine⟨vs,hl,rr,?_⟩;rcases hs with hs|hs
 ·exact .inr ⟨a,vs,rfl,hs,hl,by simpa using body⟩
 ·exact .inl ⟨a,vs,rfl,hs,hl,by simpa using body⟩
abbrev QF(X:Cx)(ifs:List Expr)(tc:En→M Bool):Prop:=PF X ifs (LT X.kw tc)
theorem Zt:QF X [] (fun _=>ret true):=by
 intro pins s σ H Q I h;obtain⟨m,env,st,d,st',S,E,e,k⟩:=h;cases aD e;exact Xj pins s σ H Q I (k H m .refl S)
theorem Zu{c:Expr}(h:QT X c tc):QF X [c] tc:=Xk h
theorem tP{k:Nat}{g:TG}(hbd:Fx K k g bd){σ:St}{H:Hp}{Q:VK}
  (h:LE K (fun env=>bnd (ti env) fun its=>need (its.1.length<sizeLine) (bnd (aY its.2 bd tc te (iD caps env) its.1 []) fun zs=>fun st=>some (.r st.length,st++[.l zs]))) σ H Q):uX k caps (LI K ti) g (LT K tc) (LE K te) σ H Q:=by
 obtain⟨m,env,st,d,st',S,E,e,kk⟩:=h;obtain⟨its,st1,e1,e2⟩:=aA e;obtain⟨hlen,e2⟩:=bY e2;obtain⟨zs,st2,e3,e4⟩:=aA e2;cases e4;refine⟨m,env,st,its,st1,S,E,e1,fun J H1 m1 p1 S1 O=>?_⟩;refine⟨its.1.length,fun i ws H2=>∃m2 st3 acc,i≤its.1.length∧SR K m2 H2 st3∧RVs K m2 H2 ws acc∧aY its.2 bd tc te (iD caps env) (its.1.drop i) acc st3=some (zs,st2)∧Stp m1 H1 m2 H2,hlen,
  ⟨m1,st1,[],V24 _,S1,.nil,e3,.refl⟩,?_⟩
 rintro i ws H2 ⟨m2,st3,acc,hi,S2,rw,h2,p2⟩
 by_cases hlt:i<its.1.length
 ·have hd:its.1.drop i=its.1[i]::its.1.drop (i+1):=V21 hlt;rw[hd,aY]at h2;obtain⟨hc2,h2⟩:=lF h2;cases q:bd its.1[i] st3 with
  |none=>rw[q]at h2;cases h2
  |some ds=>
   rw[q]at h2;obtain⟨b,st4,e5,e6⟩:=aA h2;obtain⟨O1,_⟩:=O i m2 H2 st3 p2 S2 hc2;obtain⟨go,yld⟩:=O1 its.1[i] (by simp[hlt]);refine .inr ⟨go,hlt,fun x H' hy=>?_⟩;obtain⟨S3,p3,r3⟩:=yld x H' hy;obtain⟨vs,hvl,rvs,hg⟩:=hbd m2 H' st3 x its.1[i] ds (dN caps σ) S3 r3 q;have E3:RE K m2 H' (vs.map some++dN caps σ) (ds.map some++iD caps env):=(((E.stp p1).stp (p2.trans p3)).cap caps).app rvs;refine⟨vs,hvl,hg,m2,_,st3,b,st4,S3,E3,e5,fun H4 m4 p4 S4=>?_⟩;cases b with
   |false=>
    rw[if_neg (by decide)]at e6⊢;exact⟨m4,st4,acc,hlt,S4,rw.stp (p3.trans p4),e6,(p2.trans p3).trans p4⟩
   |true=>
    rw[if_pos rfl]at e6⊢;obtain⟨z,st5,e7,e8⟩:=aA e6;exact⟨m4,_,st4,z,st5,S4,E3.stp p4,e7,fun v5 H5 m5 p5 S5 r5=>⟨m5,st5,acc++[z],hlt,S5,(rw.stp ((p3.trans p4).trans p5)).append (.one r5),e8,((p2.trans p3).trans p4).trans p5⟩⟩
 ·have hi2:i=its.1.length:=by omega
  subst hi2;rw[List.drop_length,aY]at h2;obtain⟨hc2,h2⟩:=lF h2;cases aD h2;refine .inl ⟨(O _ m2 H2 _ p2 S2 hc2).2 rfl,fun p hp=>?_⟩;obtain⟨S3,p3,r3⟩:=S2.newL hp rw;exact kk _ _ _ ((p1.trans p2).trans p3) S3 r3
theorem Rr{elt:Expr}{ifs:List Expr}{x:Str}{xs:List Str}{scope:Scope}{cl:List (Str×Addr)}{cn:List Str}{g:TG}
  (hbd:Fx X.kw xs.length g bd)(hc:X.calm=true)(hi:QI X tg iter ti)(cp:Caps X scope x cl cn caps)(hg:∀C ex s H,PG (aZ X (xs++cn) scope cl C ex s H) tg g)(hif:∀C ex s H,QF (aZ X (xs++cn) scope cl C ex s H) ifs tc)
  (he:∀C ex s H,QE (aZ X (xs++cn) scope cl C ex s H) elt te)
  (hs:∀x,foldedSetIterable iter X.env x=pure x:=by intro _;rfl):
  QE X (.ListComp elt [⟨tg,iter,ifs,0⟩] scope pos) (fun env=>bnd (ti env) fun its=>need (its.1.length<sizeLine) (bnd (aY its.2 bd tc te (iD caps env) its.1 []) fun zs=>fun st=>some (.r st.length,st++[.l zs]))):=
 bK (Ip hc hi cp hg hif he hs) fun _ _ _ h=>tP hbd h
end
noncomputable def aL(n p:Nat)(ts:En→M (Fw×En))(ds:List D):M D:=fun st=>if ds.length=p then match ts (ds.map some++List.replicate (n-p) none) st with
 |some ((.rt d,_),st')=>some (d,st')
 |some ((.nx,_),st')=>some (.no,st')
 |_=>none else none
theorem tQ{n p:Nat}{ts:En→M (Fw×En)}{ds:List D}{st st':Sto}{d:D}(h:aL n p ts ds st=some (d,st')):ds.length=p∧∃fl env',ts (ds.map some++List.replicate (n-p) none) st=some ((fl,env'),st')∧(fl=.rt d∨fl=.nx∧d=.no):=by
 unfold aL at h
 split at h
 ·rename_i hl;refine⟨hl,?_⟩
  split at h
  ·rename_i q;cases h;exact⟨_,_,q,.inl rfl⟩
  ·rename_i q;cases h;exact⟨_,_,q,.inr ⟨rfl,rfl⟩⟩
  ·cases h
 ·cases h
section
variable{P:Program}{w:World}{K:Fg9}{mg:Str→Option Value}{base:Heap}
theorem IU{x qual:Str}{st:Stmt}{f:Addr}{fd:FuncData}{N ps:List Str}{k:Nat}{ts:En→M (Fw×En)}(F:Fun K x qual st f fd)(S:FnScope N ps (defScope st))
  (hbody:∀(cdv:Value) (A:Around) (outer:List Env) (s:Shared) (H:Hp) (E:XK),Room k (A.deeper (envOfC qual (defScope st) s.heap.objs.size f cdv))→
   QSs (zH CX0 P w K mg base N qual (defScope st) f cdv A outer s H E).nox (defBody st) ts):FnOk P w K mg base CX0 (k+1) f fd ps (LF ⟨K,P,w⟩ (aL N.length ps.length ts)):=by
 refine F.ok S (fun vs H Q E h=>?_) fun cdv A outer s H vs Q E hr h=>?_
 ·obtain⟨m,st,ds,d,st',S,r,e,k⟩:=h;rw[r.1];exact(tQ e).1
 ·obtain⟨m,st0,ds,d,st',S0,r,e,k⟩:=h;obtain⟨hl,fl,env',e1,hf⟩:=tQ e;refine⟨_,hbody cdv A outer s H E hr,m,_,st0,fl,env',st',S0,?_,e1,fun σ' H' m' p S' E'=>?_⟩
  ·have e0:RE ⟨K,P,w⟩ m H (List.replicate (N.length-ps.length) none) (List.replicate (N.length-ps.length) none):=⟨by simp,fun j d e=>by
    rw[Z32]at e;split at e<;>cases e⟩
   have:=e0.app r;unfold start;rw[r.1,hl];exact this
  ·rcases hf with rfl|⟨rfl,rfl⟩
   ·exact fun v rv=>k v H' m' p S' rv
   ·exact k .non H' m' p S' .no
end
section
variable {i:Nat}{y x:Str}{ifs:List Expr}{xs cn:List Str}{pos:Pos}{scope:Scope}{cl:List (Str×Addr)}{caps:List Nat}{g:TG}
variable{X:Cx}
theorem Kg{py spos:Pos}{elt iter tg:Expr}{wi:TI}{tc:TT}{te:TE}
  (hN:X.N.Nodup)(hi':X.N[i]?=some y)(hy:Loc X.env.scope y)
  (hc:X.calm=true)(hi:PI X tg iter wi)(cp:Caps X scope x cl cn caps)(hg:∀C ex s H,PG (aZ X (xs++cn) scope cl C ex s H) tg g)(hif:∀C ex s H,PF (aZ X (xs++cn) scope cl C ex s H) ifs tc)
  (he:∀C ex s H,PE (aZ X (xs++cn) scope cl C ex s H) elt te)
  (hsw:swapsWith (.ListComp elt [⟨tg,iter,ifs,0⟩] scope pos) (some (.Name y py)) spos.line X.env=pure true:=by rfl)
  (hs:∀x,foldedSetIterable iter X.env x=pure x:=by intro _;rfl)(hf:X.fn y=true∨X.env.scope.names.lookup y=some .local):
  PS X (.Assign [.Name y py] (.ListComp elt [⟨tg,iter,ifs,0⟩] scope pos) spos) (Wa (uX xs.length caps wi g tc te) (oI i)):=by
 intro pins s σ H Dn I h;rw[exec_Assign_Name_used _ _ _ _ hsw];refine Y10 (U43 (Y10 ?_));show wpAny _ X.A (do let _ ←comprehension (.ListComp elt [⟨tg,iter,ifs,0⟩] scope pos) scope X.env _ (newList []) false (eval iter X.env) (some (assign (.Name y py) X.env))) _ _ s;refine Y10 (Z27 (tD (use:=some (assign (.Name y py) X.env)) (R:=fun _ s'=>SP X pins Dn .next s') hc hi cp hg hif he hs I h _ fun s4 H3 D C ⟨m,hm⟩ J nCD lC bC cC pC q=>?_) (fun _ s' hq=>Z10 (Z10 hq)) fun _ _ e=>e);have fin1:Inv X pins σ H3 s4:=J s4.heap (Heap.SameBut.refl _ _);show wpAny _ X.A (assign (.Name y py) X.env (.ref D)) _ _ s4;refine wpAny_assign_Name (sS fin1 hN hi' hy (v:=.ref D) (u:=.ref D) rfl (fun s' I' ⟨a,sb,ha⟩=>?_) hf);have aC:a≠C:=by
  rcases ha with rfl|ha
  ·exact Ne.symm lC
  ·exact cC _ _ ha
 refine⟨m,hm.sameBut sb (Ne.symm aC),fun h5 hs5=>⟨_,_,?_,q⟩⟩;exact Inv.turned (t':=s'.toks) I' (fun b o hb e=>hs5.extBut b o hb e) nCD lC (.inr bC) cC pC
theorem Rt{py spos:Pos}{elt tg iter:Expr}{bd:D→Sto→Option (List D)}{ti:En→M Its'}{tc:En→M Bool}{te:En→M D}
  (hbd:Fx X.kw xs.length g bd)(hN:X.N.Nodup)(hi':X.N[i]?=some y)(hy:Loc X.env.scope y)(hc:X.calm=true)(hi:QI X tg iter ti)(cp:Caps X scope x cl cn caps)(hg:∀C ex s H,PG (aZ X (xs++cn) scope cl C ex s H) tg g)(hif:∀C ex s H,QF (aZ X (xs++cn) scope cl C ex s H) ifs tc)
  (he:∀C ex s H,QE (aZ X (xs++cn) scope cl C ex s H) elt te)
  (hsw:swapsWith (.ListComp elt [⟨tg,iter,ifs,0⟩] scope pos) (some (.Name y py)) spos.line X.env=pure true:=by rfl)
  (hs:∀x,foldedSetIterable iter X.env x=pure x:=by intro _;rfl)(hf:X.fn y=true∨X.env.scope.names.lookup y=some .local):
  QS X (.Assign [.Name y py] (.ListComp elt [⟨tg,iter,ifs,0⟩] scope pos) spos) (fun env=>bnd ((fun env=>bnd (ti env) fun its=>need (its.1.length<sizeLine) (bnd (aY its.2 bd tc te (iD caps env) its.1 []) fun zs=>fun st=>some (.r st.length,st++[.l zs]))) env) fun d=>bnd (Rf i d env) fun env'=>ret (.nx,env')):=by
 refine gG (Kg (i:=i) (tc:=LT X.kw tc) (te:=LE X.kw te) hN hi' hy hc hi cp hg hif he hsw hs hf) fun D σ H h=>?_;have h2:=qS h;refine tP hbd ?_;obtain⟨m,env,st,d,st',S,E,e,k⟩:=h2;refine⟨m,env,st,d,st',S,E,e,fun v H' m' s S' r=>?_⟩;obtain⟨m1,env1,st1,d1,env',st2,S1,E1,r1,e1,k1⟩:=k v H' m' s S' r;cases aD e1;exact k1 _ H' m1 .refl S1 (E1.set r1)
end
def eV(i:Nat):En→M D:=vD i
def eC(d:D):En→M D:=fun _=>ret d
def aT(f:D→D→M D)(a b:En→M D):En→M D:=fun env=>bnd (a env) fun x=>bnd (b env) fun y=>f x y
def eA(f:D→D→M D)(a b:En→M D):En→M Bool:=fun env=>bnd (aT f a b env) Cg
def gE(a:En→M D):En→M Bool:=fun env=>bnd (a env) kC
def Ru(c d:En→M Bool):En→M Bool:=fun env=>bnd (c env) fun x=>if x=true then d env else ret false
def Cn(c d:En→M Bool):En→M Bool:=fun env=>bnd (c env) fun x=>if x=true then ret true else d env
def sM(c:En→M Bool):En→M Bool:=fun env=>bnd (c env) fun x=>ret (!x)
def Co(a b:En→M D):En→M D:=fun env=>bnd (bnd (a env) Cg) fun x=>if x=true then b env else ret (.b false)
def HE(a b:En→M D):En→M D:=fun env=>bnd (bnd (a env) Cg) fun x=>if x=true then ret (.b true) else b env
def IV(a:En→M D):En→M D:=fun env=>bnd (bnd (a env) Cg) fun x=>ret (.b (!x))
def Og(c:En→M Bool)(a b:En→M D):En→M D:=fun env=>bnd (c env) fun x=>if x=true then a env else b env
def Fy(f:D→M D)(a:En→M D):En→M D:=fun env=>bnd (a env) f
def aN:En→M (List D):=fun _=>ret []
def aC(a:En→M D)(t:En→M (List D)):En→M (List D):=fun env=>bnd (a env) fun x=>bnd (t env) fun xs=>ret (x::xs)
def eT(t:En→M (List D)):En→M D:=fun env=>bnd (t env) fun xs=>need (xs.length≤sizeLine) (ret (.t xs))
def eL(t:En→M (List D)):En→M D:=fun env=>bnd (t env) newL
def aM(g:List D→M D)(t:En→M (List D)):En→M D:=fun env=>bnd (t env) g
def bL(a b:En→M D):En→M D:=fun env=>bnd (a env) fun x=>bnd (b env) fun y=>jO x y
def oN:En→M (Option Int):=fun _=>ret none
def oS(a:En→M D):En→M (Option Int):=fun env=>bnd (a env) fun x=>bnd (FD x) fun n=>ret (some n)
def vK(a:En→M D)(l h:En→M (Option Int)):En→M D:=fun env=>bnd (a env) fun x=>bnd (l env) fun l=>bnd (h env) fun h=>Qz x l h
def rX(T:String)(f:D→List D→M D)(o:En→M D)(t:En→M (List D)):En→M D:=fun env=>bnd (o env) fun x=>bnd (dO T x) fun _=>bnd (t env) fun xs=>f x xs
def Hg(T:String)(f:D→List D→M D)(o:En→M D):En→M D:=fun env=>bnd (o env) fun x=>bnd (dO T x) fun _=>f x []
def IW(o a b:En→M D):En→M D:=fun env=>bnd (o env) fun x=>bnd (dO "dict" x) fun _=>bnd (a env) fun y=>bnd (b env) fun z=>xV x y z
def Kh(zs:List D):M D:=fun st=>some (.r st.length,st++[.l zs])
def wQ(caps:List Nat)(ti:En→M Its')(bd:D→Sto→Option (List D))(tc:En→M Bool)(te:En→M D):En→M D:=fun env=>bnd (ti env) fun its=>need (its.1.length<sizeLine) (bnd (aY its.2 bd tc te (iD caps env) its.1 []) Kh)
def gN(i:Nat):D→En→M En:=Rf i
def qV:List D→En→M En:=fun ds env=>match ds with
 |[]=>ret env
 |_=>bad
def gU(g:D→En→M En)(gs:List D→En→M En):List D→En→M En:=fun ds env=>match ds with
 |d::ds=>bnd (g d env) fun env'=>gs ds env'
 |[]=>bad
def gT(n:Nat)(gs:List D→En→M En):D→En→M En:=unp n gs
def gS(a b:En→M D):D→En→M En:=fun d env=>bnd (a env) fun x=>bnd (b env) fun y=>bnd (qR x y d) fun _=>ret env
abbrev Sm':=En→M (Fw×En)
def sN:Sm':=fun env=>ret (.nx,env)
def sE(a:En→M D):Sm':=fun env=>bnd (a env) fun _=>ret (.nx,env)
def sR(a:En→M D):Sm':=fun env=>bnd (a env) fun d=>ret (.rt d,env)
def FH:Sm':=fun env=>ret (.rt .no,env)
def sI(c:En→M Bool)(s1 s2:Sm'):Sm':=fun env=>bnd (c env) fun b=>if b=true then s1 env else s2 env
def sA(a:En→M D)(g:D→En→M En):Sm':=fun env=>bnd (a env) fun d=>bnd (g d env) fun env'=>ret (.nx,env')
def sG(f:D→D→M D)(i:Nat)(a:En→M D):Sm':=fun env=>bnd (vD i env) fun x=>bnd (a env) fun y=>bnd (f x y) fun z=>ret (.nx,env.set i (some z))
def sW(c:En→M Bool)(s:Sm'):Sm':=oP c s
def sF(ti:En→M Its')(g:D→En→M En)(s:Sm'):Sm':=fun env=>bnd (ti env) fun its=>eK its.2 g s its.1 env
def iS(a:En→M D):En→M Its':=fun env=>bnd (a env) yZ
def Rv(t:En→M (List D)):En→M Its':=fun env=>bnd (t env) fun xs=>need (xs.length=1) (lV xs)
def IX(t:En→M (List D)):En→M Its':=fun env=>bnd (t env) Cm
section
variable{X:Cx}{pos:Pos}{a b c:Expr}{ta tb:En→M D}{tc td:En→M Bool}{s1 s2:Sm'}
def nJ:List ((En→M D)×(En→M D))→En→M (List (D×D))
 |[],_=>ret []
 |p::r,env=>bnd (p.1 env) fun x=>bnd (p.2 env) fun y=>bnd (nJ r env) fun qs=>ret ((x,y)::qs)
def nK(kvs:List (Key×D)):List (Key×D):=kvs.foldl (fun acc kv=>putD acc kv.1 kv.2) []
def keyed:List (D×D)→Option (List (Key×D))
 |[]=>some []
 |p::r=>match Fm p.1,keyed r with
  |some k,some kvs=>some ((k,p.2)::kvs)
  |_,_=>none
def Rw(ps:List ((En→M D)×(En→M D))):En→M D:=fun env st=>match nJ ps env (st++[.d []]) with
 |some (qs,st2)=>match dcc st2 st.length,keyed qs with
  |some [],some kvs=>if kvs.length≤15 then some (.r st.length,st2.set st.length (.d (nK kvs))) else none
  |_,_=>none
 |none=>none
def PRs(K:KW)(m:List Addr)(H:Hp)(vs:List (V×V))(ds:List (D×D)):Prop:=RVs K m H (vs.map (·.1)) (ds.map (·.1))∧RVs K m H (vs.map (·.2)) (ds.map (·.2))
theorem qW{K:KW}:∀(ps:List ((En→M D)×(En→M D))) {σ:St} {H:Hp} {Q:List (V×V)→Hp→Prop} {m:List Addr} {env:En} {st st':Sto} {qs:List (D×D)},SR K m H st→RE K m H σ env→nJ ps env st=some (qs,st')→
  (∀vs H' m',Stp m H m' H'→SR K m' H' st'→PRs K m' H' vs qs→Q vs H')→uY (ps.map fun p=>(LE K p.1,LE K p.2)) σ H Q
 |[],σ,H,Q,m,env,st,st',qs,S,E,e,k=>by cases aD e;exact k [] H m .refl S ⟨.nil,.nil⟩
 |p::r,σ,H,Q,m,env,st,st',qs,S,E,e,k=>by
  obtain⟨x,st1,e1,e2⟩:=aA e;obtain⟨y,st2,e3,e4⟩:=aA e2;obtain⟨qs',st3,e5,e6⟩:=aA e4;cases aD e6;refine⟨m,env,st,x,st1,S,E,e1,fun v1 H1 m1 s1 S1 r1=>⟨m1,env,st1,y,st2,S1,E.stp s1,e3,fun v2 H2 m2 s2 S2 r2=>?_⟩⟩;refine qW r S2 ((E.stp s1).stp s2) e5 fun vs H' m' s3 S3 pr=>k _ H' m' ((s1.trans s2).trans s3) S3 ⟨?_,?_⟩
  ·exact .cons ((r1.stp s2).stp s3) pr.1
  ·exact .cons (r2.stp s3) pr.2
theorem xX{K:KW}{m:List Addr}{H:Hp}:∀{vs:List (V×V)} {qs:List (D×D)} {kvs:List (Key×D)},PRs K m H vs qs→keyed qs=some kvs→
  ∃kws:List (Key×V),vs=kws.map (fun kv=>(kV kv.1,kv.2))∧kws.map (·.1)=kvs.map (·.1)∧RVs K m H (kws.map (·.2)) (kvs.map (·.2))
 |[],[],kvs,_,h=>by cases h;exact⟨[],rfl,rfl,.nil⟩
 |v::vs,q::qs,kvs,pr,h=>by
  rw[keyed]at h;cases q1:Fm q.1 with
  |none=>rw[q1]at h;cases h
  |some k=>
   cases q2:keyed qs with
   |none=>rw[q1,q2]at h;cases h
   |some kvs'=>
    rw[q1,q2]at h;cases h;have p1:RVs K m H (vs.map (·.1)) (qs.map (·.1)):=⟨by have:=pr.1.1;simpa using this,fun i v' d' e1 e2=>pr.1.2 (i+1) v' d' (by simpa using e1) (by simpa using e2)⟩;have p2:RVs K m H (vs.map (·.2)) (qs.map (·.2)):=⟨by have:=pr.2.1;simpa using this,fun i v' d' e1 e2=>pr.2.2 (i+1) v' d' (by simpa using e1) (by simpa using e2)⟩;obtain⟨kws,h1,h2,h3⟩:=xX ⟨p1,p2⟩ q2;have e1:=pI (pr.1.2 0 v.1 q.1 rfl rfl) q1;refine⟨(k,v.2)::kws,by rw[Z12,←h1,←e1],by rw[Z12,Z12,h2],?_⟩;rw[Z12,Z12];exact .cons (pr.2.2 0 v.2 q.2 rfl rfl) h3
 |[],q::qs,_,pr,_=>by have:=pr.1.1;simp at this
 |v::vs,[],_,pr,_=>by have:=pr.1.1;simp at this
theorem xY{K:KW}{m:List Addr}{H:Hp}:∀{kws:List (Key×V)} {kvs:List (Key×D)} {aw:List (Key×V)} {av:List (Key×D)},kws.map (·.1)=kvs.map (·.1)→RVs K m H (kws.map (·.2)) (kvs.map (·.2))→aw.map (·.1)=av.map (·.1)→RVs K m H (aw.map (·.2)) (av.map (·.2))→
  (kB aw kws).map (·.1)=(kvs.foldl (fun acc kv=>putD acc kv.1 kv.2) av).map (·.1)∧RVs K m H ((kB aw kws).map (·.2)) ((kvs.foldl (fun acc kv=>putD acc kv.1 kv.2) av).map (·.2))
 |[],[],aw,av,_,_,h,r=>⟨h,r⟩
 |p::kws,q::kvs,aw,av,h,r,h',r'=>by
  simp only[Z12,V35]at h;have r0:=r.2 0 p.2 q.2 rfl rfl;have r1:RVs K m H (kws.map (·.2)) (kvs.map (·.2)):=⟨by have:=r.1;simpa using this,fun i v' d' e1 e2=>r.2 (i+1) v' d' (by simpa using e1) (by simpa using e2)⟩;obtain⟨pk,pv⟩:=p;obtain⟨qk,qv⟩:=q;obtain⟨rfl,h2⟩:=h;obtain⟨g1,g2⟩:=Ri (k:=pk) h' r' r0;exact xY (kws:=kws) (kvs:=kvs) h2 r1 g1 g2
 |[],q::kvs,_,_,h,_,_,_=>by cases h
 |p::kws,[],_,_,h,_,_,_=>by cases h
theorem FI{keys:List (Option Expr)}{values:List Expr}{ps:List ((En→M D)×(En→M D))}(h:PPs X pos keys values (ps.map fun p=>(LE X.kw p.1,LE X.kw p.2)))(hall:keys.all (·.isSome)=true)(hl:keys.length=values.length)(h0:keys≠[])
  (h15:keys.length≤15):QE X (.Dict keys values pos) (Rw ps):=by
 refine bK (Qk h hall hl h0 h15) ?_;rintro σ H Q ⟨m,env,st,d,st',S,E,e,k⟩ p hp;obtain⟨S1,s1⟩:=S.new (o:=.dK []) (c:=.d []) hp fun _=>⟨[],bO,rfl,.nil⟩;unfold Rw at e;cases q0:nJ ps env (st++[.d []]) with
 |none=>rw[q0]at e;cases e
 |some r=>
  obtain⟨qs,st2⟩:=r;rw[q0]at e;dsimp only at e;cases q1:dcc st2 st.length with
  |none=>rw[q1]at e;cases e
  |some dk=>
   cases dk with
   |cons=>rw[q1]at e;cases e
   |nil=>
    cases q2:keyed qs with
    |none=>rw[q1,q2]at e;cases e
    |some kvs=>
     rw[q1,q2]at e;dsimp only at e
     split at e
     ·rename_i h15';cases e;refine qW ps S1 (E.stp s1) q0 fun vs H2 m2 s2 S2 pr=>?_;have hm:m2[st.length]?=some p:=s2.pre _ _ (by rw[←S.len];simp);obtain⟨kw0,o0,hk0,_⟩:=S2.cel st.length p _ hm (qP q1);have hkw:kw0=[]:=by cases kw0 with
       |nil=>rfl
       |cons=>cases hk0
      subst hkw;obtain⟨kws,rfl,g1,g2⟩:=xX pr q2;refine⟨o0,kws,rfl,by have:=congrArg List.length g1;simp at this;lia,?_⟩;obtain⟨f1,f2⟩:=xY (aw:=[]) (av:=[]) g1 g2 rfl .nil;obtain⟨S3,s3⟩:=S2.put (o':=.dK (kB [] kws)) (c:=.d (nK kvs)) hm o0 rfl fun q=>⟨_,bO,f1,f2.stp q⟩;exact k _ _ _ ((s1.trans s2).trans s3) S3 (.r (s3.pre _ _ hm))
     ·cases e
end
theorem Ki{P:Program}{w:World}{K:Fg9}{mg:Str→Option Value}{base:Heap}{CX:CXT}{k:Nat}{f:Addr}{fd:FuncData}{ps:List Str}:FnOk P w K mg base CX k f fd ps (LF ⟨K,P,w⟩ fun _=>bad):=
 ⟨(fun _ _ _ _ ⟨_,_,_,_,_,_,_,e,_⟩=>by cases e),fun _ _ _ _ _ _ _ _ _ _ _ _ _ ⟨_,_,_,_,_,_,_,e,_⟩=>by cases e⟩
theorem hu1{A:Around}{k:Nat}(hr:Room k A):A.units+1<cLine:=DW hr
theorem hu60'{A:Around}{k:Nat}(hr:Room k A):A.units+900<cLine:=by have:=hr.un;lia
structure Def (K:Fg9) (mg:Str→Option Value) (x:Str) (st:Stmt) (ps:List Str) (f:Addr) (fd:FuncData):Prop where
 F:Fun K x x st f fd
 b:Binds K fd ps []
 m:mg x=some (.ref f)
 k:PySem.W.keepIn K (.ref f)=true
section
variable {st:Sto}{p:Prop}
variable{α β:Type}
abbrev R3(_:α→M β):Type:=Option (β×Sto)
abbrev R1(_:M α):Type:=Option (α×Sto)
abbrev R2'(_ _:M α):Type:=Option (α×Sto)
abbrev RQ(_:Sm'):Type:=Option ((Fw×En)×Sto)
noncomputable def b3(r:Option (α×Sto))(f:α→M β):R3 f:=match r with
 |some (a,st')=>f a st'
 |none=>none
@[simp] theorem mQ{a:α}{f:α→M β}:b3 (some (a,st)) f=f a st:=rfl
@[simp] theorem b3_none{f:α→M β}:b3 none f=none:=rfl
@[simp] theorem hW{x:M α}{f:α→M β}:bnd x f st=b3 (x st) f:=rfl
@[simp] theorem ret_ap{a:α}:L2.ret a st=some (a,st):=rfl
@[simp] theorem bad_ap:(bad:M α) st=none:=rfl
def n3(p:Prop)[Decidable p](x:M α)(st:Sto):R1 x:=@ite _ p (Classical.propDecidable p) (x st) none
@[simp] theorem n3_true{x:M α}:n3 True x st=x st:=if_pos trivial
theorem aF[Decidable p]{x:M α}(h:p):n3 p x st=x st:=if_pos h
@[simp] theorem need_ap[Decidable p]{x:M α}:need p x st=n3 p x st:=rfl
def c3(b:Bool)(x y:M α)(st:Sto):R2' x y:=if b=true then x st else y st
@[simp] theorem Bp{x y:M α}:c3 true x y st=x st:=rfl
@[simp] theorem wU{x y:M α}:c3 false x y st=y st:=rfl
end
def q3(r:Option ((Fw×En)×Sto))(s2:Sm'):RQ s2:=match r with
 |some ((.nx,e),st)=>s2 e st
 |some ((.bk,e),st)=>some ((.bk,e),st)
 |some ((.ct,e),st)=>some ((.ct,e),st)
 |some ((.rt d,e),st)=>some ((.rt d,e),st)
 |none=>none
section
variable {ds:List D}{o:D}{o1 o2 o3 o4 o5 o6 o7 o8 o9 o10 o11:Option D}{T:String}{ti:En→M Its'}{gs:List D→En→M En}{l:Nat}{α:Type}
variable{env:En}{st:Sto}{d x y:D}{a b:En→M D}{c e:En→M Bool}{s1 s2:Sm'}{f:D→D→M D}{t:En→M (List D)}{g:List D→M D}{i n:Nat}
@[simp] theorem q3_nx:q3 (some ((.nx,env),st)) s2=s2 env st:=rfl
@[simp] theorem q3_bk:q3 (some ((.bk,env),st)) s2=some ((.bk,env),st):=rfl
@[simp] theorem q3_ct:q3 (some ((.ct,env),st)) s2=some ((.ct,env),st):=rfl
@[simp] theorem q3_rt:q3 (some ((.rt d,env),st)) s2=some ((.rt d,env),st):=rfl
@[simp] theorem q3_none:q3 none s2=none:=rfl
@[simp] theorem seqS_ap:aE s1 s2 env st=q3 (s1 env st) s2:=by
 unfold aE;rw[hW];cases h:s1 env st with
 |none=>rfl
 |some r=>
  obtain⟨⟨fl,e⟩,st'⟩:=r;cases fl<;>rfl
def f3(r:Option ((Fw×En)×Sto)):Option (D×Sto):=match r with
 |some ((.rt d,_),st')=>some (d,st')
 |some ((.nx,_),st')=>some (.no,st')
 |_=>none
@[simp] theorem f3_rt:f3 (some ((.rt d,env),st))=some (d,st):=rfl
@[simp] theorem f3_nx:f3 (some ((.nx,env),st))=some (.no,st):=rfl
@[simp] theorem runF_ap{p:Nat}{ts:Sm'}(h:ds.length=p):aL n p ts ds st=f3 (ts (ds.map some++List.replicate (n-p) none) st):=by
 unfold aL f3;rw[if_pos h]
 try rfl
@[simp] theorem Zv:eV 0 (some o::env) st=some (o,st):=rfl
@[simp] theorem Zw:eV 1 (o1::some o::env) st=some (o,st):=rfl
@[simp] theorem eV_2:eV 2 (o1::o2::some o::env) st=some (o,st):=rfl
@[simp] theorem eV_3:eV 3 (o1::o2::o3::some o::env) st=some (o,st):=rfl
@[simp] theorem eV_4:eV 4 (o1::o2::o3::o4::some o::env) st=some (o,st):=rfl
@[simp] theorem eV_5:eV 5 (o1::o2::o3::o4::o5::some o::env) st=some (o,st):=rfl
@[simp] theorem eV_6:eV 6 (o1::o2::o3::o4::o5::o6::some o::env) st=some (o,st):=rfl
@[simp] theorem eV_7:eV 7 (o1::o2::o3::o4::o5::o6::o7::some o::env) st=some (o,st):=rfl
@[simp] theorem eV_8:eV 8 (o1::o2::o3::o4::o5::o6::o7::o8::some o::env) st=some (o,st):=rfl
@[simp] theorem eV_9:eV 9 (o1::o2::o3::o4::o5::o6::o7::o8::o9::some o::env) st=some (o,st):=rfl
@[simp] theorem eV_10:eV 10 (o1::o2::o3::o4::o5::o6::o7::o8::o9::o10::some o::env) st=some (o,st):=rfl
@[simp] theorem eV_11:eV 11 (o1::o2::o3::o4::o5::o6::o7::o8::o9::o10::o11::some o::env) st=some (o,st):=rfl
@[simp] theorem eV_12{o12:Option D}:eV 12 (o1::o2::o3::o4::o5::o6::o7::o8::o9::o10::o11::o12::some o::env) st=some (o,st):=rfl
@[simp] theorem eV_13{o12 o13:Option D}:eV 13 (o1::o2::o3::o4::o5::o6::o7::o8::o9::o10::o11::o12::o13::some o::env) st=some (o,st):=rfl
@[simp] theorem eV_14{o12 o13 o14:Option D}:eV 14 (o1::o2::o3::o4::o5::o6::o7::o8::o9::o10::o11::o12::o13::o14::some o::env) st=some (o,st):=rfl
@[simp] theorem eC_ap:eC d env st=some (d,st):=rfl
@[simp] theorem zY:aT f a b env st=b3 (a env st) fun x=>bnd (b env) fun y=>f x y:=rfl
@[simp] theorem Zx:eA f a b env st=b3 (aT f a b env st) Cg:=rfl
@[simp] theorem Zy{x:Bool}:Cg (.b x) st=some (x,st):=rfl
@[simp] theorem tVl_ap:gE a env st=b3 (a env st) kC:=rfl
@[simp] theorem tAn_ap:Ru c e env st=b3 (c env st) fun x=>c3 x (e env) (L2.ret false):=by
 unfold Ru;rw[hW]
 congr 1
 funext x st
 cases x<;>rfl
@[simp] theorem tOo_ap:Cn c e env st=b3 (c env st) fun x=>c3 x (L2.ret true) (e env):=by
 unfold Cn;rw[hW]
 congr 1
 funext x st
 cases x<;>rfl
@[simp] theorem tNo_ap:sM c env st=b3 (c env st) fun x=>L2.ret (!x):=rfl
@[simp] theorem eAn_ap:Co a b env st=b3 (b3 (a env st) Cg) fun x=>c3 x (b env) (L2.ret (.b false)):=by
 unfold Co;rw[hW]
 congr 1
 funext x st
 cases x<;>rfl
@[simp] theorem eOo_ap:HE a b env st=b3 (b3 (a env st) Cg) fun x=>c3 x (L2.ret (.b true)) (b env):=by
 unfold HE;rw[hW]
 congr 1
 funext x st
 cases x<;>rfl
@[simp] theorem eNo_ap:IV a env st=b3 (b3 (a env st) Cg) fun x=>L2.ret (.b (!x)):=rfl
@[simp] theorem eIf_ap:Og c a b env st=b3 (c env st) fun x=>c3 x (a env) (b env):=by
 unfold Og;rw[hW]
 congr 1
 funext x st
 cases x<;>rfl
@[simp] theorem eUn_ap{f:D→M D}:Fy f a env st=b3 (a env st) f:=rfl
@[simp] theorem aN_ap:aN env st=some ([],st):=rfl
@[simp] theorem aC_ap:aC a t env st=b3 (a env st) fun x=>bnd (t env) fun xs=>L2.ret (x::xs):=rfl
@[simp] theorem eT_ap:eT t env st=b3 (t env st) fun xs=>need (xs.length≤sizeLine) (L2.ret (.t xs)):=rfl
@[simp] theorem FJ:eL t env st=b3 (t env st) newL:=rfl
@[simp] theorem eCl_ap:aM g t env st=b3 (t env st) g:=rfl
@[simp] theorem eIx_ap:bL a b env st=b3 (a env st) fun x=>bnd (b env) fun y=>jO x y:=rfl
@[simp] theorem oN_ap:oN env st=some (none,st):=rfl
@[simp] theorem oS_ap:oS a env st=b3 (a env st) fun x=>bnd (FD x) fun n=>L2.ret (some n):=rfl
@[simp] theorem asI_ap{n:Int}:FD (.i n) st=some (n,st):=rfl
@[simp] theorem eSl_ap{l h:En→M (Option Int)}:vK a l h env st=b3 (a env st) fun x=>bnd (l env) fun l=>bnd (h env) fun h=>Qz x l h:=rfl
@[simp] theorem eBm_ap{f:D→List D→M D}:rX T f a t env st=b3 (a env st) fun x=>bnd (dO T x) fun _=>bnd (t env) fun xs=>f x xs:=rfl
@[simp] theorem eB0_ap{f:D→List D→M D}:Hg T f a env st=b3 (a env st) fun x=>bnd (dO T x) fun _=>f x []:=rfl
@[simp] theorem eCo_ap{caps:List Nat}{bd:D→Sto→Option (List D)}:wQ caps ti bd c a env st=b3 (ti env st) fun its=>need (its.1.length<sizeLine) (bnd (aY its.2 bd c a (iD caps env) its.1 []) Kh):=rfl
@[simp] theorem Rx{zs:List D}:Kh zs st=some (.r st.length,st++[.l zs]):=rfl
@[simp] theorem gN_ap:gN i d env st=some (env.set i (some d),st):=rfl
@[simp] theorem gsN_ap:qV [] env st=some (env,st):=rfl
@[simp] theorem gsC_ap{g:D→En→M En}:gU g gs (d::ds) env st=b3 (g d env st) fun env'=>gs ds env':=rfl
@[simp] theorem gT_t{xs:List D}(h:xs.length=n):gT n gs (.t xs) env st=gs xs env st:=by unfold gT unp eB;dsimp only;rw[if_pos h]
@[simp] theorem gS_ap:gS a b d env st=b3 (a env st) fun x=>bnd (b env) fun y=>bnd (qR x y d) fun _=>L2.ret env:=rfl
@[simp] theorem sN_ap:sN env st=some ((.nx,env),st):=rfl
@[simp] theorem sE_ap:sE a env st=b3 (a env st) fun _=>L2.ret (.nx,env):=rfl
@[simp] theorem sR_ap:sR a env st=b3 (a env st) fun d=>L2.ret (.rt d,env):=rfl
@[simp] theorem sR0_ap:FH env st=some ((.rt .no,env),st):=rfl
@[simp] theorem sI_ap:sI c s1 s2 env st=b3 (c env st) fun b=>c3 b (s1 env) (s2 env):=by
 unfold sI;rw[hW]
 congr 1
 funext x st
 cases x<;>rfl
@[simp] theorem sA_ap{g:D→En→M En}:sA a g env st=b3 (a env st) fun d=>bnd (g d env) fun env'=>L2.ret (.nx,env'):=rfl
@[simp] theorem sG_ap:sG f i a env st=b3 (eV i env st) fun x=>bnd (a env) fun y=>bnd (f x y) fun z=>L2.ret (.nx,env.set i (some z)):=rfl
@[simp] theorem sF_ap{g:D→En→M En}:sF ti g s1 env st=b3 (ti env st) fun its=>eK its.2 g s1 its.1 env:=rfl
@[simp] theorem iS_ap:iS a env st=b3 (a env st) yZ:=rfl
@[simp] theorem iR1_ap:Rv t env st=b3 (t env st) fun xs=>need (xs.length=1) (lV xs):=rfl
@[simp] theorem iEn_ap:IX t env st=b3 (t env st) Cm:=rfl
@[simp] theorem addD_i{a b:Int}:aI (.i a) (.i b) st=some (.i (a+b),st):=rfl
@[simp] theorem addD_t{a b:List D}:aI (.t a) (.t b) st=n3 (a.length+b.length≤sizeLine) (L2.ret (.t (a++b))) st:=rfl
@[simp] theorem addD_s{a b:Str}:aI (.s a) (.s b) st=n3 (a.length+b.length≤sizeLine) (L2.ret (.s (a++b))) st:=rfl
theorem eQ{k:Nat}{xs ys:List D}(h1:st[l]?=some (.l xs))(h2:st[k]?=some (.l ys))(h:xs.length+ys.length≤sizeLine):aI (.r l) (.r k) st=some (.r st.length,st++[.l (xs++ys)]):=by
 show bnd (getL l) _ st=_;rw[aR (dS h1),aR (dS h2)];unfold newL;rw[if_pos (by rw[V12];exact h)]
@[simp] theorem subD_i{a b:Int}:nH (.i a) (.i b) st=some (.i (a-b),st):=rfl
@[simp] theorem mulD_i{a b:Int}:qO (.i a) (.i b) st=n3 (CMul a b) (L2.ret (.i (a*b))) st:=rfl
@[simp] theorem fdivD_i{a b:Int}:lS (.i a) (.i b) st=n3 (CDiv a b) (L2.ret (.i (a/b))) st:=rfl
@[simp] theorem modD_i{a b:Int}:lU (.i a) (.i b) st=n3 (0<b) (L2.ret (.i (a%b))) st:=rfl
@[simp] theorem vL{a b:Int}:zX (.i a) (.i b) st=n3 (CPow a b) (L2.ret (.i (a^b.toNat))) st:=rfl
@[simp] theorem ltD_i{a b:Int}:Yr (.i a) (.i b) st=some (.b (decide (a<b)),st):=rfl
@[simp] theorem leD_i{a b:Int}:HC (.i a) (.i b) st=some (.b (decide (a≤b)),st):=rfl
@[simp] theorem gtD_i{a b:Int}:Oe (.i a) (.i b) st=some (.b (decide (b<a)),st):=rfl
@[simp] theorem geD_i{a b:Int}:ES (.i a) (.i b) st=some (.b (decide (b≤a)),st):=rfl
@[simp] theorem negD_i{a:Int}:mP (.i a) st=some (.i (-a),st):=rfl
@[simp] theorem eqD_i{a b:Int}:gZ (.i a) (.i b) st=some (.b (a==b),st):=rfl
@[simp] theorem eqD_s{a b:Str}:gZ (.s a) (.s b) st=some (.b (a==b),st):=rfl
@[simp] theorem neD_i{a b:Int}:Of (.i a) (.i b) st=some (.b (!(a==b)),st):=rfl
@[simp] theorem neD_s{a b:Str}:Of (.s a) (.s b) st=some (.b (!(a==b)),st):=rfl
@[simp] theorem isD_no:HD x .no st=some (.b (CF x),st):=by cases x<;>rfl
@[simp] theorem ixD_t{xs:List D}{n:Int}:jO (.t xs) (.i n) st=opt (atI xs n) st:=by
 unfold jO Hf opt eB;cases h:atI xs n<;>simp[h]
theorem gI{xs:List D}{n:Int}(h:st[l]?=some (.l xs)):jO (.r l) (.i n) st=opt (atI xs n) st:=by
 have e:Hf st (.r l) (.i n)=atI xs n:=by
  show(lsc st l).bind _=_;rw[kD h]
  rfl
 unfold jO opt;rw[e];cases atI xs n<;>rfl
@[simp] theorem opt_s{z:α}:opt (some z) st=some (z,st):=rfl
@[simp] theorem atI_0{z:α}{zs:List α}:atI (z::zs) 0=some z:=by unfold atI wO;simp
@[simp] theorem atI_1{z0 z:α}{zs:List α}:atI (z0::z::zs) 1=some z:=fS (j:=1) rfl
@[simp] theorem atI_2{z0 z1 z:α}{zs:List α}:atI (z0::z1::z::zs) 2=some z:=fS (j:=2) rfl
@[simp] theorem atI_3{z0 z1 z2 z:α}{zs:List α}:atI (z0::z1::z2::z::zs) 3=some z:=fS (j:=3) rfl
@[simp] theorem atI_4{z0 z1 z2 z3 z:α}{zs:List α}:atI (z0::z1::z2::z3::z::zs) 4=some z:=fS (j:=4) rfl
@[simp] theorem atI_5{z0 z1 z2 z3 z4 z:α}{zs:List α}:atI (z0::z1::z2::z3::z4::z::zs) 5=some z:=fS (j:=5) rfl
@[simp] theorem zZ{xs:List D}:bZ [.t xs] st=some (.i (xs.length:Nat),st):=rfl
@[simp] theorem lenD_f{xs:List D}:bZ [.f xs] st=some (.i (xs.length:Nat),st):=rfl
theorem qX{xs:List D}(h:st[l]?=some (.l xs)):bZ [.r l] st=some (.i (xs.length:Nat),st):=by
 have e:eB st (.r l)=some xs:=kD h;unfold bZ xS;dsimp only;rw[e]
 rfl
theorem hY{z:Str}(h:z.length≤sizeLine):bZ [.s z] st=some (.i (z.length:Nat),st):=by
 unfold bZ xS;dsimp only;rw[if_pos h]
@[simp] theorem listD_t{xs:List D}:tM [.t xs] st=some (.r st.length,st++[.l xs]):=rfl
theorem Ry{xs:List D}(h:st[l]?=some (.l xs)):tM [.r l] st=some (.r st.length,st++[.l xs]):=by
 have e:eB st (.r l)=some xs:=kD h;unfold tM;dsimp only;rw[e]
@[simp] theorem tupD_t{xs:List D}:xT [.t xs] st=some (.t xs,st):=rfl
theorem Kj{xs:List D}(h:st[l]?=some (.l xs)):xT [.r l] st=some (.t xs,st):=by
 show bnd (getL l) _ st=_;rw[aR (dS h)]
 rfl
@[simp] theorem itD_t{xs:List D}:yZ (.t xs) st=some ((xs,fun _=>True),st):=rfl
@[simp] theorem itD_f{xs:List D}:yZ (.f xs) st=some ((xs,fun _=>True),st):=rfl
theorem Kk{xs:List D}(h:st[l]?=some (.l xs)):yZ (.r l) st=some ((xs,fun st=>st[l]?=some (.l xs)),st):=by
 show bnd (getL l) _ st=_;rw[aR (dS h)]
 rfl
@[simp] theorem Rz{xs:List D}:newL xs st=n3 (xs.length≤sizeLine) (Kh xs) st:=by
 unfold newL n3
 by_cases h:xs.length≤sizeLine
 ·rw[if_pos h,if_pos h];rfl
 ·rw[if_neg h,if_neg h]
@[simp] theorem chkT_s{z:Str}:dO "str" (.s z) st=some ((),st):=rfl
theorem dJ{xs:List D}(h:st[l]?=some (.l xs)):dO "list" (.r l) st=some ((),st):=by
 unfold dO;dsimp only;rw[h]
 rfl
theorem Zz{xs:List (Key×D)}(h:st[l]?=some (.d xs)):dO "dict" (.r l) st=some ((),st):=by
 unfold dO;dsimp only;rw[h]
 rfl
theorem nL{xs:List D}(h:st[l]?=some (.l xs))(hl:xs.length<sizeLine):eH (.r l) [y] st=some (.no,st.set l (.l (xs++[y]))):=pK h (by rw[if_pos hl])
theorem kF{xs:List D}(h:st[l]?=some (.l (xs++[y]))):iM (.r l) [] st=some (y,st.set l (.l xs)):=pK h (by simp)
theorem tS{xs ys:List D}(h:st[l]?=some (.l xs))(hl:xs.length+ys.length≤sizeLine):cN (.r l) [.t ys] st=some (.no,st.set l (.l (xs++ys))):=pK h (by rw[if_pos hl])
theorem lG{k:Nat}{xs ys:List D}(h:st[l]?=some (.l xs))(hk:st[k]?=some (.l ys))(hl:xs.length+ys.length≤sizeLine):cN (.r l) [.r k] st=some (.no,st.set l (.l (xs++ys))):=by
 show bnd (getL k) _ st=_;rw[aR (dS hk)];exact pK h (by rw[if_pos hl])
theorem AA{xs:List D}(h:st[l]?=some (.l xs))(hn:n<xs.length):qR (.r l) (.i (n:Nat)) y st=some ((),st.set l (.l (xs.set n y))):=by
 have:wO xs.length (n:Int)=some n:=by unfold wO;rw[if_pos (by lia),if_pos (by lia)];simp
 unfold qR;dsimp only;rw[kD h];dsimp only;rw[this]
@[simp] theorem slD_t{xs:List D}{lo hi:Option Int}:Qz (.t xs) lo hi st=some (.t (cutD xs lo hi),st):=rfl
@[simp] theorem slD_s{z:Str}{lo hi:Option Int}:Qz (.s z) lo hi st=n3 (z.length≤sizeLine) (L2.ret (.s (Txt.slice z lo hi))) st:=rfl
theorem FK{xs:List D}{lo hi:Option Int}(h:st[l]?=some (.l xs)):Qz (.r l) lo hi st=some (.r st.length,st++[.l (cutD xs lo hi)]):=by
 show bnd (getL l) _ st=_;rw[aR (dS h)]
@[simp] theorem hZ{j:Int}:lV [.i j] st=n3 (-(2^62)≤j∧j<2^62) (L2.ret ((List.range j.toNat).map fun(k:Nat)=>D.i (0+(k:Int)),fun _=>True)) st:=rfl
@[simp] theorem truD_b{k:Bool}:kC (.b k) st=some (k,st):=rfl
theorem iO{xs:List D}(h:st[l]?=some (.l xs)):kC (.r l) st=some (!xs.isEmpty,st):=by
 unfold kC;dsimp only;rw[h]
 rfl
@[simp] theorem chkM_T{z:M α}:qU (fun _=>True) z st=z st:=aS trivial
end
section
variable {st st':Sto}{u:Unit}
variable{X:Cx}{pos:Pos}{a b:Expr}{ta tb:En→M D}
theorem AB{s:Stmt}:QS X s (fun _=>bad):=by
 rintro pins s σ H D I ⟨m,env,st,fl,env',st',S,E,e,k⟩;cases e
theorem SR.ins{K:KW}{m:List Addr}{H:Hp}{st:Sto}{v:V}{l:Nat}{C:Addr}{fs:List (Str×D)}(S:SR K m H st)(h:RV K m H v (.r l))(e:st[l]?=some (.o C fs)):
  ∃p dx ws,v=.ref p∧m[l]?=some p∧H p=some (.ins C dx ws)∧ws.map (·.1)=fs.map (·.1)∧RVs K m H (ws.map (·.2)) (fs.map (·.2)):=by
 cases h with
 |r hl=>obtain⟨dx,ws,h1,h2⟩:=S.cel l _ _ hl e;exact⟨_,dx,ws,rfl,hl,h1,h2⟩
theorem RVs.tl{K:KW}{m:List Addr}{H:Hp}{v:V}{d:D}{vs:List V}{ds:List D}(h:RVs K m H (v::vs) (d::ds)):RVs K m H vs ds:=⟨by have:=h.1;simpa using this,fun i v' d' e1 e2=>h.2 (i+1) v' d' (by simpa using e1) (by simpa using e2)⟩
theorem qY{K:KW}{m:List Addr}{H:Hp}{f:Str}:∀{ws:List (Str×V)} {fs:List (Str×D)},ws.map (·.1)=fs.map (·.1)→RVs K m H (ws.map (·.2)) (fs.map (·.2))→(fs.lookup f=none→ws.lookup f=none)∧∀d,fs.lookup f=some d→∃v,ws.lookup f=some v∧RV K m H v d
 |[],[],_,_=>⟨fun _=>rfl,fun d h=>by cases h⟩
 |(g,v)::ws,(g',d)::fs,h,r=>by
  simp only[Z12,V35]at h;obtain⟨rfl,h2⟩:=h;have ih:=qY (f:=f) h2 r.tl;simp only[U32]
  by_cases hg:(f==g)=true
  ·rw[hg];exact⟨fun z=>by simp at z,fun d' z=>by simp at z;subst z;exact⟨v,rfl,r.2 0 v d rfl rfl⟩⟩
  ·simp only[Bool.not_eq_true]at hg;rw[hg];exact ih
 |p::ws,[],h,_=>by cases h
 |[],q::fs,h,_=>by cases h
noncomputable def lP(f:Str)(d:D):List (Str×D)→List (Str×D)
 |[]=>[(f,d)]
 |(g,x)::r=>if g=f then(g,d)::r else(g,x)::lP f d r
theorem Aa{K:KW}{m:List Addr}{H:Hp}{f:Str}{v:V}{d:D}(hv:RV K m H v d):∀{ws:List (Str×V)} {fs:List (Str×D)},ws.map (·.1)=fs.map (·.1)→RVs K m H (ws.map (·.2)) (fs.map (·.2))→
  (gL f v ws).map (·.1)=(lP f d fs).map (·.1)∧RVs K m H ((gL f v ws).map (·.2)) ((lP f d fs).map (·.2))
 |[],[],_,_=>⟨rfl,.one hv⟩
 |(g,w)::ws,(g',e)::fs,h,r=>by
  simp only[Z12,V35]at h;obtain⟨rfl,h2⟩:=h;have ih:=Aa (f:=f) hv h2 r.tl;rw[gL,lP]
  by_cases hg:g=f
  ·rw[if_pos hg,if_pos hg];exact⟨by simp[h2],.cons hv r.tl⟩
  ·rw[if_neg hg,if_neg hg];exact⟨by simp[ih.1],.cons (r.2 0 w e rfl rfl) ih.2⟩
 |p::ws,[],h,_=>by cases h
 |[],q::fs,h,_=>by cases h
def lQ(C:Addr)(f:Str)(x:D):M D:=fun st=>match x with
 |.r l=>match st[l]? with
  |some (.o c fs)=>if c=C then(match fs.lookup f with |some d=>some (d,st)|none=>none) else none
  |_=>none
 |_=>none
theorem tT{C:Addr}{f:Str}{x d:D}(h:lQ C f x st=some (d,st')):∃l fs,x=.r l∧st[l]?=some (.o C fs)∧fs.lookup f=some d∧st'=st:=by
 unfold lQ at h
 split at h
 ·rename_i l
  split at h
  ·rename_i c fs q
   split at h
   ·rename_i hc;subst hc
    split at h
    ·rename_i e q2;cases h;exact⟨l,fs,rfl,q,q2,rfl⟩
    ·cases h
   ·cases h
  ·cases h
 ·cases h
theorem qZ{C:Addr}{f:Str}{l:Nat}{fs:List (Str×D)}{d:D}(h:st[l]?=some (.o C fs))(hf:fs.lookup f=some d):lQ C f (.r l) st=some (d,st):=by
 unfold lQ;dsimp only;rw[h];dsimp only;rw[if_pos rfl,hf]
theorem AD{C:Addr}{f:Str}(hC:Cls X.K C)(hn:fI X.K C f)(h:QE X a ta)(hb:attributeBase a f X.env (eval a X.env)=eval a X.env):QE X (.Attribute a f pos) (fun env=>bnd (ta env) (lQ C f)):=by
 refine bK (Ws h hb) ?_;rintro σ H Q ⟨m,env,st,d,st',S,E,e,k⟩;obtain⟨x,st1,e1,e2⟩:=aA e;obtain⟨l,fs,rfl,h1,h2,rfl⟩:=tT e2;refine⟨m,env,st,.r l,st',S,E,e1,fun v H' m' s S' r=>?_⟩;obtain⟨p,dx,ws,rfl,q1,q2,q3,q4⟩:=S'.ins r h1;obtain⟨w,q5,q6⟩:=(qY (f:=f) q3 q4).2 d h2;exact⟨p,C,dx,ws,w,rfl,q2,hC,hn,q5,k w H' m' s S' q6⟩
def jP(C:Addr)(f:Str)(x y:D):M Unit:=fun st=>match x with
 |.r l=>match st[l]? with
  |some (.o c fs)=>if c=C∧fs.length<1000 then some ((),st.set l (.o C (lP f y fs))) else none
  |_=>none
 |_=>none
theorem tU{C:Addr}{f:Str}{x y:D}(h:jP C f x y st=some (u,st')):∃l fs,x=.r l∧st[l]?=some (.o C fs)∧fs.length<1000∧st'=st.set l (.o C (lP f y fs)):=by
 unfold jP at h
 split at h
 ·rename_i l
  split at h
  ·rename_i c fs q
   split at h
   ·rename_i hc;obtain⟨rfl,hc⟩:=hc;cases h;exact⟨l,fs,rfl,q,hc,rfl⟩
   ·cases h
  ·cases h
 ·cases h
theorem Kl{C:Addr}{f:Str}{l:Nat}{fs:List (Str×D)}{y:D}(h:st[l]?=some (.o C fs))(hl:fs.length<1000):jP C f (.r l) y st=some ((),st.set l (.o C (lP f y fs))):=by
 unfold jP;dsimp only;rw[h];dsimp only;rw[if_pos ⟨rfl,hl⟩]
theorem Km{ws:List (Str×V)}{fs:List (Str×D)}(h:ws.map (·.1)=fs.map (·.1)):ws.length=fs.length:=by
 have:=congrArg List.length h
 simpa using this
theorem AE{C:Addr}{f:Str}{pos':Pos}(hC:Cls X.K C)(hn:fI X.K C f)(ha:QE X a ta)(hv:QE X b tb)(hs:swapsWith b (some (.Attribute a f pos')) pos.line X.env=pure false):
  QS X (.Assign [.Attribute a f pos'] b pos) (fun env=>bnd (tb env) fun y=>bnd (ta env) fun x=>bnd (jP C f x y) fun _=>ret (.nx,env)):=by
 refine gG (Wt ha hv hs) ?_;rintro D σ H ⟨m,env,st,fl,env',st',S,E,e,k⟩;obtain⟨y,st1,e1,e2⟩:=aA e;obtain⟨x,st2,e3,e4⟩:=aA e2;obtain⟨u,st3,e5,e6⟩:=aA e4;cases aD e6;obtain⟨l,fs,rfl,h1,h2,rfl⟩:=tU e5;refine⟨m,env,st,y,st1,S,E,e1,fun vy H1 m1 s1 S1 r1=>⟨m1,env,st1,.r l,st2,S1,E.stp s1,e3,fun vx H2 m2 s2 S2 r2=>?_⟩⟩;obtain⟨p,dx,ws,rfl,q1,q2,q3,q4⟩:=S2.ins r2 h1;have hp:=Aa (f:=f) (r1.stp s2) q3 q4;obtain⟨S3,s3⟩:=S2.put (o':=.ins C dx (gL f vy ws)) (c:=.o C (lP f y fs)) q1 q2 rfl fun q=>⟨dx,gL f vy ws,bO,hp.1,hp.2.stp q⟩;exact⟨p,C,dx,ws,rfl,q2,hC,hn,by rw[Km q3];exact h2,k σ _ m2 ((s1.trans s2).trans s3) S3 (((E.stp s1).stp s2).stp s3)⟩
theorem Sa{C:Addr}{f:Str}{tpos:Pos}{op:Operator}{g:D→D→M D}(hC:Cls X.K C)(hn:fI X.K C f)(ha:QE X a ta)(hv:QE X b tb)(ho:eG X (inplaceOp op) (LR X.kw g)):
  QS X (.AugAssign (.Attribute a f tpos) op b pos) (fun env=>bnd (ta env) fun x=>bnd (lQ C f x) fun w=>bnd (tb env) fun y=>bnd (g w y) fun z=>bnd (jP C f x z) fun _=>ret (.nx,env)):=by
 refine gG (Es (rd:=LR X.kw g) ha hv fun pins s σ H x y u v Q I r1 r2 h=>ho pins s σ H x y u v Q I r1 r2 h) ?_;rintro D σ H ⟨m,env,st,fl,env',st',S,E,e,k⟩;obtain⟨x,st1,e1,e2⟩:=aA e;obtain⟨w,st2,e3,e4⟩:=aA e2;obtain⟨y,st3,e5,e6⟩:=aA e4;obtain⟨z,st4,e7,e8⟩:=aA e6;obtain⟨u,st5,e9,e10⟩:=aA e8;cases aD e10;obtain⟨l,fs,rfl,h1,h2,rfl⟩:=tT e3;obtain⟨l',fs',hl',h3,h4,rfl⟩:=tU e9;cases hl';refine⟨m,env,st,.r l,st2,S,E,e1,fun vx H1 m1 s1 S1 r1=>?_⟩;obtain⟨p,dx,ws,rfl,q1,q2,q3,q4⟩:=S1.ins r1 h1;obtain⟨vw,q5,q6⟩:=(qY (f:=f) q3 q4).2 w h2;refine⟨p,C,dx,ws,vw,rfl,q2,hC,hn,q5,m1,env,st2,y,st3,S1,E.stp s1,e5,fun vy H2 m2 s2 S2 r2=>?_⟩;refine⟨m2,st3,w,y,z,st4,S2,q6.stp s2,r2,e7,fun vz H3 m3 s3 S3 r3=>?_⟩;obtain⟨p',dx',ws',hp',t1,t2,t3,t4⟩:=S3.ins ((r1.stp s2).stp s3) h3;cases hp';have hp:=Aa (f:=f) r3 t3 t4;obtain⟨S4,s4⟩:=S3.put (o':=.ins C dx' (gL f vz ws')) (c:=.o C (lP f z fs')) t1 t2 rfl fun q=>⟨dx',gL f vz ws',bO,hp.1,hp.2.stp q⟩;exact⟨dx',ws',t2,by rw[Km t3];exact h4,k σ _ m3 (((s1.trans s2).trans s3).trans s4) S4 ((((E.stp s1).stp s2).stp s3).stp s4)⟩
def ofD(C:Addr)(mt:Str)(x:D):M Unit:=fun st=>match x with
 |.r l=>match st[l]? with
  |some (.o c fs)=>if c=C then(match fs.lookup mt with |some _=>none|none=>some ((),st)) else none
  |_=>none
 |_=>none
theorem xZ{C:Addr}{f:Str}{x:D}(h:ofD C f x st=some (u,st')):∃l fs,x=.r l∧st[l]?=some (.o C fs)∧fs.lookup f=none∧st'=st:=by
 unfold ofD at h
 split at h
 ·rename_i l
  split at h
  ·rename_i c fs q
   split at h
   ·rename_i hc;subst hc
    split at h
    ·cases h
    ·rename_i q2;cases h;exact⟨l,fs,rfl,q,q2,rfl⟩
   ·cases h
  ·cases h
 ·cases h
section
variable {K:KW}{H:Hp}{Q:VK}{pl:Sem Bool}{d:D}
variable{CX:CXT}{k:Nat}{f C:Addr}{fd:FuncData}{ps:List Str}{mt x:Str}{p apos:Pos}{e o:Expr}{es:List Expr}{E:XK}{t:En→M (List D)}{g:List D→M D}{te:En→M D}
theorem Fz{σ:St}(h:LE K (fun env=>bnd (te env) fun x=>bnd (ofD C mt x) fun _=>bnd (t env) fun ds=>g (x::ds)) σ H Q):Ia C mt (LF K g) [] E (LE K te) (LA K t) σ H Q:=by
 obtain⟨m,env,st,d,st',S,EE,e,k⟩:=h;obtain⟨x,st1,e1,e2⟩:=aA e;obtain⟨u,st2,e3,e4⟩:=aA e2;obtain⟨ds,st3,e5,e6⟩:=aA e4;obtain⟨l,fs,rfl,h1,h2,rfl⟩:=xZ e3;refine⟨m,env,st,.r l,st2,S,EE,e1,fun vx H1 m1 s1 S1 r1=>?_⟩;obtain⟨p,dx,ws,rfl,q1,q2,q3,q4⟩:=S1.ins r1 h1;refine⟨p,dx,ws,rfl,q2,(qY (f:=mt) q3 q4).1 h2,m1,env,st2,ds,st3,S1,EE.stp s1,e5,fun vs H2 m2 s2 S2 r2=>?_⟩;show LF K g (V.ref p::(vs++[])) H2 Q E;rw[U19];exact⟨m2,st3,.r l::ds,d,st',S2,.cons (r1.stp s2) r2,e6,fun v H3 m3 s3 S3 r3=>k v H3 m3 ((s1.trans s2).trans s3) S3 r3⟩
theorem Sb(he:QE X o te)(c:Cls X.K C)(hm:Meth X.K C mt f)(F:FnOk X.prog X.w X.K X.mg X.base CX k f fd ps (LF X.kw g))(hr:Room k X.A)(hb:Binds X.K fd ps [])(hx:Passes CX X E)(ha:QA X (e::es) t)
  (hst:starEach (e::es) X.env=(false,eval e X.env)::starEach es X.env:=by rfl)(hpl:(backTo pos (starEach es X.env)).any (·.1)=false:=by rfl)
  (ht:eval (.Call (.Attribute o mt apos) (e::es) [] pos) X.env=(do
   let ov ←eval o X.env
   standAt apos.atName
   let (f,first) ←holding [ov] (getMethod ov mt pl)
   callWith pos f first (backTo pos (starEach (e::es) X.env)) (backToKw pos (keywordEach [] X.env))):=by rfl):
  QE X (.Call (.Attribute o mt apos) (e::es) [] pos) (fun env=>bnd (te env) fun x=>bnd (ofD C mt x) fun _=>bnd (t env) fun ds=>g (x::ds)):=
 bK (Pq (pl:=pl) he c hm F hr hb .nil hx ha hst hpl ht) fun _ _ _ h=>Fz h
theorem Kn(he:QE X o te)(c:Cls X.K C)(hm:Meth X.K C mt f)(F:FnOk X.prog X.w X.K X.mg X.base CX k f fd ps (LF X.kw g))(hr:Room k X.A)(hb:Binds X.K fd ps [])(hx:Passes CX X E)
  (ht:eval (.Call (.Attribute o mt apos) [] [] pos) X.env=(do
   let ov ←eval o X.env
   standAt apos.atName
   let (f,first) ←holding [ov] (getMethod ov mt pl)
   callWith pos f first (backTo pos (starEach [] X.env)) (backToKw pos (keywordEach [] X.env))):=by rfl):
  QE X (.Call (.Attribute o mt apos) [] [] pos) (fun env=>bnd (te env) fun x=>bnd (ofD C mt x) fun _=>g [x]):=by
 refine bK (Ib (pl:=pl) he c hm F hr hb .nil hx ht) ?_;rintro σ H Q ⟨m,env,st,d,st',S,EE,e,k⟩;obtain⟨x,st1,e1,e2⟩:=aA e;obtain⟨u,st2,e3,e4⟩:=aA e2;obtain⟨l,fs,rfl,h1,h2,rfl⟩:=xZ e3;refine⟨m,env,st,.r l,st2,S,EE,e1,fun vx H1 m1 s1 S1 r1=>?_⟩;obtain⟨p,dx,ws,rfl,q1,q2,q3,q4⟩:=S1.ins r1 h1;exact⟨p,dx,ws,rfl,q2,(qY (f:=mt) q3 q4).1 h2,m1,st2,[.r l],d,st',S1,.one r1,e4,fun v H3 m3 s3 S3 r3=>k v H3 m3 (s1.trans s3) S3 r3⟩
def Uv(C:Addr)(g:List D→M D)(ds:List D):M D:=fun st=>match g (.r st.length::ds) (st++[.o C []]) with
 |some (.no,st')=>some (.r st.length,st')
 |_=>none
theorem Ko{ds:List D}(h:Uv C g ds st=some (d,st')):g (.r st.length::ds) (st++[.o C []])=some (.no,st')∧d=.r st.length:=by
 unfold Uv at h
 split at h
 ·rename_i s q;cases h;exact⟨q,rfl⟩
 ·cases h
theorem Kq{m:List Addr}{ds:List D}{vs:List V}(S:SR K m H st)(r:RVs K m H vs ds)(e:Uv C g ds st=some (d,st'))(k:Fin K m H d st' Q):
  ∀x dx,H x=none→H dx=none→dx≠x→LF K g (.ref x::(vs++[])) (upd (upd H dx (.own x)) x (.ins C dx [])) (fun v H2=>v=.non∧Q (.ref x) H2) E:=by
 intro x dx hx hdx hne;obtain⟨e1,rfl⟩:=Ko e;obtain⟨S1,s1⟩:=S.same (qM (o:=.own x) hdx);have hx1:upd H dx (.own x) x=none:=by rw[aQ (Ne.symm hne)];exact hx
 obtain⟨S2,s2⟩:=S1.new (o:=.ins C dx []) (c:=.o C []) hx1 fun _=>⟨dx,[],bO,rfl,.nil⟩;have hl:(m++[x])[st.length]?=some x:=by rw[←S.len];simp
 rw[U19];refine⟨m++[x],st++[.o C []],.r st.length::ds,.no,st',S2,.cons (.r hl) ((r.stp s1).stp s2),e1,fun v H' m' s S' rv=>⟨by cases rv;rfl,k (.ref x) H' m' ((s1.trans s2).trans s) S' (.r (s.pre _ _ hl))⟩⟩
theorem Se(Mk':Mk X.K C f)(F:FnOk X.prog X.w X.K X.mg X.base CX k f fd ps (LF X.kw g))(hr:Room (k+1) X.A)(hg:Gl X x)(hm:X.mg x=some (.ref C))(hb:Binds X.K fd ps [])(hx:Passes CX X E)
  (ha:QA X (e::es) t)(hdb:(x==("__debug__":Str))=false:=by decide)(he:starEach (e::es) X.env=(false,eval e X.env)::starEach es X.env:=by rfl)(hpl:(backTo pos (starEach es X.env)).any (·.1)=false:=by rfl):
  QE X (.Call (.Name x p) (e::es) [] pos) (fun env=>bnd (t env) (Uv C g)):=by
 refine bK (Pr Mk' F hr hg hm hb .nil hx ha hdb he hpl) ?_;rintro σ H Q ⟨m,env,st,d,st',S,EE,e,k⟩;obtain⟨ds,st1,e1,e2⟩:=aA e;exact⟨m,env,st,ds,st1,S,EE,e1,fun vs H' m' s S' r=>Kq S' r e2 fun v H2 m2 s2 S2 r2=>k v H2 m2 (s.trans s2) S2 r2⟩
end
end
section
variable{X:Cx}{pos:Pos}{a b:Expr}{ta tb:En→M D}
def kG:List D→Option (List Bool)
 |[]=>some []
 |.b x::r=>(kG r).map (x::·)
 |_=>none
def oQ:List D→Option (List Str)
 |[]=>some []
 |.s x::r=>(oQ r).map (x::·)
 |_=>none
theorem tV{K:KW}{m:List Addr}{H:Hp}:∀{ds:List D} {vs:List V} {bs:List Bool},RVs K m H vs ds→kG ds=some bs→vs=bs.map V.bl
 |[],vs,bs,r,h=>by cases h;exact Z25.mp r.1
 |d::ds,[],bs,r,h=>by have:=r.1;cases this
 |d::ds,v::vs,bs,r,h=>by
  unfold kG at h
  split at h
  ·rename_i e;cases e
  ·rename_i x r' e;cases e;obtain⟨bs',h1,rfl⟩:=V13.mp h;have r0:=r.2 0 v _ rfl rfl;cases r0;rw[tV r.tl h1];rfl
  ·cases h
theorem yA{K:KW}{m:List Addr}{H:Hp}:∀{ds:List D} {vs:List V} {bs:List Str},RVs K m H vs ds→oQ ds=some bs→vs=bs.map V.str
 |[],vs,bs,r,h=>by cases h;exact Z25.mp r.1
 |d::ds,[],bs,r,h=>by have:=r.1;cases this
 |d::ds,v::vs,bs,r,h=>by
  unfold oQ at h
  split at h
  ·rename_i e;cases e
  ·rename_i x r' e;cases e;obtain⟨bs',h1,rfl⟩:=V13.mp h;have r0:=r.2 0 v _ rfl rfl;cases r0;rw[yA r.tl h1];rfl
  ·cases h
def Ga:List D→M D
 |[.r l]=>bnd (getL l) fun xs=>bnd (opt (kG xs)) fun bs=>ret (.b (bs.all id))
 |_=>bad
theorem AF(hc:X.calm=true):dB X (.builtin "all") (LC X.kw Ga):=by
 refine(Im hc).imp ?_;rintro xs H Q ⟨m,st,ds,d,st',S,r,e,k⟩
 match ds,r,e with
 |[.r l],r,e=>
  obtain⟨v,rfl,rv⟩:=cL r;obtain⟨ys,st1,e1,e2⟩:=aA e;obtain⟨h1,rfl⟩:=cP e1;obtain⟨bs,st2,e3,e4⟩:=aA e2;obtain⟨h2,rfl⟩:=qN e3;cases aD e4;cases rv with
  |r hl=>
   obtain⟨vs,o1,h3⟩:=S.cel l _ _ hl h1;rw[tV h3 h2]at o1;exact⟨_,bs,rfl,fE.of o1,k.now S (.b _)⟩
def iH:D→List D→M D
 |.s z,[.r l]=>bnd (getL l) fun xs=>bnd (opt (oQ xs)) fun ts=>need (JoinOk z ts=true) (ret (.s (Txt.join z ts)))
 |_,_=>bad
theorem Sf:sD X "str.join" (LM X.kw iH):=by
 rintro pins s σ H x xs v us Q I rv rs ⟨m,st,dx,ds,d,st',S,rx,r,e,k⟩
 match dx,ds,rx,r,e with
 |.s z,[.r l],.s _,r,e=>
  obtain⟨v,rfl,rv'⟩:=cL r;obtain⟨ys,st1,e1,e2⟩:=aA e;obtain⟨h1,rfl⟩:=cP e1;obtain⟨ts,st2,e3,e4⟩:=aA e2;obtain⟨h2,rfl⟩:=qN e3;obtain⟨h5,e5⟩:=bY e4;cases aD e5;cases rv' with
  |r hl=>
   obtain⟨vs,o1,h3⟩:=S.cel l _ _ hl h1;rw[yA h3 h2]at o1;exact Qc pins s σ H _ _ _ us Q I rv rs ⟨z,_,ts,rfl,rfl,fE.of o1,h5,k.now S (.s _)⟩
def Uw:M D:=fun st=>some (.r st.length,st++[.st []])
theorem Sh{p:Pos}(hg:Gl X "set")(hm:X.mg "set"=none):QE X (.Call (.Name "set" p) [] [] pos) (fun _=>Uw):=by
 refine bK (zI Ff hg hm boot_set) ?_;rintro σ H Q ⟨m,env,st,d,st',S,E,e,k⟩;cases e;refine⟨rfl,fun p hp=>?_⟩;obtain⟨S1,s1⟩:=S.new (o:=nF X.w p []) (c:=.st []) hp fun _=>bO;exact k _ _ _ s1 S1 (.r (by rw[←S.len];simp))
def mR:List D→M D
 |[.r l]=>fun st=>match st[l]? with
  |some (.st L)=>if L.length≤5000 then some (.r st.length,st++[.p L]) else none
  |_=>none
 |_=>bad
theorem Gb(hc:X.calm=true):dB X (.builtin "sorted") (LC X.kw mR):=by
 refine(zV hc).imp ?_;rintro xs H Q ⟨m,st,ds,d,st',S,r,e,k⟩
 match ds,r,e with
 |[.r l],r,e=>
  obtain⟨v,rfl,rv⟩:=cL r;unfold mR at e;dsimp only at e
  split at e
  ·rename_i L q
   split at e
   ·rename_i hL;cases e;cases rv with
    |@r _ a hl=>
     have o1:H a=some (nF X.w a L):=S.cel l a _ hl q;refine⟨a,L,rfl,o1,hL,fun p ss hp hs=>?_⟩;obtain⟨S1,s1⟩:=S.new (o:=.lst (ss.map V.str)) (c:=.p L) hp fun _=>⟨ss,bO,hs⟩;exact k _ _ _ s1 S1 (.r (by rw[←S.len];simp))
   ·cases e
  ·cases e
def CG(x:D):M Unit:=fun st=>match x with
 |.r l=>match st[l]? with
  |some (.st _)=>some ((),st)
  |_=>none
 |_=>none
noncomputable def CH(x y:D):M D:=fun st=>match x,y with
 |.r l,.s z=>match st[l]? with
  |some (.st L)=>if L.length+1<4096 then some (.no,st.set l (.st (if z∈L then L else L++[z]))) else none
  |_=>none
 |_,_=>none
theorem Si{o e:Expr}{to:En→M D}{t:En→M (List D)}{apos cpos:Pos}(ho:QE X o to)(ha:QA X [e] t)
  (hbase:attributeBase o "add" X.env (eval o X.env)=eval o X.env)
  (hfew:((backTo cpos (starEach [e] X.env)).all (fun x=>!x.1)&&(backToKw cpos (keywordEach [] X.env)).all (fun x=>x.1.isSome)
   &&decide ([e].length+([]:List Keyword).length+(if([]:List Keyword).isEmpty then 0 else 1)<30))=true)
  (hline:(apos.endLine==cpos.line)=true)(hs:starEach [e] X.env=(false,eval e X.env)::starEach [] X.env)(hplain:(backTo cpos (starEach [] X.env)).any (·.1)=false):
  QE X (.Call (.Attribute o "add" apos) [e] [] cpos) (fun env=>bnd (to env) fun x=>bnd (CG x) fun _=>bnd (t env) fun ys=>match ys with |[y]=>CH x y|_=>bad):=by
 refine bK (Qo ho ha hbase hfew hline hs hplain) ?_;rintro σ H Q ⟨m,env,st,d,st',S,E,e,k⟩;obtain⟨x,st1,e1,e2⟩:=aA e;obtain⟨u,st2,e3,e4⟩:=aA e2;obtain⟨ys,st3,e5,e6⟩:=aA e4;refine⟨m,env,st,x,st1,S,E,e1,fun v1 H1 m1 s1 S1 r1=>?_⟩;unfold CG at e3
 split at e3
 ·rename_i l
  split at e3
  ·rename_i L q;cases e3;cases r1 with
   |@r _ a hl=>
    have o1:H1 a=some (nF X.w a L):=S1.cel l a _ hl q;refine⟨a,L,rfl,o1,m1,env,_,ys,st3,S1,E.stp s1,e5,fun vs H2 m2 s2 S2 r2=>?_⟩
    match ys,r2,e6 with
    |[y],r2,e6=>
     obtain⟨v,rfl,rv⟩:=cL r2;unfold CH at e6;dsimp only at e6
     split at e6
     ·rename_i l' z eq;cases eq
      split at e6
      ·rename_i L' q'
       split at e6
       ·rename_i hL;cases e6;cases rv;have hl2:=s2.pre _ _ hl;have o2:H2 a=some (nF X.w a L'):=S2.cel _ a _ hl2 q';obtain⟨S3,s3⟩:=S2.put (o':=nF X.w a (if z∈L' then L' else L'++[z])) (c:=.st (if z∈L' then L' else L'++[z])) hl2 o2 rfl fun _=>bO;exact⟨z,L',rfl,o2,hL,k _ _ _ ((s1.trans s2).trans s3) S3 .no⟩
       ·cases e6
      ·cases e6
     ·cases e6
  ·cases e3
 ·cases e3
def tW:D→D→M D
 |.i a,.i b=>ret (.i (a-b))
 |_,_=>bad
theorem AG:eG X (inplaceOp .Sub) (LR X.kw tW):=by
 refine Pf.imp ?_;rintro x y H Q ⟨m,st,dx,dy,d,st',S,rx,ry,e,k⟩
 match dx,dy,rx,ry,e with
 |.i a,.i b,.i _,.i _,e=>cases aD e;exact⟨_,_,rfl,rfl,k.now S (.i _)⟩
end
section
variable {p2:Pos}
variable{X:Cx}{pos:Pos}{a b:Expr}{ta tb:En→M D}
def FL(K:Fg9)(te ts:TE):TE:=fun σ H Q=>te σ H fun x H1=>ts σ H1 fun y H2=>y=.int (-1)∧∃a xs,x=.ref a∧fE K H2 a xs∧∀p,H2 p=none→Q (.ref p) (upd H2 p (.lst xs.reverse))
theorem Sj{e st:Expr}{te ts:TE}(he:PE X e te)(hs:PE X st ts):PE X (.Subscript e (.Slice none none (some st) p2) pos) (FL X.K te ts):=by
 intro pins s σ H Q I h;refine Subscript_ (thn (he pins s σ H _ I h) fun v s1 ⟨x,H1,I1,r1,q1⟩=>?_);refine wpAny_Slice ?_;rw[evalPart_none];refine Z10 (Z10 ?_);rw[evalPart_some];refine thn (hs pins s1 σ H1 _ I1 q1) fun vs s2 ⟨y,H2,I2,r2,ey,q2⟩=>?_;subst ey;obtain⟨tk,rfl⟩:=r2;obtain⟨a,xs,rfl,hx,q⟩:=q2;cases r1;have I4:Inv X pins σ H2 { s2 with heap:=s2.heap.push { cls:=.type "slice",data:=.fields #[.none,.none,.int (-1) tk] } }:=I2.kept (t':=s2.toks) fun b ob q=>V10 _ q;obtain⟨its,r,ht,hz⟩:=I4.list hx;have hlen:its.toArray.size=xs.length:=by rw[V11];exact r.length.symm
 show wpAny (model X.prog X.w) X.A (subscriptTail e (.Slice none none (some st) p2) (.ref a) (.ref s2.heap.objs.size)) (EP X pins σ Q) X.xe { s2 with heap:=s2.heap.push { cls:=.type "slice",data:=.fields #[.none,.none,.int (-1) tk] } };refine tail_any (ops:=[.ref a,.ref s2.heap.objs.size]) ht.isList.typeIs slot_list_getitem.lookup ?_ (by with_unfolding_all rfl);refine wpAny_getItem_list_slice ht.isList (Heap.IsSliceOf.new ..) .none .none (.int (-1) tk) (by decide) ?_ (by rw[hlen];exact hz);rw[PySem.W.krv_pick];have hrv:Vals xs.reverse its.reverse:=xD r;have ear:its.toArray.toList.reverse.toArray=its.reverse.toArray:=by simp
 rw[ear];refine⟨.ref _,_,I4.laid (t':=s2.toks) (o:=.lst xs.reverse) (fun b ob q=>V10 _ q) (W11 _) ?_,rfl,q _ (I4.hok.fresh (W11 _))⟩;exact⟨by rw[List.length_reverse];exact hz,_,0,hrv,Z11 _ rfl⟩
def yB(x y:D):M D:=match x,y with
 |.r l,.i n=>need (n=-1) (bnd (getL l) fun xs=>Kh xs.reverse)
 |_,_=>bad
def CI(a b:En→M D):En→M D:=fun env=>bnd (a env) fun x=>bnd (b env) fun y=>yB x y
theorem FN(ha:QE X a ta)(hb:QE X b tb):QE X (.Subscript a (.Slice none none (some b) p2) pos) (CI ta tb):=by
 refine bK (Sj ha hb) ?_;rintro σ H Q ⟨m,env,st,d,st',S,E,e,k⟩;obtain⟨x,st1,e1,e2⟩:=aA e;obtain⟨y,st2,e3,e4⟩:=aA e2
 match x,y,e1,e3,e4 with
 |.r l,.i n,e1,e3,e4=>
  obtain⟨hn,e5⟩:=bY e4;subst hn;obtain⟨xs,st3,e6,e7⟩:=aA e5;obtain⟨h1,rfl⟩:=cP e6;cases e7;refine⟨m,env,st,.r l,st1,S,E,e1,fun v1 H1 m1 s1 S1 r1=>⟨m1,env,st1,.i (-1),_,S1,E.stp s1,e3,fun v2 H2 m2 s2 S2 r2=>?_⟩⟩;cases r2;obtain⟨p,vs,rfl,hm,o1,rr⟩:=S2.lst (r1.stp s2) h1;refine⟨rfl,p,vs,rfl,fE.of o1,fun q hq=>?_⟩;obtain⟨S3,s3,r3⟩:=S2.newL hq rr.rev;exact k _ _ _ ((s1.trans s2).trans s3) S3 r3
end
end L2
namespace SS
open PySem PySem.Spec PyProof.Rows
open AutoSeq1 (wpAny_loadPart')
set_option maxHeartbeats 1000000 in
theorem meets(l b sl:Addr)(items items2:Array Value)(n n2 k:Nat)(t:Tok)(hk:k≤items.size)(hne:l≠b)(hz:items.size+items2.size≤sizeLine):
  Meets (Builtin.«list.__setitem__» ⟨[.ref l,.ref sl,.ref b],[]⟩) (fun _ R s=>s.heap.get? l=some { cls:=.type "list",dict:=none,data:=.seq items n,slots:=#[] }∧s.heap.get? b=some { cls:=.type "list",dict:=none,data:=.seq items2 n2,slots:=#[] }∧s.heap.get? sl=some { cls:=.type "slice",data:=.fields #[.int k t,.none,.none] }∧
   R (.ok (.ret .none)) { s with heap:=s.heap.update l (Obj.mapSeq fun xs=>xs.extract 0 k++items2++xs.extract items.size xs.size) }):=
 .of_wp fun prog w A R s h=>by
  obtain⟨hp,g,d,tk,os⟩:=s;obtain⟨hl,hb,hs,h⟩:=h;have f1:=AutoSeq1.idx_int;have f2:=Y38;have f3:=AutoSeq1.sub_list_list;have f4:=U38;have f5:=Y39;have f6:typeLookup (.type "slice") "__index__"=pure none:=by rw[typeLookup_type,Z34];kernel_rfl
  wp_walk using wpAny_loadPart' hl,wpAny_loadPart' hb,wpAny_loadPart' hs
  have f7:Builtin.List.listSameRef (.ref l) (.ref b)=false:=by simp[Builtin.List.listSameRef,hne]
  rw[if_neg (by rw[f7];exact W16)]
  wp_walk using wpAny_loadPart' hl,wpAny_loadPart' hb,wpAny_loadPart' hs
  have e1:(max 0 (min (if(k:Int)<0 then(k:Int)+(items.size:Int) else(k:Int)) (items.size:Int)))=(k:Int):=by rw[if_neg (by lia)];lia
  have e2:(max (k:Int) (if(1:Int) > 0 then(items.size:Int) else -1))=(items.size:Int):=by rw[if_pos (by decide)];lia
  have e3:((k:Int)).toNat=k:=by lia
  have e4:((items.size:Int)).toNat=items.size:=by lia
  rw[e1,e2,e3,e4];rw[if_neg (by rw[L2.qH (by lia)];exact W16)];dsimp only;refine Y10 ?_;show wpAny _ _ (updateSeq l _) _ _ _;refine V31 hl rfl ?_;refine Y10 (wpAny_letGo (Z10 ⟨_,rfl,h⟩))
end SS
namespace SS
open PySem PySem.Spec PyProof.Rows
section
variable{prog:Program}{w:World}{A:Around}{E:Value→Shared→Prop}{s:Shared}
theorem setFrom{l b sl:Addr}{items items2:Array Value}{n n2 k:Nat}{t:Tok}{Q:Unit→Shared→Prop}(hl:s.heap.get? l=some { cls:=.type "list",dict:=none,data:=.seq items n,slots:=#[] })
  (hb:s.heap.get? b=some { cls:=.type "list",dict:=none,data:=.seq items2 n2,slots:=#[] })(hs:s.heap.get? sl=some { cls:=.type "slice",data:=.fields #[.int k t,.none,.none] })
  (hk:k≤items.size)(hne:l≠b)(hz:items.size+items2.size≤sizeLine)
  (h:Q () { s with heap:=s.heap.update l (Obj.mapSeq fun xs=>xs.extract 0 k++items2++xs.extract items.size xs.size) }):wpAny (model prog w) A (setItem (.ref l) (.ref sl) (.ref b)) Q E s:=by
 have hT:s.TypeIs (.ref l) "list":=⟨_,hl,rfl⟩;unfold setItem
 try with_reducible refine U16 ?_
 first|refine Y10 (Z10 ?_)|skip
 refine Y10 (wpAny_sequenceKey hT (by decide) ?_);refine Y10 (V15 (name:=Str.ofString "__setitem__") hT F.slot_list_setitem ?_);refine call_meets F.slot_list_setitem hT F.entry_list_setitem (F.args_list_setitem_3 _ _ _) (meets l b sl items items2 n n2 k t hk hne hz) ⟨hl,hb,hs,?_⟩;exact Z10 h
end
end SS
namespace L2
open PySem PySem.Spec PyProof.Rows
section
variable{X:Cx}{pos p2:Pos}
def IY(to:TE)(tl:TO):TG:=fun v σ H Q=>to σ H fun x H1=>tl σ H1 fun i H2=>∃(l b:Addr) (xs ys:List V) (k:Nat),x=.ref l∧i=some (k:Int)∧v=.ref b∧H2 l=some (.lst xs)∧H2 b=some (.lst ys)∧l≠b∧k≤xs.length∧xs.length+ys.length≤sizeLine∧Q σ (upd H2 l (.lst (xs.take k++ys)))
end
section
variable{X:Cx}{pos p2:Pos}
theorem AH{o:Expr}{lo:Option Expr}{to:TE}{tl:TO}(ho:PE X o to)(hl:PO X lo tl)
  (ha:∀v,assign (.Subscript o (.Slice lo none none p2) pos) X.env v=(do
   let ov ←holding [v] (eval o X.env)
   let iv ←holding [v,ov] (eval (.Slice lo none none p2) X.env)
   standAt pos
   holding [v,ov,iv] (setItem ov iv v)
   release [iv,v,ov] []):=by intro _;rfl):PG X (.Subscript o (.Slice lo none none p2) pos) (IY to tl):=by
 intro pins s σ H v u Q I r h;rw[ha];refine Y10 (U16 (thn (ho pins s σ H _ I h) fun ov s1 ⟨x,H1,I1,r1,q1⟩=>?_));refine Y10 (U16 (wpAny_Slice (thn (hl pins s1 σ H1 _ I1 q1) fun vl s2 ⟨i,H2,I2,pl,q2⟩=>?_)));rw[evalPart_none];refine Z10 ?_;refine Z10 ?_;obtain⟨l,b,xs,ys,k,rfl,rfl,rfl,hL,hB,hne,hk,hz,q⟩:=q2;cases r1;cases r;obtain⟨its,n,rv,e1,hz1⟩:=I2.lst hL;obtain⟨its2,n2,rv2,e2,hz2⟩:=I2.lst hB;obtain⟨t,rfl⟩:∃t,vl=.int k t:=by cases pl;exact⟨_,rfl⟩
 have hl1:=rv.length;have hl2:=rv2.length;refine Y10 (U43 (Y10 (U16 (SS.setFrom (V10 _ e1) (V10 _ e2) (Z11 _ rfl) (by rw[V11];lia) hne (by rw[V11,V11];lia) ?_))));have I4:Inv X pins σ H2 { s2 with heap:=s2.heap.push { cls:=.type "slice",data:=.fields #[.int k t,.none,.none] } }:=I2.kept (t':=s2.toks) fun b ob q=>V10 _ q;refine wpAny_release ⟨σ,_,I4.lset (t':=s2.toks) (its':=its.take k++its2) hL (V10 _ e1) ?_ ((rv.take k).append rv2) ?_,q⟩
 ·simp
 ·rw[V12,V22];lia
end
section
variable {x:Str}{p:Pos}{e:Expr}{es:List Expr}
variable{X:Cx}{pos:Pos}{a b:Expr}{ta tb:En→M D}
def AI(X:Cx)(k i:Nat)(t:TA):TE:=fun σ H Q=>∃(y:Str) (p f:Addr) (fd:FuncData) (ps:List Str) (sp:Sp) (o:Obj),σ[i]?=some (some (.ref p))∧PySem.W.nsIn X.K mainGlobals y=some (some (.ref p))∧
 FnOk X.prog X.w X.K X.mg X.base CX0 k f fd ps sp∧X.mg y=some (.ref f)∧X.K.lookup f=some o∧o.data=.func fd∧Binds X.K fd ps []∧t σ H fun vs H1=>sp vs H1 Q E0
theorem Kr{k i:Nat}{t:TA}(hr:Room k X.A)(ha:PA X (e::es) t)
  (hN:X.N[i]?=some x)(hv:Vis X.env.scope x)(hd:(x==("__debug__":Str))=false)(hcd:(x==("__classdict__":Str))=false)
  (he:starEach (e::es) X.env=(false,eval e X.env)::starEach es X.env):PE X (.Call (.Name x p) (e::es) [] pos) (AI X k i t):=by
 intro pins s σ H Q I h;obtain⟨y,q,f,fd,ps,sp,o,hi,hn,F,hm,lk,hdt,hb,h⟩:=h;have e1:=PySem.W.mg_of I.mod.kin I.mod.glob hn;have e2:q=f:=by rw[hm]at e1;cases e1;rfl
 subst e2;refine Y23 (thn (Ho hN hv hd hcd pins s σ H (fun v H'=>v=.ref q∧H'=H) I ⟨_,hi,rfl,rfl⟩) fun v s1 ⟨y,H1,I1,r1,q1,q2⟩=>?_);subst q1 q2;cases r1;refine callWith_def (o:=o) hdt (thn (ha pos pins s1 σ _ _ I1 h) fun us s2 ⟨vs,H2,I2,r2,q⟩=>⟨I2.mod.kin.keeps I2.bk _ _ lk,?_⟩) he;exact uQ (dvs:=[]) F hr hb .nil pass0 I2 r2 (by rw[U19];exact q)
def Cp(tab:List (Str×(List D→M D)))(f:D)(xs:List D):M D:=match f with
 |.fn x=>(match tab.lookup x with
  |some g=>g xs
  |none=>bad)
 |_=>bad
def AJ(tab:List (Str×(List D→M D)))(i:Nat)(t:En→M (List D)):En→M D:=fun env=>bnd (vD i env) fun f=>bnd (t env) fun xs=>Cp tab f xs
structure TabOk (tab:List (Str×(List D→M D))) (k:Nat) (X:Cx):Prop where
 at_:∀x g,tab.lookup x=some g→∃f fd ps o,FnOk X.prog X.w X.K X.mg X.base CX0 k f fd ps (LF X.kw g)∧X.mg x=some (.ref f)∧X.K.lookup f=some o∧o.data=.func fd∧Binds X.K fd ps []
theorem Ks{tab:List (Str×(List D→M D))}{k i:Nat}{t:En→M (List D)}(hT:TabOk tab k X)(hr:Room k X.A)(ha:QA X (e::es) t)
  (hN:X.N[i]?=some x)(hv:Vis X.env.scope x)(hd:(x==("__debug__":Str))=false)(hcd:(x==("__classdict__":Str))=false)
  (he:starEach (e::es) X.env=(false,eval e X.env)::starEach es X.env):QE X (.Call (.Name x p) (e::es) [] pos) (AJ tab i t):=by
 refine bK (Kr (k:=k) hr ha hN hv hd hcd he) ?_;rintro σ H Q ⟨m,env,st,d,st',S,E,e,kk⟩;obtain⟨fv,st1,e1,e2⟩:=aA e;obtain⟨xs,st2,e3,e4⟩:=aA e2;obtain⟨e5,rfl⟩:=vF e1;obtain⟨v,q1,q2⟩:=E.2 i _ e5;cases q2 with
 |@fn y p' hn=>
  have e6:(match tab.lookup y with |some g=>g xs|none=>bad) st2=some (d,st'):=e4;cases hg:tab.lookup y with
  |none=>rw[hg]at e6;cases e6
  |some g=>
   rw[hg]at e6;obtain⟨f,fd,ps,o,h1,h2,h3,h4,h5⟩:=hT.at_ _ _ hg;refine⟨y,p',f,fd,ps,LF X.kw g,o,q1,hn,h1,h2,h3,h4,h5,m,env,_,xs,st2,S,E,e3,fun vs H1 m1 s1 S1 r1=>?_⟩;exact⟨m1,st2,xs,d,st',S1,r1,e6,fun v H' m' s S' r=>kk v H' m' (s1.trans s) S' r⟩
 |_=>cases e4
noncomputable def Cq(x:D)(lo:Option Int)(v:D):M Unit:=fun st=>match x,lo,v with
 |.r l,some k,.r b=>(match st[l]?,st[b]? with
  |some (.l xs),some (.l ys)=>if l≠b∧0≤k∧k≤xs.length∧xs.length+ys.length≤sizeLine then some ((),st.set l (.l (xs.take k.toNat++ys))) else none
  |_,_=>none)
 |_,_,_=>none
def HF(a:En→M D)(lo:En→M (Option Int)):D→En→M En:=fun d env=>bnd (a env) fun x=>bnd (lo env) fun l=>bnd (Cq x l d) fun _=>ret env
theorem FQ{lo:Option Expr}{tl:En→M (Option Int)}{p2:Pos}(ho:QE X a ta)(hl:QO X lo tl):QG X (.Subscript a (.Slice lo none none p2) pos) (HF ta tl):=by
 refine vE (AH ho hl) ?_;rintro v σ H Q ⟨m,env,st,d,env',st',S,E,r,e,k⟩;obtain⟨x,st1,e1,e2⟩:=aA e;obtain⟨y,st2,e3,e4⟩:=aA e2;obtain⟨u,st3,e5,e6⟩:=aA e4;cases aD e6;unfold Cq at e5
 split at e5
 ·rename_i l kk b
  split at e5
  ·rename_i xs ys hxs hys
   split at e5
   ·rename_i hc;cases e5;obtain⟨hne,h0,h1,h2⟩:=hc;refine⟨m,env,st,_,st1,S,E,e1,fun v1 H1 m1 s1 S1 r1=>⟨m1,env,st1,_,st2,S1,E.stp s1,e3,fun H2 m2 s2 S2=>?_⟩⟩;obtain⟨p,vs,rfl,hm,o1,rr⟩:=S2.lst (r1.stp s2) hxs;obtain⟨q,ws,rfl,hm2,o2,rr2⟩:=S2.lst ((r.stp s1).stp s2) hys;have hpq:p≠q:=fun z=>by
     subst z;exact hne ((List.getElem?_inj (U10.mp hm).1 S2.nd).mp (hm.trans hm2.symm))
    obtain⟨S3,s3⟩:=S2.putL hm o1 rfl ((rr.take kk.toNat).append rr2);refine⟨p,q,vs,ws,kk.toNat,rfl,by rw[Int.toNat_of_nonneg h0],rfl,o1,o2,hpq,by rw[rr.1];lia,by rw[rr.1,rr2.1];exact h2,k _ _ _ ((s1.trans s2).trans s3) S3 (((E.stp s1).stp s2).stp s3)⟩
   ·cases e5
  ·cases e5
 ·cases e5
end
end L2
namespace PRV
open PySem PySem.Spec PyProof.Rows
open AutoSeq1 (wpAny_loadPart')
section
variable {Q:Value→Shared→Prop}
variable{prog:Program}{w:World}{A:Around}{E:Value→Shared→Prop}{s:Shared}
theorem Kt{it l:Addr}{i:Nat}{items:Array Value}{x:Value}(hit:s.heap.IsRevIter it l (i:Int))(hl:s.heap.IsList l items)(hx:items[i]?=some x)
  (hQ:∀h',h'.IsRevIter it l ((i:Int)-1)→Heap.SameBut it s.heap h'→Q x { s with heap:=h' }):wpAny (model prog w) A (Builtin.SmallTypes.nextOf (.ref it)) Q E s:=by
 obtain⟨o,ho,hc,hd⟩:=id hit;obtain⟨ol,hol,_,nl,hdl⟩:=hl;unfold Builtin.SmallTypes.nextOf;refine Y10 (V15 (name:=Str.ofString "__next__") hit.typeIs F.slot_lri_next
  (V16 F.slot_lri_next hit.typeIs F.entry_lri_next ?_ (F.args_lri_next_1 _)))
 unfold Builtin.«list_reverseiterator.__next__»;refine Y10 (W37 (a:=(Value.ref it,[])) rfl ?_)
 try dsimp only
 refine Y10 (Y21 ho hd (x:=rawInt (i:Int)) rfl ?_);show wpAny _ _ (if(i:Int)<0 then _ else _) _ _ s;rw[if_neg (by omega)];show wpAny _ _ (field (.ref it) 0 >>=_) _ _ s;refine Y10 (Y21 ho hd (x:=.ref l) rfl ?_);show wpAny _ _ (seqItems? (.ref l) >>=_) _ _ s;refine Y10 (Y24 hol hdl ?_);simp only[Z16,hx];refine Y10 (wpAny_setField ho hd (by simp) ?_)
 first
 |refine Z10 ⟨x,rfl,Z10 (hQ _ ?_ (U25 ..))⟩
 |refine Y10 (Z10 (Z10 ⟨x,rfl,Z10 (hQ _ ?_ (U25 ..))⟩))
 exact⟨_,Y27 _ ho (Obj.isFreed_of_fields (U29 hd _)),(Obj.cls_mapFields ..).trans hc,by
  rw[U29 hd];simp⟩
theorem Sk{it l:Addr}(hh:A.handled=none)(hit:s.heap.IsRevIter it l (-1))
  (hE:∀h' e,Heap.ExtBut it s.heap h'→(∃o,h'.get? e=some o∧o.cls=.type "StopIteration")→E (.ref e) { s with heap:=h' }):wpAny (model prog w) A (Builtin.SmallTypes.nextOf (.ref it)) Q E s:=by
 obtain⟨o,ho,hc,hd⟩:=id hit;unfold Builtin.SmallTypes.nextOf;refine Y10 (V15 (name:=Str.ofString "__next__") hit.typeIs F.slot_lri_next
  (V16 F.slot_lri_next hit.typeIs F.entry_lri_next ?_ (F.args_lri_next_1 _)))
 unfold Builtin.«list_reverseiterator.__next__»;refine Y10 (W37 (a:=(Value.ref it,[])) rfl ?_)
 try dsimp only
 refine Y10 (Y21 ho hd (x:=rawInt (-1)) rfl ?_);show wpAny _ _ (if(-1:Int)<0 then _ else _) _ _ s;rw[if_pos (by decide)];refine Y10 (V27 ?_)
 first
 |show wpAny _ _ (newExc (.type "StopIteration") [] >>=_) _ _ _
 |(refine Y10 ?_;show wpAny _ _ (newExc (.type "StopIteration") [] >>=_) _ _ _)
 refine Y10 ?_;simp only[newExc,newTuple];refine Y10 (Y16 ?_ (by size_fits));refine Y10 (m:=firstArgMember _ _) (W37 (a:=Value.none) (by first|rfl|(simp only[firstArgMember];rfl)) ?_);refine Y16 ?_ (by size_fits);simp only[raiseNew];refine Y10 (Y44 ?_)
 first|rw[show A.in1.handled=none from hh]|rw[hh]
 refine Y10 (Z10 (wpAny_throw ?_));exact hE _ _ (((Heap.ExtBut.refl _ _).push _).push _) ⟨_,Z11 _ rfl,rfl⟩
theorem draws(hh:A.handled=none)(it l:Addr)(hne:l≠it)(items:Array Value):
  Draws prog w A it [it,l] items.size (fun i v=>items[items.size-1-i]?=some v) (fun i h=>h.IsRevIter it l ((items.size:Int)-1-i)∧h.IsList l items) where
 live:=fun _ _ st=>let ⟨o,ho,_⟩:=st.1;⟨o,ho⟩
 frame:=fun _ _ _ st hk=>⟨st.1.at fun o e=>hk it (by simp) o e,st.2.at fun o e=>hk l (by simp) o e⟩
 item:=fun i s Q E hi st hQ=>by
  have hlt:items.size-1-i<items.size:=by omega
  have st1:s.heap.IsRevIter it l ((items.size-1-i:Nat):Int):=by
   have e:((items.size-1-i:Nat):Int)=(items.size:Int)-1-i:=by omega
   rw[e];exact st.1
  refine Kt st1 st.2 (x:=items[items.size-1-i]) (by simp[hlt]) fun h' hit' hs'=>?_;refine hQ _ h' s.toks (by simp[hlt]) ⟨?_,st.2.extBut hs'.extBut hne⟩ hs';have e:(items.size:Int)-1-((i+1:Nat):Int)=((items.size-1-i:Nat):Int)-1:=by omega
  rw[e];exact hit'
 done:=fun s Q E st hE=>by
  have e:(items.size:Int)-1-(items.size:Nat)=-1:=by omega
  refine Sk (l:=l) hh ?_ hE;rw[←e];exact st.1
end
theorem meets_new(it l:Addr)(i:Int)(o:Obj):
  Meets (Builtin.«enumerate.__new__» ⟨[.type "enumerate",.ref it],[]⟩) (fun _ R s=>s.heap.IsRevIter it l i∧
   R (.ok (.ret (.ref s.heap.objs.size))) { s with heap:=s.heap.push { cls:=.type "enumerate",data:=.fields #[.none,.bool false,.ref it,rawInt 0,.none,.none] } }):=
 .of_wp fun prog w A R s h=>by
  obtain⟨hp,g,d,tk,os⟩:=s;obtain⟨hL,h⟩:=h;have hsub:=sub_enumerate
  wp_walk
  refine wpAny_stack_any fun st=>Z10 ?_
  split
  ·rename_i c _ _ _ _ _;cases (c==Value.type "enumerate")
   ·wp_walk using W36 hL
    exact⟨_,rfl,h⟩
   ·wp_walk using W36 hL
    exact⟨_,rfl,h⟩
  ·wp_walk using W36 hL
   exact⟨_,rfl,h⟩
end PRV
namespace L2
variable {P:Program}{w:World}{K:Fg9}{es:List Expr}{kk:Nat}{kws:List (Key×V)}
open PySem PySem.Spec PyProof.Rows
def Cs(K:Fg9)(a:Addr)(n:Nat):It:=⟨fun i H=>∃xs,fE K H a xs∧xs.length=n∧i<n,fun i H v H'=>∃T x,v=.ref T∧H T=none∧(∀xs,fE K H a xs→xs[n-1-i]?=some x)∧H'=upd H T (.tup [.int i,x]),fun i H=>(∃xs,fE K H a xs∧xs.length=n)∧i=n⟩
abbrev Sl(e it a:Addr)(n i:Nat)(h:Heap):Prop:=(∃old,IsEnum h e it i old)∧h.IsRevIter it a ((n:Int)-1-i)
theorem Ab{pos:Pos}(e it a:Addr)(n:Nat)(hei:e≠it)(hai:a≠it)(hea:e≠a):
  Turn P w K (.Tuple es kk pos) (Cs K a n) [e,it] e (Sl e it a n) where
 mem:=by simp
 obj:=fun i h st b hb=>by
  obtain⟨⟨old,he⟩,o,ho,c,d⟩:=st;rcases Z13.mp hb with rfl|hb
  ·exact⟨_,he,fun v z=>by cases z⟩
  ·rw[Y15.mp hb];exact⟨o,ho,fun v z=>by rw[d]at z;cases z⟩
 keep:=fun i h h' st k=>by
  obtain⟨⟨old,he⟩,o,ho,r⟩:=st;exact⟨⟨old,k e (by simp) _ he⟩,o,k it (by simp) o ho,r⟩
 item:=by
  intro X hP hw hK hc i pins s σ H E I hf st hg;subst hP hw hK;obtain⟨xs,hq,hl,hi⟩:=hg;obtain⟨its,rv,p,hz⟩:=I.list hq;have hlen:=rv.length;have hlt:n-1-i<xs.length:=by omega
  obtain⟨u,hu,ru⟩:=rv.get (i:=n-1-i) (x:=xs[n-1-i]) (by simp[hlt]);have hn:its.toArray.size=n:=by rw[V11];omega
  have W:=Y41 (PRV.draws (prog:=X.prog) (w:=X.w) (A:=X.A.in1) (I.ok.hd hc) it a hai its.toArray) e hei (by simp[hei,hea]) (by simp);rw[hn]at W;refine W.item i s _ _ hi ⟨st.1,st.2,p.isList⟩ fun T vals h' tk hv hT tup mid kk1=>?_;obtain⟨tt,v,hv1,rfl⟩:=hv;have ev:v=u:=by
   have h1:its[n-1-i]?=some v:=by simpa using hv1
   rw[hu]at h1;exact(Y17 h1).symm
  subst ev;refine⟨.ref T,rfl,W.go es kk pos i T _ _ _ mid fun h2 st2 kk2=>?_⟩;have nT:T∉[e,it]:=W.apart i T h' mid;obtain⟨oT,eT,cT,nT',dT⟩:=id tup;have eT2:h2.get? T=some oT:=kk2 T oT nT eT;refine⟨.ref T,upd H T (.tup [.int i,xs[n-1-i]]),Inv.turnedN (s':={ s with heap:=h2,toks:=tk }) I rfl rfl (fun b u0 hb e0=>kk2 b u0 hb (kk1 b u0 hb e0)) hf hT ?_,rfl,
   ⟨T,xs[n-1-i],rfl,I.hok.fresh hT,fun ys hy=>by rw[I.list_inj hy hq];simp[hlt],rfl⟩,⟨st2.1,st2.2.1⟩,fun b hb=>?_⟩
  ·exact⟨by show 2≤_;rw[Y12];decide,[.int i tt,v],.cons ⟨_,rfl⟩ (.cons ru .nil),oT,eT2,cT,nT',dT⟩
  ·have nb:b≠T:=fun z=>by subst z;exact nT hb
   rw[aQ nb];exact(hf b hb).1
 done:=by
  intro X hP hw hK hc i pins s σ H E I hf st hg;subst hP hw hK;obtain⟨⟨xs,hq,hx⟩,hi⟩:=hg;obtain⟨its,rv,p,hz⟩:=I.list hq;have hlen:=rv.length;have W:=Y41 (PRV.draws (prog:=X.prog) (w:=X.w) (A:=X.A.in1) (I.ok.hd hc) it a hai its.toArray) e hei (by simp[hei,hea]) (by simp);have hn:its.toArray.size=n:=by rw[V11];omega
  rw[hn]at W;subst hi;refine W.done s _ _ ⟨st.1,st.2,p.isList⟩ fun h' tk kk1=>⟨rfl,?_⟩;exact Inv.turnedF (s':={ s with heap:=h',toks:=tk }) I rfl rfl kk1 hf
 self:=fun A i s Q E st h=>by
  obtain⟨⟨old,he⟩,_⟩:=st;exact Z41 he h
section
variable{X:Cx}
theorem Ac{prog:Program}{A:Around}{E:Value→Shared→Prop}{s:Shared}{it l:Addr}{i:Int}{Q:Value→Shared→Prop}(hL:s.heap.IsRevIter it l i)
  (h:∀h',IsEnum h' s.heap.objs.size it 0 .none→h'.IsRevIter it l i→(∀b o,s.heap.get? b=some o→h'.get? b=some o)→Q (.ref s.heap.objs.size) { s with heap:=h' }):
  wpAny (model prog w) A (call (.type "enumerate") [.ref it]) Q E s:=by
 refine callType_new F.called_enumerate (by decide) (F.typeCall_enumerate_1 _) (F.newCall_enumerate_1 _) (fun obj=>F.args_object_init_2 obj _) F.entry_enumerate_new (PRV.meets_new it l i default) ⟨hL,?_⟩;have he:IsEnum (s.heap.push { cls:=.type "enumerate",data:=.fields #[.none,.bool false,.ref it,rawInt 0,.none,.none] }) s.heap.objs.size it 0 .none:=Z11 _ rfl;exact⟨⟨_,he,rfl⟩,h _ he (hL.at fun o e=>V10 _ e) fun b o x=>V10 _ x⟩
def AK(K:Fg9)(ta:TA):TI:=fun σ H R=>ta σ H fun vs H1=>∃a xs,vs=[.ref a]∧fE K H1 a xs∧R (Cs K a xs.length) H1
theorem Ku{a:Expr}{tpos:Pos}{ta:TA}{p p2 pos pos2:Pos}(hg:Gl X "enumerate")(hm:X.mg "enumerate"=none)(hg2:Gl X "reversed")(hm2:X.mg "reversed"=none)(ha:PA X [a] ta)(hs:starEach [a] X.env=[(false,eval a X.env)]):
  PI X (.Tuple es kk tpos) (.Call (.Name "enumerate" p) [.Call (.Name "reversed" p2) [a] [] pos2] [] pos) (AK X.K ta):=by
 intro pins s σ H R I h;have hs2:starEach [.Call (.Name "reversed" p2) [a] [] pos2] X.env=(false,eval (.Call (.Name "reversed" p2) [a] [] pos2) X.env)::starEach [] X.env:=rfl;refine Call_ (gX I hg hm sZ ?_);refine Z18 ?_ hs2 rfl;rw[hs2];change wpAny _ _ (spliced ((false,eval (.Call (.Name "reversed" p2) [a] [] pos2) X.env)::backTo pos (starEach [] X.env))) _ _ s;refine Z33 ?_;refine Y23 (gX I hg2 hm2 xE (Z18 (thn (ha pos2 pins s σ H _ I h) fun us s1 ⟨vs,H1,I1,r1,q1⟩=>?_) hs rfl));obtain⟨a,xs,e,hq,q⟩:=q1;subst e;cases r1 with
 |cons r rr=>
  cases rr;cases r;obtain⟨its,rv,pt,hz⟩:=I1.list hq;have hlen:=rv.length;have hlt:a<s1.heap.objs.size:=by obtain⟨o,eo,_⟩:=pt.isList;exact W12 eo
  refine call_reversed_list pt.isList ?_;refine U40 ?_;have hn:((its.toArray.size:Nat):Int)-1=(xs.length:Int)-1-((0:Nat):Int):=by rw[V11];omega
  rw[hn];have e0:(s1.heap.push (revObj a ((xs.length:Int)-1-((0:Nat):Int)))).IsRevIter s1.heap.objs.size a ((xs.length:Int)-1-((0:Nat):Int)):=⟨_,Z11 _ rfl,rfl,rfl⟩;have sz:(s1.heap.push (revObj a ((xs.length:Int)-1-((0:Nat):Int)))).objs.size=s1.heap.objs.size+1:=V20 ..;refine Ac (s:={ s1 with heap:=s1.heap.push (revObj a ((xs.length:Int)-1-((0:Nat):Int))) }) e0 fun h' he hit hk=>?_;refine Z41 he ?_;have I2:Inv X pins σ H1 { s1 with heap:=h' }:=I1.kept (t':=s1.toks) fun b o e=>hk b o (V10 _ e);have fresh:∀b,s1.heap.objs.size≤b→pY X pins H1 b:=fun b hb=>I1.fpOk hb (I1.hok.fresh hb);have ge:s1.heap.objs.size≤(s1.heap.push (revObj a ((xs.length:Int)-1-((0:Nat):Int)))).objs.size:=by rw[sz];exact Nat.le_succ _
  refine⟨_,[(s1.heap.push (revObj a ((xs.length:Int)-1-((0:Nat):Int)))).objs.size,s1.heap.objs.size],_,Cs X.K a xs.length,H1,rfl,I2,Ab _ _ a xs.length (by rw[sz];exact Nat.succ_ne_self _) (U14 hlt) (by rw[sz];exact Y28 (Y26 hlt)),⟨⟨_,he⟩,hit⟩,fun b hb=>?_,q⟩;rcases Z13.mp hb with rfl|hb
  ·exact fresh _ ge
  ·rw[Y15.mp hb];exact fresh _ (W11 _)
end
section
variable{X:Cx}{pos:Pos}{tg a b:Expr}{ta tb:En→M D}
def vM:List D→M Its'
 |[.r l]=>bnd (getL l) fun xs=>ret (hV xs.reverse,fun st=>st[l]?=some (.l xs))
 |[.f xs]=>ret (hV xs.reverse,fun _=>True)
 |_=>bad
theorem Ct{K:KW}{m0:List Addr}{H0:Hp}{a:Addr}{xs:List D}{chk:Sto→Prop}(h:∀m H st,Stp m0 H0 m H→SR K m H st→chk st→∃vs,fE K H a vs∧RVs K m H vs xs):Fu K m0 H0 (Cs K a xs.length) (hV xs.reverse,chk):=by
 intro i m H st p S c;obtain⟨vs,hs,r⟩:=h m H st p S c;have hl:(hV xs.reverse).length=xs.length:=by simp[hV]
 refine⟨fun d hd=>?_,fun hi=>⟨⟨vs,hs,r.1⟩,hi.trans hl⟩⟩;obtain⟨x,hx,rfl⟩:=qT hd;have hi:i<xs.length:=by have:=(U10.mp hx).1;simpa using this
 rw[V30 hi]at hx;obtain⟨v,hv,rv⟩:=r.at hx;refine⟨⟨vs,hs,r.1,hi⟩,?_⟩;rintro y H' ⟨T,z,rfl,hT,hz,rfl⟩;have:=hz vs hs;rw[hv]at this;cases this;obtain⟨S2,s2,r2⟩:=S.newT hT (.cons (.i _) (.cons rv .nil));exact⟨S2,s2,r2⟩
theorem Kv{tpos p p2 pos2:Pos}{t:En→M (List D)}(hg:Gl X "enumerate")(hm:X.mg "enumerate"=none)(hg2:Gl X "reversed")(hm2:X.mg "reversed"=none)(ha:QA X [a] t)(hs:starEach [a] X.env=[(false,eval a X.env)]):
  QI X (.Tuple es kk tpos) (.Call (.Name "enumerate" p) [.Call (.Name "reversed" p2) [a] [] pos2] [] pos) (fun env=>bnd (t env) vM):=by
 refine nG (Ku hg hm hg2 hm2 ha hs) ?_;rintro σ H R ⟨m,env,st,its,st',S,E,e,k⟩;obtain⟨xs,st1,e1,e2⟩:=aA e
 match xs,e1,e2 with
 |[.f xs],e1,e2=>
  cases aD e2;refine⟨m,env,st,_,_,S,E,e1,fun vs H' m' s S' r=>?_⟩;obtain⟨v,rfl,rv⟩:=cL r;cases rv with
  |@f _ ws _ e l q=>exact⟨_,ws,rfl,e.sq,k _ H' m' s S' (by rw[l];exact Ct fun m H st p S _=>⟨_,(e.kp p.kt).sq,RVs.stp ⟨l,q⟩ p⟩)⟩
 |[.r l],e1,e2=>
  obtain⟨xs,st3,e3,e4⟩:=aA e2;obtain⟨h1,rfl⟩:=cP e3;cases aD e4;refine⟨m,env,st,_,_,S,E,e1,fun vs H' m' s S' r=>?_⟩;obtain⟨v,rfl,rv⟩:=cL r;cases rv with
  |r e=>
   obtain⟨ws,o0,r0⟩:=S'.cel l _ _ e h1;refine⟨_,ws,rfl,fE.of o0,k _ H' m' s S' ?_⟩;rw[r0.1];refine Ct fun m H st p S c=>?_;obtain⟨vs,o,rr⟩:=S.cel l _ _ (p.pre _ _ e) c;exact⟨vs,fE.of o,rr⟩
end
def Itki(kws:List (Key×V)):It:=⟨fun i _=>i<kws.length,fun i H v H'=>∃T k w,v=.ref T∧H T=none∧kws[i]?=some (k,w)∧H'=upd H T (.tup [kV k,w]),fun i _=>i=kws.length⟩
theorem KV.at_{vs:List (Key×Value)}(r:KV kws vs):∀(i:Nat) (h1:i<kws.length) (h2:i<vs.length),kws[i].1=vs[i].1∧RelV kws[i].2 vs[i].2:=by
 unfold KV at r
 induction r with
 |nil=>intro i h1;cases h1
 |cons h _ ih=>
  intro i h1 h2;cases i with
  |zero=>exact h
  |succ i=>exact ih i (by simpa using h1) (by simpa using h2)
theorem Ge{k:Key}{u:Value}(h:(bE P w).is k u=true):RelV (kV k) u:=by
 rcases cG (k:=k) (v:=u) h with⟨i,t,rfl,rfl⟩|⟨x,t,rfl,rfl⟩
 ·exact⟨_,rfl⟩
 ·exact⟨_,rfl⟩
theorem nM:entryFor table "dict_itemiterator.__iter__"=some Builtin.«dict_keyiterator.__iter__»:=
 entryFor_alias (id':="dict_keyiterator.__iter__") (by kernel_rfl) (by first|rfl|decide +kernel|(unfold String.splitOn;simp +decide [String.splitOnAux])) (by decide +kernel) (by kernel_rfl)
theorem yC{pos:Pos}(it a:Addr){vs:List (Key×Value)}{ep:Nat}(hai:a≠it)(rel:KV kws vs)(hd:∀h:Heap,K.In h→h.DictAt (bE P w) a vs ep):
  Turn P w K (.Tuple es kk pos) (Itki kws) [it] it (fun i h=>∃ok ov,IsItemIter h it a i vs.length ep ok ov) where
 mem:=by simp
 obj:=fun i h st b hb=>by
  obtain⟨ok,ov,st⟩:=st;rw[Y15.mp hb];exact⟨_,st,fun v z=>by cases z⟩
 keep:=fun i h h' st k=>by
  obtain⟨ok,ov,st⟩:=st;exact⟨ok,ov,k it (by simp) _ st⟩
 item:=by
  intro X hP hw hK hc i pins s σ H E I hf st hg;subst hP hw hK;obtain⟨ok,ov,st⟩:=st;have hlen:=rel.length;have hi:i<vs.length:=by rw[←hlen];exact hg
  have kin:X.K.In s.heap:=I.mod.kin.keeps I.bk;refine wpAny_pyNext_items_item (k:=vs[i].1) (v:=vs[i].2) st (hd _ kin) (by simp[hi]) fun key h' hkey out tup sz kp=>?_;refine⟨.ref s.heap.objs.size,rfl,wpAny_letOwnedTupleGo_items out fun h2 it2 sb2=>?_⟩;obtain⟨hk1,hr⟩:=KV.at_ rel i hg hi;have hT:s.heap.objs.size≠it:=Y28 (W12 st);have eT2:h2.get? s.heap.objs.size=some { cls:=.type "tuple",data:=.seq #[key,vs[i].2] }:=sb2.extBut _ _ hT tup;refine⟨.ref s.heap.objs.size,upd H s.heap.objs.size (.tup [kV kws[i].1,kws[i].2]),Inv.turnedN (s':={ s with heap:=h2 }) I rfl rfl (fun b u0 hb e0=>sb2.extBut _ _ (fun z=>hb (by simp[z])) (kp b u0 (fun z=>hb (by simp[z])) e0)) hf (W11 _) ?_,rfl,
   ⟨_,kws[i].1,kws[i].2,rfl,I.hok.fresh (W11 _),U13 (show i<kws.length from hg),rfl⟩,⟨_,_,it2⟩,fun b hb=>?_⟩
  ·exact⟨by show 2≤_;rw[Y12];decide,[key,vs[i].2],.cons (Ge (by rw[hk1];exact hkey)) (.cons hr .nil),_,eT2,rfl,0,rfl⟩
  ·have nb:b≠s.heap.objs.size:=fun z=>by rw[Y15.mp hb]at z;exact hT z.symm
   rw[aQ nb];exact(hf b hb).1
 done:=by
  intro X hP hw hK hc i pins s σ H E I hf st hg;subst hP hw hK;obtain⟨ok,ov,st⟩:=st;have hlen:=rel.length;have hi:i=vs.length:=by rw[←hlen];exact hg
  have kin:X.K.In s.heap:=I.mod.kin.keeps I.bk;refine wpAny_pyNext_items_end (I.ok.hd hc) st (hd _ kin) (by rw[hi];simp) fun h' eb=>⟨rfl,?_⟩;exact Inv.turnedF (s':={ s with heap:=h' }) I rfl rfl (fun b u hb e=>eb b u (fun z=>hb (by simp[z])) e) hf
 self:=fun A i s Q E st h=>by
  obtain⟨ok,ov,st⟩:=st;have hT:s.TypeIs (.ref it) "dict_itemiterator":=⟨_,st,rfl⟩;refine wpAny_pyIter_slot hT F.slot_dict_itemiterator_iter (V16 F.slot_dict_itemiterator_iter hT nM ?_ (F.args_dict_itemiterator_iter_1 _));show wpAny _ _ (PySem.ret (.ref it)) _ _ s;exact Z10 ⟨_,rfl,"dict_itemiterator",_,hT,F.slot_dict_itemiterator_next.lookup,h⟩
section
variable{X:Cx}{pos:Pos}{tg a b:Expr}{ta tb:En→M D}
def Sm(X:Cx)(to:TE):TI:=fun σ H R=>to σ H fun x H1=>∃p kws,x=.ref p∧KDict X.kw p kws∧R (Itki kws) H1
theorem Gf{o:Expr}{to:TE}{tpos apos cpos:Pos}(ho:PE X o to)(hbase:attributeBase o "items" X.env (eval o X.env)=eval o X.env)(hline:(apos.endLine==cpos.line)=true):
  PI X (.Tuple es kk tpos) (.Call (.Attribute o "items" apos) [] [] cpos) (Sm X to):=by
 intro pins s σ H R I h;refine wpAny_Call_method0_late hbase hline (thn (ho pins s σ H _ I h) fun v s1 ⟨x,H1,I1,r1,p,kws,ex,⟨k1,k2,vs,ep,rel,kd⟩,q⟩=>?_);subst ex;cases r1;have kin:X.K.In s1.heap:=I1.mod.kin.keeps I1.bk;have dd:=kd _ kin;obtain⟨ob,es',ho',hc',hd',_⟩:=id dd;have hlt:p<s1.heap.objs.size:=W12 ho';refine⟨"dict","dict.items",PySem.F.plainAttrs_dict,PySem.F.slot_dict_items,PySem.F.type_dict_items,dd.dictOf.typeIs,fun b hb=>by cases hb;exact⟨ob,ho',hc'.2.1⟩,Y29 rfl (PySem.evalArgs_none ?_)⟩;refine call_meetsIn PySem.F.slot_dict_items dd.dictOf.typeIs PySem.F.entry_dict_items (PySem.F.args_dict_items_1 _) (meets_dict_items (bE X.prog X.w) p k2) ⟨⟨vs,dd.dictOf⟩,?_⟩;have I2:Inv X pins σ H1 { s1 with heap:=s1.heap.push { cls:=.type "dict_items",data:=.fields #[.ref p] } }:=I1.kept (t':=s1.toks) fun b o e=>V10 _ e;refine wpAny_pyIter_items (s:={ s1 with heap:=s1.heap.push { cls:=.type "dict_items",data:=.fields #[.ref p] } }) (d:=p) ⟨_,Z11 _ rfl,rfl,rfl⟩ (kd _ (I2.mod.kin.keeps I2.bk)) ?_;have sz:(s1.heap.push { cls:=.type "dict_items",data:=.fields #[.ref p] }).objs.size=s1.heap.objs.size+1:=V20 ..;refine⟨_,[(s1.heap.push { cls:=.type "dict_items",data:=.fields #[.ref p] }).objs.size],_,Itki kws,H1,rfl,Inv.kept (s:={ s1 with heap:=s1.heap.push { cls:=.type "dict_items",data:=.fields #[.ref p] } }) (t':=s1.toks) I2 (fun b o e=>V10 _ e),yC _ p (by rw[sz];exact U14 (Y26 hlt)) rel kd,⟨_,_,Z11 _ rfl⟩,fun b hb=>?_,q⟩;rw[Y15.mp hb];exact Inv.fpOk (s:={ s1 with heap:=s1.heap.push { cls:=.type "dict_items",data:=.fields #[.ref p] } }) I2 (W11 _) (I2.hok.fresh (W11 _))
def FR:Key→D
 |.inl i=>.i i
 |.inr x=>.s x
def Ad:D→M Its'
 |.dc kvs=>ret (kvs.map fun p=>.t [FR p.1,p.2],fun _=>True)
 |_=>bad
def HG(o:En→M D):En→M Its':=fun env=>bnd (o env) Ad
theorem Kw{to:En→M D}{tpos apos cpos:Pos}(ho:QE X a to)(hbase:attributeBase a "items" X.env (eval a X.env)=eval a X.env)(hline:(apos.endLine==cpos.line)=true):
  QI X (.Tuple es kk tpos) (.Call (.Attribute a "items" apos) [] [] cpos) (HG to):=by
 refine nG (Gf ho hbase hline) ?_;rintro σ H R ⟨m,env,st,its,st',S,E,e,k⟩;obtain⟨x,st1,e1,e2⟩:=aA e
 match x,e1,e2 with
 |.dc kvs,e1,e2=>
  cases aD e2;refine⟨m,env,st,_,_,S,E,e1,fun v H' m' s S' r=>?_⟩;cases r with
  |@dc p kws _ g1 g2 g3=>
   refine⟨p,kws,rfl,g1,k _ H' m' s S' ?_⟩;have hl:kws.length=kvs.length:=by have:=congrArg List.length g2;simpa using this
   intro i m2 H2 st2 p2 S2 c;refine⟨fun d hd=>?_,fun hi=>?_⟩
   ·rw[W14]at hd;obtain⟨q,hq,rfl⟩:=V13.mp hd;have hi:i<kvs.length:=(U10.mp hq).1;refine⟨show i<kws.length by lia,?_⟩;rintro y H3 ⟨T,ky,w,rfl,hT,hz,rfl⟩;have hk:ky=q.1:=by
     have h1:(kws.map (·.1))[i]?=some ky:=by rw[W14,hz];rfl
     rw[g2,W14,hq]at h1;exact(Y17 h1).symm
    have rw':RV X.kw m2 H2 w q.2:=(g3 i (ky,w) q hz hq).stp p2;have rk:RV X.kw m2 H2 (kV ky) (FR q.1):=by
     rw[hk];cases q.1 with
     |inl i=>exact .i _
     |inr x=>exact .s _
    obtain⟨S3,s3,r3⟩:=S2.newT hT (.cons rk (.cons rw' .nil));exact⟨S3,s3,r3⟩
   ·show i=kws.length;rw[hi,hl];simp
end
end L2
namespace ZPT
open PySem PySem.Spec PyProof.Rows L2
section
variable{prog:Program}{w:World}{A:Around}{E:Value→Shared→Prop}{s:Shared}{z TI TO i1 i2 t1 t2 T:Addr}{k:Nat}
structure ZN (h:Heap) (f0:Value) (z TI TO i1 i2 t1 t2:Addr) (k:Nat):Prop where
 z:∃f1,h.get? z=some { cls:=.type "zip",dict:=none,data:=.fields #[f0,.bool f1,.bool false,.ref TI,.ref TO],slots:=#[] }
 ti:IsPair h TI (.ref i1) (.ref i2)
 to:∃a b,IsPair h TO a b
 n1:h.IsTupleIter i1 t1 k
 n2:h.IsTupleIter i2 t2 k
theorem ZN.zs(Z:ZN s.heap .none z TI TO i1 i2 t1 t2 k):ZS s.heap z TI TO i1 i2 t1 t2 k:=let ⟨⟨f1,e⟩,a,b,c,d⟩:=Z;⟨⟨.none,f1,e,.inl rfl⟩,a,b,c,d⟩
set_option maxHeartbeats 2000000 in
theorem item0{xs ys:Array Value}{x y:Value}{Q:Option Value→Shared→Prop}(D:Ap z TI TO i1 i2 t1 t2)(Z:ZN s.heap .none z TI TO i1 i2 t1 t2 k)(h1:s.heap.IsTuple t1 xs)(h2:s.heap.IsTuple t2 ys)(hx:xs[k]?=some x)(hy:ys[k]?=some y)
  (g:∀h',ZN h' (rawInt (s.heap.objs.size:Nat)) z TI TO i1 i2 t1 t2 (k+1)→IsPair h' s.heap.objs.size x y→(∀c o,c≠z→c≠TO→c≠i1→c≠i2→s.heap.get? c=some o→h'.get? c=some o)→Q (some (.ref s.heap.objs.size)) { s with heap:=h' }):
  wpAny (model prog w) A (pyNext (.ref z)) Q E s:=by
 obtain⟨⟨f1,hz⟩,hti,⟨a,b,hto⟩,hn1,hn2⟩:=Z;have hT:s.TypeIs (.ref z) "zip":=⟨_,hz,rfl⟩;unfold pyNext;refine Y10 (Y30 (V15 (name:=Str.ofString "__next__") hT Z39 ?_));refine V16 Z39 hT F.entry_zip_next ?_ (F.args_zip_next_1 _);change wpAny _ _ (field (.ref z) 2 >>=_) _ _ _;refine Y10 (Y21 hz rfl (x:=.bool false) rfl ?_);change wpAny _ _ (field (.ref z) 3 >>=_) _ _ _;refine Y10 (Y21 hz rfl (x:=.ref TI) rfl ?_);refine Y10 (Y24 hti rfl ?_);change wpAny _ _ (Builtin.SmallTypes.ownedTupleIsFree (.ref z) >>=_) _ _ _;refine Y10 ?_;unfold Builtin.SmallTypes.ownedTupleIsFree;refine Y10 (Y21 hz rfl (x:=.none) rfl ?_);refine Z10 ?_;simp only[if_true];refine Y10 (V27 ?_);refine Y10 (Y21 hz rfl (x:=.ref TO) rfl ?_);refine Y10 (W27 hz (by simp) fun g1 z1 b1=>?_);refine Y10 ?_;simp only[List.zipIdx_cons,List.zipIdx_nil,V39,List.forIn_nil];refine Y10 (Y10 (wpAny_onRaise ?_));change wpAny _ _ (Builtin.SmallTypes.nextOf (.ref i1) >>=_) _ _ _;refine Y10 (iE (gF hn1 b1 D.a3) (lD h1 b1 D.b2) hx fun g2 n1 b2=>Z10 ?_);have to2:IsPair g2 TO a b:=b2.extBut _ _ D.a8 (b1.extBut _ _ D.a2 hto);refine Y10 (Y24 to2 rfl ?_);refine Y10 (wpAny_updateSeq_pair to2 fun g3 to3 b3=>?_);have to3:IsPair g3 TO x b:=to3;refine Y10 (wpAny_letGo (Z10 ?_));refine Y10 (Y10 (wpAny_onRaise ?_));change wpAny _ _ (Builtin.SmallTypes.nextOf (.ref i2) >>=_) _ _ _;refine Y10 (iE (gF (gF (gF hn2 b1 D.a4) b2 D.b1.symm) b3 D.a9.symm) (lD (lD (lD h2 b1 D.b6) b2 D.b8) b3 D.b7) hy fun g4 n2 b4=>Z10 ?_);have to4:IsPair g4 TO x b:=b4.extBut _ _ D.a9 to3;refine Y10 (Y24 to4 rfl ?_);refine Y10 (wpAny_updateSeq_pair to4 fun g5 to5 b5=>?_);have to5:IsPair g5 TO x y:=to5;refine Y10 (wpAny_letGo (Z10 (Z10 ?_)));refine Y10 (Y24 to5 rfl ?_);refine Y10 (wpAny_newTuple ?_);have hsz:g5.objs.size=s.heap.objs.size:=by rw[b5.1,b4.1,b3.1,b2.1,b1.1]
 have z5:g5.get? z=some { cls:=.type "zip",dict:=none,data:=.fields #[.ellipsis,.bool f1,.bool false,.ref TI,.ref TO],slots:=#[] }:=b5.extBut _ _ D.a2.symm (b4.extBut _ _ D.a4.symm (b3.extBut _ _ D.a2.symm (b2.extBut _ _ D.a3.symm z1)));have k5:∀c o,c≠z→c≠TO→c≠i1→c≠i2→s.heap.get? c=some o→g5.get? c=some o:=fun c o c1 c2 c3 c4 e=>b5.extBut _ _ c2 (b4.extBut _ _ c4 (b3.extBut _ _ c2 (b2.extBut _ _ c3 (b1.extBut _ _ c1 e))));have m1:g5.IsTupleIter i1 t1 (k+1):=gF (gF (gF n1 b3 D.a8.symm) b4 D.b1) b5 D.a8.symm;have m2:g5.IsTupleIter i2 t2 (k+1):=gF n2 b5 D.a9.symm;have hzl:z<g5.objs.size:=W12 z5;change wpAny _ _ (Builtin.SmallTypes.ownedTupleHandOut (.ref z) (.ref g5.objs.size) >>=_) _ _ _;refine Y10 ?_;unfold Builtin.SmallTypes.ownedTupleHandOut;have z6:=V10 { cls:=.type "tuple",data:=.seq #[x,y] } z5;refine Y10 (W27 z6 (by simp) fun g7 z7 b7=>?_);refine W27 z7 (by simp) fun g8 z8 b8=>?_;have up:∀c o,c≠z→g5.get? c=some o→g8.get? c=some o:=fun c o c1 e=>b8.extBut _ _ c1 (b7.extBut _ _ c1 (V10 _ e));have p8:IsPair g8 g5.objs.size x y:=b8.extBut _ _ (Y28 hzl) (b7.extBut _ _ (Y28 hzl) (Z11 _ rfl));refine Z10 ⟨_,rfl,?_⟩;have p8':=p8;rw[hsz]at p8;change wpAny _ _ (pure (some (Value.ref g5.objs.size))) _ _ _;rw[hsz];refine Z10 (g g8 ⟨⟨false,by rw[←hsz];exact z8⟩,up _ _ D.a1 (k5 _ _ D.a1 D.a5 D.a6 D.a7 hti),⟨x,y,up _ _ D.a2 to5⟩,?_,?_⟩ p8 fun c o c1 c2 c3 c4 e=>up c o c1 (k5 c o c1 c2 c3 c4 e))
 ·obtain⟨o,e,r⟩:=m1;exact⟨o,up _ _ D.a3 e,r⟩
 ·obtain⟨o,e,r⟩:=m2;exact⟨o,up _ _ D.a4 e,r⟩
theorem KN{es:List Expr}{x1:Nat}{pos:Pos}{Q:Unit→Shared→Prop}(D:Ap z TI TO i1 i2 t1 t2)(Z:ZN s.heap (rawInt (T:Nat)) z TI TO i1 i2 t1 t2 k)
  (g:∀h',ZN h' .none z TI TO i1 i2 t1 t2 k→(∀c o,c≠z→s.heap.get? c=some o→h'.get? c=some o)→Q () { s with heap:=h' }):wpAny (model prog w) A (letOwnedTupleGo (.Tuple es x1 pos) (.ref z) (.ref T)) Q E s:=by
 obtain⟨⟨f1,hz⟩,hti,⟨a,b,hto⟩,hn1,hn2⟩:=id Z;unfold letOwnedTupleGo;refine Y10 (wpAny_load hz ?_);show wpAny _ _ (if(["enumerate","zip","dict_itemiterator","dict_reverseitemiterator","odict_iterator","itertools.zip_longest","itertools.pairwise"].contains "zip"&&
   (#[rawInt T,.bool f1,.bool false,.ref TI,.ref TO]:Array Value)[0]?==some (rawInt T))=true then _ else _) Q E s
 rw[if_pos (by simp)];refine Y10 (V27 ?_);show wpAny _ _ (setField (.ref z) 0 .none) Q E s;exact W27 hz (by simp) fun h' he' hs'=>g h' ⟨⟨f1,by simpa using he'⟩,hs'.extBut _ _ D.a1 hti,⟨a,b,hs'.extBut _ _ D.a2 hto⟩,gF hn1 hs' D.a3,gF hn2 hs' D.a4⟩ fun c o hcz e=>hs'.extBut c o hcz e
theorem FU{a b:Addr}{xs ys:Array Value}{Q:Value→Shared→Prop}(ha:s.heap.IsTuple a xs)(hb:s.heap.IsTuple b ys)
  (g:∀h',ZN h' .none (s.heap.objs.size+4) (s.heap.objs.size+2) (s.heap.objs.size+3) s.heap.objs.size (s.heap.objs.size+1) a b 0→h'.objs.size=s.heap.objs.size+5→(∀c o,s.heap.get? c=some o→h'.get? c=some o)→Q (.ref (s.heap.objs.size+4)) { s with heap:=h' }):
  wpAny (model prog w) A (call (.type "zip") [.ref a,.ref b]) Q E s:=by
 refine callType_new F.called_zip (by decide) (F.typeCall_zip_2 _ _) (F.newCall_zip_2 _ _) (fun obj=>F.args_object_init_3 obj _ _) F.entry_zip_new (meets_new a b xs ys) ⟨ha,hb,?_⟩;have z1:(q1 s.heap a).objs.size=s.heap.objs.size+1:=V20 ..;have z2:(q2 s.heap a b).objs.size=s.heap.objs.size+2:=by rw[V20,z1]
 have z3:(q3 s.heap a b).objs.size=s.heap.objs.size+3:=by rw[V20,z2]
 have z4:(q4 s.heap a b).objs.size=s.heap.objs.size+4:=by rw[V20,z3]
 have z5:(q5 s.heap a b).objs.size=s.heap.objs.size+5:=by rw[V20,z4]
 have p:∀{h:Heap} {o:Obj} {c:Addr} {o':Obj},h.get? c=some o'→(h.push o).get? c=some o':=fun e=>V10 _ e;have g5:(q5 s.heap a b).get? (q4 s.heap a b).objs.size=some { cls:=.type "zip",data:=.fields #[.none,.bool false,.bool false,.ref (q2 s.heap a b).objs.size,.ref (q3 s.heap a b).objs.size] }:=Z11 _ rfl;have g4:(q5 s.heap a b).get? (q3 s.heap a b).objs.size=some { cls:=.type "tuple",data:=.seq #[.none,.none] }:=p (Z11 _ rfl);have g3:(q5 s.heap a b).get? (q2 s.heap a b).objs.size=some { cls:=.type "tuple",data:=.seq #[.ref s.heap.objs.size,.ref (q1 s.heap a).objs.size] }:=p (p (Z11 _ rfl));have g2:(q5 s.heap a b).get? (q1 s.heap a).objs.size=some (DY b):=p (p (p (Z11 _ rfl)));have g1:(q5 s.heap a b).get? s.heap.objs.size=some (DY a):=p (p (p (p (Z11 _ rfl))));change _∧_;rw[z2,z3,z4]at g5;rw[z1,z2]at g3;rw[z3]at g4;rw[z1]at g2;rw[z4];exact⟨⟨_,g5,rfl⟩,g _ ⟨⟨false,g5⟩,g3,⟨_,_,g4⟩,⟨_,g1,rfl,rfl⟩,⟨_,g2,rfl,rfl⟩⟩ z5 fun c o x=>p (p (p (p (p x))))⟩
end
end ZPT
namespace L2
variable {op:Operator}{id:String}
open PySem PySem.Spec PyProof.Rows
def Itz(K:Fg9)(t1 t2:Addr)(n:Nat):It:=⟨fun i H=>∃xs ys,gR K H t1 xs∧gR K H t2 ys∧xs.length=n∧ys.length=n∧i<n,
 fun i H v H'=>∃T x y,v=.ref T∧H T=none∧(∀xs,gR K H t1 xs→xs[i]?=some x)∧(∀ys,gR K H t2 ys→ys[i]?=some y)∧H'=upd H T (.tup [x,y]),fun i H=>(∃xs,gR K H t1 xs∧xs.length=n)∧i=n⟩
theorem Kx{P:Program}{w:World}{K:Fg9}{es:List Expr}{kk:Nat}{pos:Pos}(z TI TO i1 i2 t1 t2:Addr)(n:Nat)(D:ZPT.Ap z TI TO i1 i2 t1 t2):
  Turn P w K (.Tuple es kk pos) (Itz K t1 t2 n) [z,TI,TO,i1,i2] z (fun i h=>ZPT.ZN h .none z TI TO i1 i2 t1 t2 i) where
 mem:=by simp
 obj:=fun i h st b hb=>by
  obtain⟨⟨f1,hz⟩,hti,⟨a,b',hto⟩,⟨o1,e1,c1,d1⟩,⟨o2,e2,c2,d2⟩⟩:=st;simp only[Z13,U15,or_false]at hb;rcases hb with rfl|rfl|rfl|rfl|rfl
  ·exact⟨_,hz,fun v z=>by cases z⟩
  ·exact⟨_,hti,fun v z=>by cases z⟩
  ·exact⟨_,hto,fun v z=>by cases z⟩
  ·exact⟨_,e1,fun v z=>by rw[d1]at z;cases z⟩
  ·exact⟨_,e2,fun v z=>by rw[d2]at z;cases z⟩
 keep:=fun i h h' st k=>by
  obtain⟨⟨f1,hz⟩,hti,⟨a,b,hto⟩,⟨o1,e1,r1⟩,⟨o2,e2,r2⟩⟩:=st;exact⟨⟨f1,k z (by simp) _ hz⟩,k TI (by simp) _ hti,⟨a,b,k TO (by simp) _ hto⟩,⟨o1,k i1 (by simp) _ e1,r1⟩,⟨o2,k i2 (by simp) _ e2,r2⟩⟩
 item:=by
  intro X hP hw hK hc i pins s σ H E I hf st hg;subst hP hw hK;obtain⟨xs,ys,q1,q2,l1,l2,hi⟩:=hg;obtain⟨its1,rv1,p1,_⟩:=I.tuple q1;obtain⟨its2,rv2,p2,_⟩:=I.tuple q2;have h1:i<xs.length:=by lia
  have h2:i<ys.length:=by lia
  obtain⟨u1,hu1,ru1⟩:=rv1.get (i:=i) (x:=xs[i]) (by simp[h1]);obtain⟨u2,hu2,ru2⟩:=rv2.get (i:=i) (x:=ys[i]) (by simp[h2]);refine ZPT.item0 D st p1 p2 (x:=u1) (y:=u2) (by simpa using hu1) (by simpa using hu2) fun h' Z' pr kp=>?_;have hT:∀b∈[z,TI,TO,i1,i2],b≠s.heap.objs.size:=fun b hb e=>by
   obtain⟨f0,_⟩:=hf b hb;obtain⟨⟨g1,hz⟩,hti,⟨a',b',hto⟩,⟨o1,e1,_⟩,⟨o2,e2,_⟩⟩:=st;simp only[Z13,U15,or_false]at hb;rcases hb with rfl|rfl|rfl|rfl|rfl
   ·exact absurd (W12 hz) (by rw[e];exact W20 _)
   ·exact absurd (W12 hti) (by rw[e];exact W20 _)
   ·exact absurd (W12 hto) (by rw[e];exact W20 _)
   ·exact absurd (W12 e1) (by rw[e];exact W20 _)
   ·exact absurd (W12 e2) (by rw[e];exact W20 _)
  refine⟨.ref s.heap.objs.size,rfl,ZPT.KN (s:={ s with heap:=h' }) D Z' fun hh2 st2 k2=>?_⟩;have nz:s.heap.objs.size≠z:=fun e=>hT z (by simp) e.symm;have pr2:=k2 _ _ nz pr;refine⟨.ref s.heap.objs.size,upd H s.heap.objs.size (.tup [xs[i],ys[i]]),Inv.turnedN (s':={ s with heap:=hh2 }) I rfl rfl (fun b u0 hb e0=>by
   simp only[Z13,U15,or_false,not_or]at hb;exact k2 _ _ hb.1 (kp b u0 hb.1 hb.2.2.1 hb.2.2.2.1 hb.2.2.2.2 e0)) hf (W11 _) ?_,rfl,⟨_,xs[i],ys[i],rfl,I.hok.fresh (W11 _),fun zs hy=>by rw[I.tuple_inj hy q1];simp[h1],fun zs hy=>by rw[I.tuple_inj hy q2];simp[h2],rfl⟩,st2,fun b hb=>?_⟩
  ·exact⟨by show 2≤_;rw[Y12];decide,[u1,u2],.cons ru1 (.cons ru2 .nil),_,pr2,rfl,0,rfl⟩
  ·rw[aQ (hT b hb)];exact(hf b hb).1
 done:=by
  intro X hP hw hK hc i pins s σ H E I hf st hg;subst hP hw hK;obtain⟨⟨xs,q1,l1⟩,hi⟩:=hg;obtain⟨its1,rv1,p1,_⟩:=I.tuple q1;have hlen:=rv1.length;refine ZPT.stop (xs:=its1.toArray) (I.ok.hd hc) D st.zs p1 (by simp;lia) fun h' kp=>⟨rfl,?_⟩;exact Inv.turnedF (s':={ s with heap:=h' }) I rfl rfl (fun b u hb e=>by
   simp only[Z13,U15,or_false,not_or]at hb;exact kp b u hb.1 hb.2.2.1 hb.2.2.2.1 hb.2.2.2.2 e) hf
 self:=fun A i s Q E st h=>ZPT.Ui st.zs h
section
variable{X:Cx}
def IZ(K:Fg9)(ta:TA):TI:=fun σ H R=>ta σ H fun vs H1=>∃t1 t2 xs ys,vs=[.ref t1,.ref t2]∧gR K H1 t1 xs∧gR K H1 t2 ys∧xs.length=ys.length∧R (Itz K t1 t2 xs.length) H1
theorem AL{a b:Expr}{es:List Expr}{kk:Nat}{tpos:Pos}{ta:TA}{p pos:Pos}(hg:Gl X "zip")(hm:X.mg "zip"=none)(ha:PA X [a,b] ta)(hs:starEach [a,b] X.env=(false,eval a X.env)::starEach [b] X.env)(hpl:(backTo pos (starEach [b] X.env)).any (·.1)=false):
  PI X (.Tuple es kk tpos) (.Call (.Name "zip" p) [a,b] [] pos) (IZ X.K ta):=by
 intro pins s σ H R I h;refine Call_ (gX I hg hm DZ (Z18 (thn (ha pos pins s σ H _ I h) fun us s1 ⟨vs,H1,I1,r1,t1,t2,xs,ys,ev,q1,q2,hlen,q⟩=>?_) hs hpl));subst ev;obtain⟨v1,v2,rfl,e1,e2⟩:=vals2 r1;cases e1;cases e2;obtain⟨its1,rv1,pt1,_⟩:=I1.tuple q1;obtain⟨its2,rv2,pt2,_⟩:=I1.tuple q2;have lt1:t1<s1.heap.objs.size:=by obtain⟨o,eo,_⟩:=pt1;exact W12 eo
 have lt2:t2<s1.heap.objs.size:=by obtain⟨o,eo,_⟩:=pt2;exact W12 eo
 refine ZPT.FU pt1 pt2 fun h2 Z2 sz2 kp2=>?_;refine ZPT.Ui (s:={ s1 with heap:=h2 }) Z2.zs ?_;have I2:Inv X pins σ H1 { s1 with heap:=h2 }:=I1.kept (t':=s1.toks) kp2;refine⟨_,[s1.heap.objs.size+4,s1.heap.objs.size+2,s1.heap.objs.size+3,s1.heap.objs.size,s1.heap.objs.size+1],_,Itz X.K t1 t2 xs.length,H1,rfl,I2,Kx _ _ _ _ _ t1 t2 xs.length (ZPT.Xl lt1 lt2),Z2,fun b hb=>?_,q⟩;simp only[Z13,U15,or_false]at hb;exact I1.fpOk (by rcases hb with rfl|rfl|rfl|rfl|rfl<;>lia) (I1.hok.fresh (by rcases hb with rfl|rfl|rfl|rfl|rfl<;>lia))
end
namespace F4
theorem nolen_lr:typeLookup (.type "list_reverseiterator") "__len__"=pure none:=by rw[typeLookup_type,Z34];kernel_rfl
theorem hint_lr:typeLookup (.type "list_reverseiterator") "__length_hint__"=pure (some (.builtin "list_reverseiterator.__length_hint__")):=by rw[typeLookup_type,Z34];kernel_rfl
end F4
theorem yD{s s':Shared}(g:s'.gens=s.gens)(d:s'.drawn=s.drawn)(o:s'.os=s.os):s'={ s with heap:=s'.heap,toks:=s'.toks }:=by
 cases s';cases s;simp_all
def iP(x:Str):List V:=x.cps.toList.map fun c=>.str ⟨#[c]⟩
theorem oR{xs:List V}{us:List Value}(hl:us.length=xs.length)(h:∀(j:Nat) x u,xs[j]?=some x→us[j]?=some u→RelV x u):Vals xs us:=by
 induction xs generalizing us with
 |nil=>cases us with
  |nil=>exact .nil
  |cons u us=>cases hl
 |cons x xs ih=>cases us with
  |nil=>cases hl
  |cons u us=>exact .cons (h 0 x u rfl rfl) (ih (by simpa using hl) fun j x u a b=>h (j+1) x u (by simpa using a) (by simpa using b))
theorem yE{x:Str}{acc:Array Value}(h:ItemsOf (SignAt x) acc x.cps.size):Vals (iP x) acc.toList:=by
 refine oR (by simp[iP,h.1]) fun j v u a b=>?_;obtain⟨c,t,e,rfl⟩:=h.2 j u (by simpa using b);simp only[iP,W14,W24,e,Option.map_some,Z36]at a;subst a;exact⟨t,rfl⟩
section
variable{X:Cx}
theorem Ae(hc:X.calm=true):dB X (.type "list") (fun xs H Q=>∃x,xs=[.str x]∧x.cps.size≤sizeLine∧∀l,H l=none→Q (.ref l) (upd H l (.lst (iP x)))):=by
 intro pins s σ H xs us Q I r h;obtain⟨x,rfl,hz,q⟩:=h;obtain⟨u,rfl,rx⟩:=vals1 r;obtain⟨t,rfl⟩:=rx;have hd:X.A.in1.handled=none:=I.ok.hd hc;refine callType_codes (Q₁:=fun v s3=>v=.ref s.heap.objs.size∧s3={ s with heap:=s.heap.push (seqObj "list" #[] 0) }) F.called_list (F.typeCall_list_1 _) F.entry_list_init (code_list_new _ ⟨rfl,rfl⟩) fun v s3 h3=>?_;obtain⟨rfl,rfl⟩:=h3;have hS:(s.heap.push (seqObj "list" #[] 0)).get? s.heap.objs.size=some (seqObj "list" #[] 0):=Z11 _ rfl;refine⟨⟨_,hS,rfl⟩,F.args_list_init_2 _ _,?_⟩;change wpAny _ _ (Builtin.List.listItems (.ref s.heap.objs.size) >>=fun old=>Builtin.List.listUpdate (.ref s.heap.objs.size) (fun _=>#[]) >>=fun _=>letGo old.toList.reverse >>=fun _=>Builtin.List.listExtendWith (.ref s.heap.objs.size) (.str x t) .none) _ _ _;refine Y10 ?_;unfold Builtin.List.listItems;refine Y10 (Y24 hS rfl (Z10 ?_));change wpAny _ _ (updateSeq s.heap.objs.size (fun _=>#[]) >>=_) _ _ _;refine Y10 (V31 hS rfl ?_);have hS2:=U34 hS (fun _=>(#[]:Array Value));refine Y10 (wpAny_letGo ?_);have kp3:∀b o,s.heap.get? b=some o→((s.heap.push (seqObj "list" #[] 0)).update s.heap.objs.size (Obj.mapSeq fun _=>(#[]:Array Value))).get? b=some o:=fun b o e=>(V23 _ _ (Y28 (W12 e))).trans (V10 _ e);generalize hh3:(s.heap.push (seqObj "list" #[] 0)).update s.heap.objs.size (Obj.mapSeq fun _=>(#[]:Array Value))=h3 at hS2 kp3;unfold Builtin.List.listExtendWith;refine Y10 (W33 (T:="str") (v:=.str x t) rfl ?_);have h1:Builtin.List.listSameRef (.ref s.heap.objs.size) (.str x t)=false:=rfl;have h2:(Value.type "str"==Value.type "list")=false:=by decide
 have h3:(Value.type "str"==Value.type "tuple")=false:=by decide
 simp only[h1,h2,h3,Bool.or_false,Z23,if_false];refine Y10 (wpAny_pyIter_str fun o St W hst=>?_);refine Y10 (U16 ?_);unfold Builtin.List.listLengthHint;refine Y10 (Y34 (T:="str") (v:=.str x t) rfl F.str_len ?_)
 wp_delta
 refine Y10 (W29 (T:="str") (v:=.str x t) (b:=true) rfl (by rw[isSubtype_type];kernel_rfl) ?_);change wpAny _ _ (typeOf (Value.str x t) >>=_) _ _ _;refine Y10 (W33 (T:="str") (v:=.str x t) rfl ?_);refine Z10 ?_;rw[if_neg (by decide)];rename_i hp3;have hlt:s.heap.objs.size<hp3.objs.size:=W12 hS2;have hSf:s.heap.objs.size∉[hp3.objs.size]:=fun hm=>by rw[Y15.mp hm]at hlt;exact absurd hlt (W20 _)
 refine Z10 ⟨U35 V26 _,codeAny_extend_loopS (A:=X.A.in1) (W X.A.in1.in1 hd).toS hz _ hSf _ x.cps.size 0 _ _ _ rfl (V24 _) hst (V10 _ hS2) (ItemsOf.nil _) fun s' acc' c' hm hS' hacc=>?_⟩;have es:=yD (s:=s) hm.gens hm.drawn hm.os;have kp:∀b o,s.heap.get? b=some o→s'.heap.get? b=some o:=fun b ob e=>hm.heap b ob (fun hb=>by
  have hl:=W12 e;rcases Z13.mp hb with h|h
  ·exact absurd hl (h ▸ W20 _)
  ·rw[Y15.mp h]at hl;exact absurd (Nat.lt_trans hl hlt) (W20 _)) (V10 _ (kp3 _ _ e))
 rw[es];exact⟨rfl,.ref s.heap.objs.size,upd H s.heap.objs.size (.lst (iP x)),I.laid (t':=s'.toks) kp (W11 _) (show cK X.prog X.w _ _ _ (.lst (iP x)) from⟨by simpa[iP]using hz,acc'.toList,c',yE hacc,hS'⟩),rfl,q _ (I.hok.fresh (W11 _))⟩
def Ux(K:Fg9)(ta:TA):TE:=fun σ H Q=>ta σ H fun vs H1=>∃a xs,vs=[.ref a]∧fE K H1 a xs∧∀l,H1 l=none→Q (.ref l) (upd H1 l (.lst xs.reverse))
theorem Gg{xs:List V}{its:List Value}{acc:Array Value}(rv:Vals xs its)(h:ItemsOf (fun i v=>its.toArray[its.toArray.size-1-i]?=some v) acc its.toArray.size):Vals xs.reverse acc.toList:=by
 have hl:=rv.length;have h1:=h.1;simp only[V11]at h1;refine oR (by simp[h1,hl]) fun j v u a b=>?_;have e:=h.2 j u (by simpa using b);have hj:j<xs.length:=by have:=(U10.mp a).1;simpa using this
 rw[V30 hj]at a;obtain⟨u',e',ru⟩:=rv.get a;have:its.toArray.size-1-j=xs.length-1-j:=by simp[hl]
 rw[this]at e;simp only[List.getElem?_toArray]at e;rw[e']at e;cases e;exact ru
theorem Sn{a:Expr}{ta:TA}{p p2 pos pos2:Pos}(hc:X.calm=true)(hg:Gl X "list")(hm:X.mg "list"=none)(hg2:Gl X "reversed")(hm2:X.mg "reversed"=none)(ha:PA X [a] ta)(hs:starEach [a] X.env=[(false,eval a X.env)]):
  PE X (.Call (.Name "list" p) [.Call (.Name "reversed" p2) [a] [] pos2] [] pos) (Ux X.K ta):=by
 intro pins s0 σ H Q I0 h;have hs2:starEach [.Call (.Name "reversed" p2) [a] [] pos2] X.env=(false,eval (.Call (.Name "reversed" p2) [a] [] pos2) X.env)::starEach [] X.env:=rfl;refine Y23 (gX I0 hg hm EA ?_);refine Z18 ?_ hs2 rfl;rw[hs2];change wpAny _ _ (spliced ((false,eval (.Call (.Name "reversed" p2) [a] [] pos2) X.env)::backTo pos (starEach [] X.env))) _ _ s0;refine Z33 ?_;refine Y23 (gX I0 hg2 hm2 xE (Z18 (thn (ha pos2 pins s0 σ H _ I0 h) fun us s ⟨vs,H1,I,r1,q1⟩=>?_) hs rfl));obtain⟨a,xs,e,hq,q⟩:=q1;subst e;obtain⟨u,rfl,rx⟩:=vals1 r1;cases rx;obtain⟨its,rv,pt,hz⟩:=I.list hq;have hlen:=rv.length;have hlt:a<s.heap.objs.size:=by obtain⟨o,eo,_⟩:=pt.isList;exact W12 eo
 have hd:X.A.in1.handled=none:=I.ok.hd hc;refine call_reversed_list pt.isList ?_;refine U40 ?_;have e0:(s.heap.push (revObj a ((its.toArray.size:Int)-1))).IsRevIter s.heap.objs.size a ((its.toArray.size:Int)-1):=⟨_,Z11 _ rfl,rfl,rfl⟩;have sz:(s.heap.push (revObj a ((its.toArray.size:Int)-1))).objs.size=s.heap.objs.size+1:=V20 ..;have kp0:∀b o,s.heap.get? b=some o→(s.heap.push (revObj a ((its.toArray.size:Int)-1))).get? b=some o:=fun b o e=>V10 _ e;generalize s.heap.push (revObj a ((its.toArray.size:Int)-1))=h0 at e0 sz kp0;refine callType_codes (Q₁:=fun v s3=>v=.ref h0.objs.size∧s3={ s with heap:=h0.push (seqObj "list" #[] 0) }) F.called_list (F.typeCall_list_1 _) F.entry_list_init (code_list_new _ ⟨rfl,rfl⟩) fun v s3 h3=>?_;obtain⟨rfl,rfl⟩:=h3;have hS:(h0.push (seqObj "list" #[] 0)).get? h0.objs.size=some (seqObj "list" #[] 0):=Z11 _ rfl;refine⟨⟨_,hS,rfl⟩,F.args_list_init_2 _ _,?_⟩;change wpAny _ _ (Builtin.List.listItems (.ref h0.objs.size) >>=fun old=>Builtin.List.listUpdate (.ref h0.objs.size) (fun _=>#[]) >>=fun _=>letGo old.toList.reverse >>=fun _=>Builtin.List.listExtendWith (.ref h0.objs.size) (.ref s.heap.objs.size) .none) _ _ _;refine Y10 ?_;unfold Builtin.List.listItems;refine Y10 (Y24 hS rfl (Z10 ?_));change wpAny _ _ (updateSeq h0.objs.size (fun _=>#[]) >>=_) _ _ _;refine Y10 (V31 hS rfl ?_);have hS2:=U34 hS (fun _=>(#[]:Array Value));refine Y10 (wpAny_letGo ?_);have kp3:∀b o,h0.get? b=some o→((h0.push (seqObj "list" #[] 0)).update h0.objs.size (Obj.mapSeq fun _=>(#[]:Array Value))).get? b=some o:=fun b o e=>(V23 _ _ (Y28 (W12 e))).trans (V10 _ e);generalize hh3:(h0.push (seqObj "list" #[] 0)).update h0.objs.size (Obj.mapSeq fun _=>(#[]:Array Value))=h3 at hS2 kp3;have e3:h3.IsRevIter s.heap.objs.size a ((its.toArray.size:Int)-1):=e0.at fun o e=>kp3 _ _ e;have l3:h3.IsList a its.toArray:=pt.isList.at fun o e=>kp3 _ _ (kp0 _ _ e);unfold Builtin.List.listExtendWith;refine Y10 (W33 (s:={ s with heap:=h3 }) e3.typeIs ?_);have nS:h0.objs.size≠s.heap.objs.size:=by lia
 rw[if_neg (by simp[Builtin.List.listSameRef,nS])];refine Y10 (W36 (s:={ s with heap:=h3 }) e3 ?_);refine Y10 (U16 ?_);unfold Builtin.List.listLengthHint;refine Y10 (Y34 (s:={ s with heap:=h3 }) e3.typeIs F4.nolen_lr ?_);change wpAny _ _ (specialOf (Value.ref s.heap.objs.size) (Str.ofString "__length_hint__") >>=_) _ _ _;refine Y10 (Y34 (s:={ s with heap:=h3 }) e3.typeIs F4.hint_lr ?_)
 (generalize hid:("list_reverseiterator.__length_hint__":String)=id0;wp_delta;rw[show splitId id0=some ("list_reverseiterator","__length_hint__") from by subst hid;decide +kernel];subst hid)
 refine Y10 (W29 (b:=true) (s:={ s with heap:=h3 }) e3.typeIs (by rw[isSubtype_type];kernel_rfl) ?_);refine Z10 ?_;rw[if_neg (by decide)];have hSf:h0.objs.size∉[s.heap.objs.size,a]:=fun hm=>by simp only[Z13,U15,or_false]at hm;exact hm.elim (fun h=>nS h) fun h=>absurd (show a<h0.objs.size by rw[sz];exact Y26 hlt) (by rw[h];exact W20 _)
 refine Z10 ⟨U35 V26 _,codeAny_extend_loopS (A:=X.A.in1) (Walks.listRev (A:=X.A.in1.in1) hd s.heap.objs.size a (U14 hlt) its.toArray).toS (by simp only[V11];lia) _ hSf _ its.toArray.size 0 _ _ _ rfl (V24 _) ⟨V24 _,by simpa using e3,l3⟩ hS2 (ItemsOf.nil _) fun s' acc' c' hm hS' hacc=>?_⟩;have es:=yD (s:=s) hm.gens hm.drawn hm.os;have kp:∀b o,s.heap.get? b=some o→s'.heap.get? b=some o:=fun b ob e=>hm.heap b ob (fun hb=>by
  have hl:=W12 e;rcases Z13.mp hb with h|h
  ·rw[h,sz]at hl;exact absurd hl (Nat.not_lt.mpr (Nat.le_succ _))
  ·rw[Y15.mp h]at hl;exact absurd hl (W20 _)) (kp3 _ _ (kp0 _ _ e))
 rw[es];exact⟨rfl,.ref h0.objs.size,upd H1 h0.objs.size (.lst xs.reverse),I.laid (t':=s'.toks) kp (by lia) (show cK X.prog X.w _ _ _ (.lst xs.reverse) from⟨by simp;lia,acc'.toList,c',Gg rv hacc,hS'⟩),rfl,q _ (I.hok.fresh (by lia))⟩
end
section
variable {K:KW}{m:List Addr}{H:Hp}{d:D}{t:En→M (List D)}
variable{X:Cx}{pos:Pos}{tg a b:Expr}{ta tb:En→M D}
def nN(xs ys:List D):List D:=List.zipWith (fun x y=>.t [x,y]) xs ys
def yF:D→Option (List D)
 |.t xs=>some xs
 |.k xs=>some xs
 |_=>none
def Ky:List D→M Its'
 |[a,b]=>match yF a,yF b with
  |some xs,some ys=>need (xs.length=ys.length) (ret (nN xs ys,fun _=>True))
  |_,_=>bad
 |_=>bad
theorem yG{v:V}{xs:List D}(r:RV K m H v d)(h:yF d=some xs):∃p vs,v=.ref p∧(∀m' H',Stp m H m' H'→gR K H' p vs)∧RVs K m H vs xs:=by
 cases r with
 |t e l q=>cases h;exact⟨_,_,rfl,fun m' H' s=>gR.of (s.kt _ _ e rfl),l,q⟩
 |k e l q=>cases h;exact⟨_,_,rfl,fun m' H' s=>e H',l,q⟩
 |_=>cases h
theorem So{xs ys:List D}{i:Nat}(h:(nN xs ys)[i]?=some d):∃x y,xs[i]?=some x∧ys[i]?=some y∧d=.t [x,y]:=by
 unfold nN at h;rw[List.getElem?_zipWith]at h;cases h1:xs[i]? with
 |none=>rw[h1]at h;cases h
 |some x=>
  cases h2:ys[i]? with
  |none=>rw[h1,h2]at h;cases h
  |some y=>rw[h1,h2]at h;cases h;exact⟨x,y,rfl,rfl,rfl⟩
theorem AM{es:List Expr}{kk:Nat}{tpos p:Pos}(hg:Gl X "zip")(hm:X.mg "zip"=none)(ha:QA X [a,b] t)(hs:starEach [a,b] X.env=(false,eval a X.env)::starEach [b] X.env)(hpl:(backTo pos (starEach [b] X.env)).any (·.1)=false):
  QI X (.Tuple es kk tpos) (.Call (.Name "zip" p) [a,b] [] pos) (fun env=>bnd (t env) Ky):=by
 refine nG (AL hg hm ha hs hpl) ?_;rintro σ H R ⟨m,env,st,its,st',S,E,e,k⟩;obtain⟨ds,st1,e1,e2⟩:=aA e
 match ds,e1,e2 with
 |[d1,d2],e1,e2=>
  unfold Ky at e2;dsimp only at e2;cases h1:yF d1 with
  |none=>rw[h1]at e2;cases e2
  |some xs=>
   cases h2:yF d2 with
   |none=>rw[h1,h2]at e2;cases e2
   |some ys=>
    rw[h1,h2]at e2;obtain⟨hl,e3⟩:=bY e2;cases aD e3;refine⟨m,env,st,_,_,S,E,e1,fun vs H' m' s S' r=>?_⟩;obtain⟨v1,v2,rfl,r1,r2⟩:=Jv r;obtain⟨p1,w1,rfl,q1,rr1⟩:=yG r1 h1;obtain⟨p2,w2,rfl,q2,rr2⟩:=yG r2 h2;have l1:=rr1.1;have l2:=rr2.1;refine⟨p1,p2,w1,w2,rfl,q1 _ _ .refl,q2 _ _ .refl,by lia,k _ H' m' s S' ?_⟩;intro i m2 H2 st2 p S2 _;refine⟨fun d hd=>?_,fun hi=>?_⟩
    ·obtain⟨x,y,hx,hy,rfl⟩:=So hd;obtain⟨v,hv,rv⟩:=(rr1.stp p).at hx;obtain⟨w,hw,rw'⟩:=(rr2.stp p).at hy;refine⟨⟨w1,w2,q1 _ _ p,q2 _ _ p,rfl,by lia,(U10.mp hv).1⟩,?_⟩;rintro z H3 ⟨T,a,b,rfl,hT,hz1,hz2,rfl⟩;have ea:=hz1 _ (q1 _ _ p);have eb:=hz2 _ (q2 _ _ p);rw[hv]at ea;rw[hw]at eb;cases ea;cases eb;obtain⟨S3,s3,r3⟩:=S2.newT hT (.cons rv (.cons rw' .nil));exact⟨S3,s3,r3⟩
    ·refine⟨⟨w1,q1 _ _ p,rfl⟩,?_⟩;rw[hi];simp[nN]
     lia
def rA(x:Str):List D:=x.cps.toList.map fun c=>.s ⟨#[c]⟩
def kH:List D→M D
 |[.s x]=>need (x.cps.size≤sizeLine) (fun st=>some (.r st.length,st++[.l (rA x)]))
 |[.r l]=>tM [.r l]
 |_=>bad
theorem Gh(x:Str):RVs K m H (iP x) (rA x):=by
 refine⟨by simp[iP,rA],fun j v d a b=>?_⟩;simp only[iP,rA,W14]at a b;cases h:x.cps.toList[j]? with
 |none=>rw[h]at a;cases a
 |some c=>rw[h]at a b;cases a;cases b;exact .s _
theorem Kz(hc:X.calm=true):dB X (.type "list") (LC X.kw kH):=by
 intro pins s σ H xs us Q I r h;obtain⟨m,st,ds,d,st',S,rr,e,k⟩:=h
 match ds,rr,e with
 |[.s x],rr,e=>
  obtain⟨v,rfl,rv⟩:=cL rr;cases rv;unfold kH at e;obtain⟨h,e⟩:=bY e;cases e;refine Ae hc pins s σ H _ us Q I r ⟨x,rfl,h,fun l hl=>?_⟩;obtain⟨S2,s2,r2⟩:=S.newL hl (Gh x);exact k _ _ _ s2 S2 r2
 |[.r l],rr,e=>exact Ra pins s σ H _ us Q I r ⟨m,st,_,d,st',S,rr,e,k⟩
def lT:List D→M D
 |[.b k]=>ret (.i (if k then 1 else 0))
 |_=>bad
theorem Sq:dB X (.type "int") (LC X.kw lT):=by
 refine Eo.imp ?_;rintro xs H Q ⟨m,st,ds,d,st',S,r,e,k⟩
 match ds,r,e with
 |[.b a],r,e=>
  obtain⟨v,rfl,rv⟩:=cL r;cases rv;cases aD e;exact .inr ⟨a,rfl,k.now S (.i _)⟩
def Cu:List D→M D
 |[.r l]=>bnd (getL l) fun xs st=>some (.r st.length,st++[.l xs.reverse])
 |[.f xs]=>fun st=>some (.r st.length,st++[.l xs.reverse])
 |_=>bad
theorem Sr{p p2 pos2:Pos}(h:PE X (.Call (.Name "list" p) [.Call (.Name "reversed" p2) [a] [] pos2] [] pos) (Ux X.K (LA X.kw t))):
  QE X (.Call (.Name "list" p) [.Call (.Name "reversed" p2) [a] [] pos2] [] pos) (fun env=>bnd (t env) Cu):=by
 refine bK h ?_;rintro σ H Q ⟨m,env,st,d,st',S,E,e,k⟩;obtain⟨ds,st1,e1,e2⟩:=aA e
 match ds,e1,e2 with
 |[.r l],e1,e2=>
  obtain⟨xs,st3,e3,e4⟩:=aA e2;obtain⟨h1,rfl⟩:=cP e3;cases e4;refine⟨m,env,st,_,_,S,E,e1,fun vs H' m' s S' r=>?_⟩;obtain⟨v,rfl,rv⟩:=cL r;obtain⟨a,ws,rfl,hl,ho,r2⟩:=S'.lst rv h1;refine⟨a,ws,rfl,fE.of ho,fun p hp=>?_⟩;obtain⟨S2,s2,r3⟩:=S'.newL hp r2.rev;exact k _ _ _ (s.trans s2) S2 r3
 |[.f xs],e1,e2=>
  cases e2;refine⟨m,env,st,_,_,S,E,e1,fun vs H' m' s S' r=>?_⟩;obtain⟨v,rfl,rv⟩:=cL r;cases rv with
  |@f _ ws _ e l q=>
   refine⟨_,ws,rfl,e.sq,fun p hp=>?_⟩;obtain⟨S2,s2,r3⟩:=S'.newL hp (RVs.rev ⟨l,q⟩);exact k _ _ _ (s.trans s2) S2 r3
end
def jJ(C:Addr)(f:Str)(t:En→M D):En→M D:=fun env=>bnd (t env) (lQ C f)
def Uy(C:Addr)(f:Str)(ta tb:En→M D):Sm':=fun env=>bnd (tb env) fun y=>bnd (ta env) fun x=>bnd (jP C f x y) fun _=>ret (.nx,env)
def FV(C:Addr)(f:Str)(g:D→D→M D)(ta tb:En→M D):Sm':=fun env=>bnd (ta env) fun x=>bnd (lQ C f x) fun w=>bnd (tb env) fun y=>bnd (g w y) fun z=>bnd (jP C f x z) fun _=>ret (.nx,env)
def lH(C:Addr)(mt:Str)(g:List D→M D)(te:En→M D)(t:En→M (List D)):En→M D:=fun env=>bnd (te env) fun x=>bnd (ofD C mt x) fun _=>bnd (t env) fun ds=>g (x::ds)
def Ss(C:Addr)(mt:Str)(g:List D→M D)(te:En→M D):En→M D:=fun env=>bnd (te env) fun x=>bnd (ofD C mt x) fun _=>g [x]
def HH(C:Addr)(g:List D→M D)(t:En→M (List D)):En→M D:=fun env=>bnd (t env) (Uv C g)
def JA:En→M D:=fun _=>Uw
def FW(to:En→M D)(t:En→M (List D)):En→M D:=fun env=>bnd (to env) fun x=>bnd (CG x) fun _=>bnd (t env) fun ys=>match ys with |[y]=>CH x y|_=>bad
def sO:Sm':=fun _=>bad
def JB(t:En→M (List D)):En→M Its':=fun env=>bnd (t env) Ky
def JC(t:En→M (List D)):En→M Its':=fun env=>bnd (t env) vM
def noStar:Expr→Bool
 |.Starred ..=>false
 |_=>true
theorem bN{a:Expr}{es:List Expr}{env:Env}(h:noStar a=true):starEach (a::es) env=(false,eval a env)::starEach es env:=by
 cases a<;>first|rfl|cases h
theorem eR{pos:Pos}{env:Env}:∀{es:List Expr},es.all noStar=true→(backTo pos (starEach es env)).any (·.1)=false
 |[],_=>rfl
 |a::es,h=>by
  rw[Z24,Y11]at h;rw[bN h.1];exact eR h.2
theorem mS{pos:Pos}{env:Env}:∀{es:List Expr},es.all noStar=true→(backTo pos (starEach es env)).all (fun x=>!x.1)=true
 |[],_=>rfl
 |a::es,h=>by
  rw[Z24,Y11]at h;rw[bN h.1];exact mS h.2
def nO:Expr→Bool
 |.Call (.Name ..) [] [] _=>false
 |_=>true
theorem fT{o:Expr}{m:Str}{env:Env}{w:Sem Value}(h:nO o=true):attributeBase o m env w=w:=by
 unfold attributeBase
 split
 ·cases h
 ·rfl
theorem tX{o:Expr}{m:Str}{apos pos:Pos}{args:List Expr}{env:Env}(h0:nO o=true)(h1:(apos.endLine==pos.line)=true)(h2:args.all noStar=true)(h3:args.length<29):
  eval (.Call (.Attribute o m apos) args [] pos) env=(do
   let ov ←eval o env
   standAt apos.atName
   let (f,first) ←holding [ov] (getMethod ov m (do return (←importBound o env).getD true))
   callWith pos f first (backTo pos (starEach args env)) (backToKw pos (keywordEach [] env))):=by
 rw[arm_eval_Call,fT h0];have hform:methodCallForm (args.length+([]:List Keyword).length) (backTo pos (starEach args env)) (backToKw pos (keywordEach [] env))=true:=by
  unfold methodCallForm;rw[mS h2];simp only[Y25,Nat.add_zero,Bool.true_and,Y11,U17];exact⟨rfl,by show args.length+0<30;lia⟩
 have hpos:methodCallPos true o env apos pos=pure pos:=by unfold methodCallPos;simp[h1]
 unfold methodCall;simp only[hform,calleeOf,hpos,if_true,pure_bind]
def vN:Expr→Bool
 |.ListComp ..=>false
 |.SetComp ..=>false
 |.DictComp ..=>false
 |_=>true
theorem rB{a:Expr}{t:Option Expr}{l:Nat}{env:Env}(h:vN a=true):swapsWith a t l env=pure false:=by
 unfold swapsWith;cases a<;>first|rfl|cases h
def noName:Expr→Bool
 |.Name ..=>false
 |_=>true
theorem yH{a t:Expr}{l:Nat}{env:Env}(h:noName t=true):swapsWith a (some t) l env=pure false:=by
 cases hc:vN a with
 |true=>exact rB hc
 |false=>cases a<;>first|(cases hc;done)|(unfold swapsWith;cases t<;>first|rfl|cases h)
def La:Expr→Expr→Bool
 |.Tuple ..,.Tuple ..=>false
 |.List ..,.Tuple ..=>false
 |_,_=>true
theorem Af{a t:Expr}{env:Env}(h:La t a=true):swappedStores [t] a env=pure none:=by
 unfold swappedStores;cases t<;>first|rfl|(cases a<;>first|rfl|cases h)
theorem Su{t:Expr}{env:Env}(h:noStar t=true):(assignEach [t] env).map (·.2)=[assign t env]:=by
 cases t<;>first|rfl|cases h
def plainT:Expr→Bool
 |.UnaryOp ..=>false
 |.BoolOp ..=>false
 |.IfExp ..=>false
 |.Compare ..=>false
 |_=>true
theorem Gi{a:Expr}{env:Env}(h:plainT a=true):∀whole,isTrue a env whole=(do let v ←whole;standAt a.pos;holding [v] (truthy v)):=by
 intro w;cases a<;>first|rfl|cases h
def Cv:Expr→Bool
 |.Slice ..=>false
 |.Tuple ..=>false
 |_=>true
theorem Ag{b:Expr}(h:Cv b=true):uS b:=by
 intro o i;cases b<;>first|rfl|cases h
def Lb:Expr→Bool
 |.Set ..=>false
 |_=>true
theorem rD{a:Expr}{env:Env}(h:Lb a=true):∀x,foldedSetIterable a env x=pure x:=by
 intro x;cases a<;>first|rfl|cases h
theorem mT{env:Env}:∀es:List Expr,(assignEach es env).length=es.length
 |[]=>rfl
 |a::es=>by
  have ih:=mT (env:=env) es;cases a<;>(show(assignEach es env).length+1=es.length+1;rw[ih])
theorem lI{env:Env}:∀{es:List Expr},es.all noStar=true→(assignEach es env).findIdx? (·.1)=none
 |[],_=>rfl
 |a::es,h=>by
  rw[Z24,Y11]at h;have ih:=lI (env:=env) h.2;have e:assignEach (a::es) env=(false,assign a env)::assignEach es env:=by
   have:=h.1;cases a<;>first|rfl|cases this
  rw[e,List.findIdx?_cons];simp[ih]
section
variable{α β γ δ:Type}
noncomputable def o1(x:Option α)(f:α→β):Option β:=match x with
 |some a=>some (f a)
 |none=>none
noncomputable def o2(x:Option α)(y:Option β)(f:α→β→γ):Option γ:=match x with
 |some a=>o1 y (f a)
 |none=>none
noncomputable def o3(x:Option α)(y:Option β)(z:Option γ)(f:α→β→γ→δ):Option δ:=match x with
 |some a=>o2 y z (f a)
 |none=>none
noncomputable def grd(b:Bool)(x:Option α):Option α:=match b with
 |true=>x
 |false=>none
theorem aP{x:Option α}{f:α→β}{z:β}(h:o1 x f=some z):∃a,x=some a∧f a=z:=by
 cases x with
 |none=>cases h
 |some a=>exact⟨a,rfl,Y17 h⟩
theorem cE{x:Option α}{y:Option β}{f:α→β→γ}{z:γ}(h:o2 x y f=some z):∃a b,x=some a∧y=some b∧f a b=z:=by
 cases x with
 |none=>cases h
 |some a=>obtain⟨b,h1,h2⟩:=aP h;exact⟨a,b,rfl,h1,h2⟩
theorem eS{x:Option α}{y:Option β}{z:Option γ}{f:α→β→γ→δ}{w:δ}(h:o3 x y z f=some w):∃a b c,x=some a∧y=some b∧z=some c∧f a b c=w:=by
 cases x with
 |none=>cases h
 |some a=>obtain⟨b,c,h1,h2,h3⟩:=cE h;exact⟨a,b,c,rfl,h1,h2,h3⟩
theorem aG{b:Bool}{x:Option α}{z:α}(h:grd b x=some z):b=true∧x=some z:=by
 cases b with
 |false=>cases h
 |true=>exact⟨rfl,h⟩
end
structure ClsI where
 C:Addr
 fs:List Str
 ms:List (Str×(List D→M D))
 ctr:List (Str×(List D→M D))
structure Gt where
 defs:List (Str×(List D→M D))
 cons:List (Str×D)
 blt:List Str
 cls:ClsI
structure GtOk (G:Gt) (k:Nat) (P:Program) (w:World) (K:Fg9) (mg:Str→Option Value) (base:Heap):Prop where
 defs:∀x g,G.defs.lookup x=some g→∃f fd ps,FnOk P w K mg base CX0 k f fd ps (LF ⟨K,P,w⟩ g)∧mg x=some (.ref f)∧PySem.W.keepIn K (.ref f)=true∧Binds K fd ps []∧∃o,K.lookup f=some o∧o.data=.func fd
 fs:∀f,G.cls.fs.contains f=true→Cls K G.cls.C∧fI K G.cls.C f
 ms:∀x g,G.cls.ms.lookup x=some g→Cls K G.cls.C∧∃f fd ps,Meth K G.cls.C x f∧FnOk P w K mg base CX0 k f fd ps (LF ⟨K,P,w⟩ g)∧Binds K fd ps []
 ctr:∀x g,G.cls.ctr.lookup x=some g→∃f fd ps j,k=j+1∧Mk K G.cls.C f∧FnOk P w K mg base CX0 j f fd ps (LF ⟨K,P,w⟩ g)∧mg x=some (.ref G.cls.C)∧Binds K fd ps []
 cons:∀x d,G.cons.lookup x=some d→∃v u,mg x=some u∧RelV v u∧∀m H,RV ⟨K,P,w⟩ m H v d
 blt:∀x,G.blt.contains x=true→mg x=none
structure Fr where
 N:List Str
 nm:List (Str×NameKind)
 k:Nat
structure Ok (G:Gt) (F:Fr) (X:Cx):Prop where
 g:GtOk G F.k X.prog X.w X.K X.mg X.base
 n:X.N=F.N
 s:X.env.scope.names=F.nm
 kind:X.env.scope.kind=.function
 cells:∀y,(F.nm.lookup y=some .cell∨F.nm.lookup y=some .free)→∃c,X.env.cells.lookup y=some c
 r:Room F.k X.A
 calm:X.calm=true
def okN(x:Str):Bool:=!(x==("__debug__":Str))&&!(x==("__classdict__":Str))&&!(x==("__name__":Str))
def Sv(nm:List (Str×NameKind))(x:Str):Bool:=match nm.lookup x with
 |some .local=>true
 |some .cell=>true
 |some .free=>true
 |_=>false
noncomputable def Ah(nm:List (Str×NameKind))(x:Str):Bool:=match nm.lookup x with
 |some .local=>true
 |some .cell=>true
 |_=>false
def Gj(nm:List (Str×NameKind))(x:Str):Bool:=match nm.lookup x with
 |some .globalImplicit=>true
 |_=>false
section
variable{G:Gt}{F:Fr}{X:Cx}{x:Str}
theorem Ok.vis(ok:Ok G F X)(h:Sv F.nm x=true):Vis X.env.scope x:=by
 unfold Sv at h;unfold Vis;rw[ok.s]
 split at h<;>first|(exact .inl ‹_›)|(exact .inr (.inl ‹_›))|(exact .inr (.inr ‹_›))|cases h
theorem Ok.loc(ok:Ok G F X)(h:Ah F.nm x=true):Loc X.env.scope x:=by
 unfold Ah at h;unfold Loc;rw[ok.s]
 split at h<;>first|(exact .inl ‹_›)|(exact .inr ‹_›)|cases h
theorem Ok.gl(ok:Ok G F X)(h:Gj F.nm x=true):Gl X x:=by
 unfold Gj at h;unfold Gl Env.kindOf;rw[ok.s]
 split at h
 ·assumption
 ·cases h
theorem kI(h:okN x=true):(x==("__debug__":Str))=false∧(x==("__classdict__":Str))=false∧x≠"__name__":=by
 unfold okN at h;simp only[Y11,U22]at h;exact⟨h.1.1,h.1.2,by intro e;have:=h.2;rw[e]at this;simp at this⟩
def vO(N:List Str)(x:Str):Option Nat:=match N with
 |[]=>none
 |y::N=>if(y==x)=true then some 0 else o1 (vO N x) (·+1)
theorem fL:∀{N:List Str} {i:Nat},vO N x=some i→N[i]?=some x
 |[],i,h=>by cases h
 |y::N,i,h=>by
  unfold vO at h
  split at h
  ·rename_i e;cases h;simp at e;rw[e];rfl
  ·obtain⟨j,h1,rfl⟩:=aP h
   simpa using fL h1
theorem lookup_mem{β:Type}:∀{l:List (Str×β)} {y:β},l.lookup x=some y→(x,y)∈l:=fun h=>U20 h
end
def JY:Operator→Option (D→D→M D)
 |.Add=>some aI
 |.Sub=>some nH
 |.Mult=>some qO
 |.FloorDiv=>some lS
 |.Mod=>some lU
 |.Pow=>some zX
 |_=>none
def JD:CmpOp→Option (D→D→M D)
 |.Eq=>some gZ
 |.NotEq=>some Of
 |.Lt=>some Yr
 |.LtE=>some HC
 |.Gt=>some Oe
 |.GtE=>some ES
 |.In=>some inD
 |.NotIn=>some iL
 |.Is=>some HD
 |_=>none
theorem AN{X:Cx}{f:D→D→M D}(h:JY op=some f):eG X (binaryOp op) (LR X.kw f):=by
 cases op<;>first|(cases h;first|exact Yq|exact Ys|exact Yv|exact Qu|exact Yt|exact Yu)|cases h
def JE:Operator→Option (D→D→M D)
 |.Add=>some kE
 |.Sub=>some tW
 |_=>none
theorem Lc{X:Cx}{f:D→D→M D}(h:JE op=some f):eG X (inplaceOp op) (LR X.kw f):=by
 cases op<;>first|(cases h;first|exact Zi|exact AG)|cases h
theorem Ld{X:Cx}{k:Nat}{op:CmpOp}{f:D→D→M D}(hr:Room k X.A)(h:JD op=some f):eG X (compareOp op) (LR X.kw f):=by
 cases op<;>first|(cases h;first|exact EX (hu60' hr)|exact EY (hu60' hr)|exact ET|exact EU|exact EV|exact EW|exact EZ (hu1 hr)|exact Jq (hu1 hr)|exact FA)|cases h
def bfs:List (Str×String×(List D→M D)):=[("len","len",bZ),("isinstance","isinstance",bD),("all","all",Ga),("sorted","sorted",mR)]
def tfs:List (Str×String×(List D→M D)):=[("list","list",kH),("tuple","tuple",xT),("int","int",lT)]
def tys:List (Str×String):=[("tuple","tuple"),("int","int"),("str","str"),("bool","bool")]
theorem AO{X:Cx}{x:Str}{g:List D→M D}(hc:X.calm=true)(h:bfs.lookup x=some (id,g)):dB X (.builtin id) (LC X.kw g)∧bootBuiltins x=some (.builtin id):=by
 have h:=lookup_mem h;simp only[bfs,Z13,U21,U15,or_false]at h;rcases h with⟨rfl,rfl,rfl⟩|⟨rfl,rfl,rfl⟩|⟨rfl,rfl,rfl⟩|⟨rfl,rfl,rfl⟩<;>
  refine⟨?_,by decide +kernel⟩<;>first|exact AF hc|exact Gb hc|exact Yz|exact Fp
theorem AQ{X:Cx}{x:Str}{g:List D→M D}(hc:X.calm=true)(h:tfs.lookup x=some (id,g)):dB X (.type id) (LC X.kw g)∧bootBuiltins x=some (.type id):=by
 have h:=lookup_mem h;simp only[tfs,Z13,U21,U15,or_false]at h;rcases h with⟨rfl,rfl,rfl⟩|⟨rfl,rfl,rfl⟩|⟨rfl,rfl,rfl⟩<;>refine⟨?_,by decide +kernel⟩<;>first|exact Kz hc|exact Jw|exact Sq
theorem AR{x:Str}{T:String}(h:tys.lookup x=some T):bootBuiltins x=some (.type T):=by
 have h:=lookup_mem h;simp only[tys,Z13,U21,U15,or_false]at h;rcases h with⟨rfl,rfl⟩|⟨rfl,rfl⟩|⟨rfl,rfl⟩|⟨rfl,rfl⟩<;>decide +kernel
structure MOk (X:Cx) (name:Str) (T:String) (f:D→List D→M D):Prop where
 ex:∃id,PlainAttrs T∧Slot T name id∧typeOf (.builtin id)=pure (.type "method_descriptor")∧sD X id (LM X.kw f)
def mts:List (Str×String×(D→List D→M D)):=[("append","list",eH),("pop","list",iM),("extend","list",cN),("join","str",iH)]
theorem Le{X:Cx}{x:Str}{T:String}{f:D→List D→M D}(h:mts.lookup x=some (T,f)):MOk X x T f:=by
 have h:=lookup_mem h;simp only[mts,Z13,U21,U15,or_false]at h;rcases h with⟨rfl,rfl,rfl⟩|⟨rfl,rfl,rfl⟩|⟨rfl,rfl,rfl⟩|⟨rfl,rfl,rfl⟩
 ·exact⟨_,U39,PySem.F.slot_list_append,PySem.F.type_list_append,Fs⟩
 ·exact⟨_,U39,PySem.F.slot_list_pop,PySem.F.type_list_pop,Zb⟩
 ·exact⟨_,U39,PySem.F.slot_list_extend,PySem.F.type_list_extend,Ft⟩
 ·exact⟨_,PySem.F.plainAttrs_str,PySem.F.slot_str_join,PySem.F.type_str_join,Sf⟩
structure Cr where
 e:Fr→Expr→Option (En→M D)
 t:Fr→Expr→Option (En→M Bool)
structure Snd (G:Gt) (r:Cr):Prop where
 e:∀{F:Fr} {e:Expr} {t:En→M D},r.e F e=some t→∀{X:Cx},Ok G F X→QE X e t
 t:∀{F:Fr} {e:Expr} {t:En→M Bool},r.t F e=some t→∀{X:Cx},Ok G F X→QT X e t
def Lf(G:Gt)(F:Fr)(x:Str):Option (En→M D):=match vO F.N x with
 |some i=>grd (Sv F.nm x&&okN x) (some (eV i))
 |none=>grd (Gj F.nm x&&okN x) (match G.cons.lookup x with
  |some d=>some (eC d)
  |none=>grd (G.blt.contains x) (o1 (tys.lookup x) fun T=>eC (.ty T)))
def Ai:Const→Option (En→M D)
 |.int i=>some (eC (.i i))
 |.str s=>some (eC (.s s))
 |.bool b=>some (eC (.b b))
 |.none=>some (eC .no)
 |_=>none
def JF(r:Cr)(F:Fr)(op:UnaryOp)(a:Expr):Option (En→M D):=match op with
 |.USub=>o1 (r.e F a) (Fy mP)
 |.Not=>o1 (r.e F a) IV
 |_=>none
def AS(r:Cr)(F:Fr)(a:Expr)(ops:List CmpOp)(bs:List Expr):Option (En→M D):=match ops,bs with
 |[op],[b]=>grd (!behindInMarks op b) (o3 (JD op) (r.e F a) (r.e F b) aT)
 |_,_=>none
def HI(r:Cr)(F:Fr)(op:BoolOp):List Expr→Option (En→M D)
 |[]=>none
 |[a]=>r.e F a
 |a::b::rest=>o2 (r.e F a) (HI r F op (b::rest)) (match op with |.And=>Co|.Or=>HE)
def cA(r:Cr)(F:Fr):List Expr→Option (En→M (List D))
 |[]=>some aN
 |a::es=>grd (noStar a) (o2 (r.e F a) (cA r F es) aC)
def cO(r:Cr)(F:Fr):Option Expr→Option (En→M (Option Int))
 |none=>some oN
 |some a=>o1 (r.e F a) oS
def AU(r:Cr)(F:Fr)(a b:Expr):Option (En→M D):=match b with
 |.Slice lo hi none _=>o3 (r.e F a) (cO r F lo) (cO r F hi) vK
 |.Slice none none (some c) _=>o2 (r.e F a) (r.e F c) CI
 |b=>grd (Cv b) (o2 (r.e F a) (r.e F b) bL)
def Aj(G:Gt)(r:Cr)(F:Fr)(x:Str)(args:List Expr):Option (En→M D):=match vO F.N x,args with
 |none,a::es=>grd (Gj F.nm x&&okN x&&es.all noStar) (match G.defs.lookup x with
  |some g=>o1 (cA r F (a::es)) (aM g)
  |none=>grd (G.blt.contains x) (match bfs.lookup x with
   |some (_,g)=>o1 (cA r F (a::es)) (aM g)
   |none=>match tfs.lookup x with
    |some (_,g)=>o1 (cA r F (a::es)) (aM g)
    |none=>none))
 |some i,a::es=>grd (Sv F.nm x&&okN x&&noStar a) (o1 (cA r F (a::es)) (AJ G.defs i))
 |_,_=>none
def Ak(G:Gt)(r:Cr)(F:Fr)(x:Str)(args:List Expr):Option (En→M D):=match G.cls.ctr.lookup x,args with
 |some g,a::es=>grd (Gj F.nm x&&okN x&&es.all noStar) (o1 (cA r F (a::es)) (HH G.cls.C g))
 |none,[]=>grd (x==("set":Str)&&Gj F.nm "set"&&G.blt.contains "set") (some JA)
 |_,args=>Aj G r F x args
def Cw:List Expr→Option Expr
 |[.Call (.Name z _) [a] [] _]=>grd (z==("reversed":Str)) (some a)
 |_=>none
def Al(G:Gt)(r:Cr)(F:Fr)(x:Str)(args:List Expr):Option (En→M D):=match Cw args with
  |some a=>grd (x==("list":Str)&&Gj F.nm "list"&&Gj F.nm "reversed"&&G.blt.contains "list"&&G.blt.contains "reversed"&&noStar a) (o1 (cA r F [a]) (aM Cu))
  |none=>Ak G r F x args
def Lg(m:Str):List Expr→Option (Expr×Expr)
 |[a,b]=>grd (m==("get":Str)) (some (a,b))
 |_=>none
def Am(G:Gt)(r:Cr)(F:Fr)(o:Expr)(m:Str)(args:List Expr):Option (En→M D):=match G.cls.ms.lookup m,args with
 |some g,[]=>o1 (r.e F o) (Ss G.cls.C m g)
 |some g,a::es=>grd ((a::es).all noStar&&decide ((a::es).length<29)) (o2 (r.e F o) (cA r F (a::es)) (lH G.cls.C m g))
 |none,[a]=>grd (m==("add":Str)&&noStar a) (o2 (r.e F o) (cA r F [a]) FW)
 |none,_=>none
def An(G:Gt)(r:Cr)(F:Fr)(o:Expr)(m:Str)(apos:Pos)(args:List Expr)(cpos:Pos):Option (En→M D):=
 grd (nO o&&apos.endLine==cpos.line) (match mts.lookup m,args with
  |some (T,f),[]=>o1 (r.e F o) (Hg T f)
  |some (T,f),a::es=>grd ((a::es).all noStar&&decide ((a::es).length<29)) (o2 (r.e F o) (cA r F (a::es)) (rX T f))
  |none,args=>match Lg m args with
   |some (a,b)=>grd (noStar a&&noStar b) (o3 (r.e F o) (r.e F a) (r.e F b) IW)
   |none=>Am G r F o m args)
def Lh(G:Gt)(r:Cr)(F:Fr)(f:Expr)(args:List Expr)(kws:List Keyword)(pos:Pos):Option (En→M D):=match kws with
 |[]=>match f with
  |.Name x _=>Al G r F x args
  |.Attribute o m apos=>An G r F o m apos args pos
  |_=>none
 |_=>none
def Sx(r:Cr)(F:Fr):List (Option Expr)→List Expr→Option (List ((En→M D)×(En→M D)))
 |[],[]=>some []
 |some k::ks,v::vs=>o3 (r.e F k) (r.e F v) (Sx r F ks vs) fun a b l=>(a,b)::l
 |_,_=>none
def Li(r:Cr)(F:Fr)(ks:List (Option Expr))(vs:List Expr):Option (En→M D):=match ks,vs with
 |k::ks,vs=>grd (Nat.ble (k::ks).length 15) (o1 (Sx r F (k::ks) vs) Rw)
 |_,_=>none
section
variable {x m:Str}{args:List Expr}{o:Expr}
variable{G:Gt}{r:Cr}{F:Fr}{X:Cx}{pos:Pos}
theorem Lj{t:En→M D}(h:Lf G F x=some t)(ok:Ok G F X):QE X (.Name x pos) t:=by
 unfold Lf at h
 split at h
 ·rename_i i hi;obtain⟨h1,h2⟩:=aG h;cases h2;rw[Y11]at h1;exact qv i (by rw[ok.n];exact fL hi) (ok.vis h1.1) (kI h1.2).1 (kI h1.2).2.1
 ·obtain⟨h1,h2⟩:=aG h;rw[Y11]at h1
  split at h2
  ·rename_i d hd;cases h2;obtain⟨v,u,e1,e2,e3⟩:=ok.g.cons _ _ hd;exact Qq d (ok.gl h1.1) e1 e2 e3 (kI h1.2).1
  ·obtain⟨h3,h4⟩:=aG h2;obtain⟨T,h5,rfl⟩:=aP h4;exact EK (ok.gl h1.1) (ok.g.blt _ h3) (AR h5) (kI h1.2).2.2 (kI h1.2).1
theorem Gk{c:Const}{k:Nat}{t:En→M D}(h:Ai c=some t):QE X (.Constant c k pos) t:=by
 unfold Ai at h
 split at h<;>first|(cases h;first|exact Xz|exact Ya|exact EJ|exact Yb)|cases h
theorem AV(hr:Snd G r){op:UnaryOp}{a:Expr}{t:En→M D}(h:JF r F op a=some t)(ok:Ok G F X):QE X (.UnaryOp op a pos) t:=by
 unfold JF at h
 split at h
 ·obtain⟨ta,h1,rfl⟩:=aP h;exact ER Yw (hr.e h1 ok)
 ·obtain⟨ta,h1,rfl⟩:=aP h;exact Ym (hr.e h1 ok)
 ·cases h
theorem Sy(hr:Snd G r){a:Expr}{ops:List CmpOp}{bs:List Expr}{t:En→M D}(h:AS r F a ops bs=some t)(ok:Ok G F X):QE X (.Compare a ops bs pos) t:=by
 unfold AS at h
 split at h
 ·obtain⟨h0,h⟩:=aG h;obtain⟨f,ta,tb,h1,h2,h3,rfl⟩:=eS h;exact Yc (Ld ok.r h1) (hr.e h2 ok) (hr.e h3 ok) (by simpa using h0)
 ·cases h
theorem Ao(hr:Snd G r){op:BoolOp}:∀{vs:List Expr} {t:En→M D},HI r F op vs=some t→Ok G F X→QE X (.BoolOp op vs pos) t
 |[],t,h,ok=>by cases h
 |[a],t,h,ok=>Yk (hr.e h ok)
 |a::b::rest,t,h,ok=>by
  unfold HI at h;obtain⟨ta,tb,h1,h2,rfl⟩:=cE h;cases op with
  |And=>exact Yl (hr.e h1 ok) (Ao hr h2 ok)
  |Or=>exact EO (hr.e h1 ok) (Ao hr h2 ok)
theorem gJ(hr:Snd G r):∀{es:List Expr} {t:En→M (List D)},cA r F es=some t→Ok G F X→QA X es t
 |[],t,h,ok=>by cases h;exact Yn
 |a::es,t,h,ok=>by
  unfold cA at h;obtain⟨h0,h⟩:=aG h;obtain⟨ta,tb,h1,h2,rfl⟩:=cE h;exact Qs (hr.e h1 ok) (gJ hr h2 ok) (bN h0)
theorem vP:∀{es:List Expr} {t:En→M (List D)},cA r F es=some t→es.all noStar=true
 |[],_,_=>rfl
 |a::es,t,h=>by
  unfold cA at h;obtain⟨h0,h⟩:=aG h;obtain⟨ta,tb,h1,h2,rfl⟩:=cE h;rw[Z24,h0,vP h2];rfl
theorem Lk(hr:Snd G r){o:Option Expr}{t:En→M (Option Int)}(h:cO r F o=some t)(ok:Ok G F X):QO X o t:=by
 cases o with
 |none=>cases h;exact Qx
 |some a=>obtain⟨ta,h1,rfl⟩:=aP h;exact Qy (hr.e h1 ok)
theorem Sz(hr:Snd G r){a b:Expr}{t:En→M D}(h:AU r F a b=some t)(ok:Ok G F X):QE X (.Subscript a b pos) t:=by
 unfold AU at h
 split at h
 ·obtain⟨ta,tl,th,h1,h2,h3,rfl⟩:=eS h;exact Ju (hr.e h1 ok) (Lk hr h2 ok) (Lk hr h3 ok)
 ·obtain⟨ta,tb,h1,h2,rfl⟩:=cE h;exact FN (hr.e h1 ok) (hr.e h2 ok)
 ·obtain⟨h0,h⟩:=aG h;obtain⟨ta,tb,h1,h2,rfl⟩:=cE h;exact FC (hu1 ok.r) (hr.e h1 ok) (hr.e h2 ok) (Ag h0)
theorem Gm(hr:Snd G r){p:Pos}{t:En→M D}(h:Aj G r F x args=some t)(ok:Ok G F X):QE X (.Call (.Name x p) args [] pos) t:=by
 unfold Aj at h
 split at h
 ·rename_i a es hi;obtain⟨h0,h⟩:=aG h;rw[Y11,Y11]at h0;obtain⟨⟨h0,h0'⟩,hst⟩:=h0;have hN:=kI h0';have sc:∀{tt},cA r F (a::es)=some tt→starEach (a::es) X.env=(false,eval a X.env)::starEach es X.env:=fun hh=>bN (by have:=vP hh;rw[Z24,Y11]at this;exact this.1)
  split at h
  ·rename_i g hd;obtain⟨ta,h2,rfl⟩:=aP h;obtain⟨f,fd,ps,e1,e2,e3,e4,_⟩:=ok.g.defs _ _ hd;exact Qt e1 ok.r (ok.gl h0) e2 e3 e4 pass0 (gJ hr h2 ok) hN.1 (sc h2) (eR hst)
  ·obtain⟨h1,h⟩:=aG h
   split at h
   ·rename_i id g hb;obtain⟨ta,h2,rfl⟩:=aP h;obtain⟨q1,q2⟩:=AO (X:=X) ok.calm hb;exact Jk q1 (ok.gl h0) (ok.g.blt _ h1) q2 (gJ hr h2 ok) hN.2.2 hN.1 (sc h2) (eR hst)
   ·split at h
    ·rename_i id g hb;obtain⟨ta,h2,rfl⟩:=aP h;obtain⟨q1,q2⟩:=AQ (X:=X) ok.calm hb;exact Fj q1 (ok.gl h0) (ok.g.blt _ h1) q2 (gJ hr h2 ok) hN.2.2 hN.1 (sc h2) (eR hst)
    ·cases h
 ·rename_i i a es hi;obtain⟨h0,h⟩:=aG h;simp only[Y11]at h0;obtain⟨⟨h0,h0'⟩,hst⟩:=h0;have hN:=kI h0';obtain⟨ta,h2,rfl⟩:=aP h;exact Ks ⟨fun x g e=>by obtain⟨f,fd,ps,e1,e2,e3,e4,o,e5,e6⟩:=ok.g.defs _ _ e;exact⟨f,fd,ps,o,e1,e2,e5,e6,e4⟩⟩ ok.r (gJ hr h2 ok) (by rw[ok.n];exact fL hi) (ok.vis h0) hN.1 hN.2.1 (bN hst)
 ·cases h
theorem Gn(hr:Snd G r){p:Pos}{t:En→M D}(h:Ak G r F x args=some t)(ok:Ok G F X):QE X (.Call (.Name x p) args [] pos) t:=by
 unfold Ak at h
 split at h
 ·rename_i g a es hd;obtain⟨h0,h⟩:=aG h;simp only[Y11]at h0;obtain⟨⟨h0,h0'⟩,hst⟩:=h0;have hN:=kI h0';obtain⟨ta,h2,rfl⟩:=aP h;obtain⟨f,fd,ps,j,ej,e1,e2,e3,e4⟩:=ok.g.ctr _ _ hd;exact Se e1 e2 (by rw[←ej];exact ok.r) (ok.gl h0) e3 e4 pass0 (gJ hr h2 ok) hN.1 (bN (by have:=vP h2;rw[Z24,Y11]at this;exact this.1)) (eR hst)
 ·obtain⟨h0,h'⟩:=aG h;clear h;simp only[Y11]at h0;obtain⟨⟨h0,h1⟩,h2⟩:=h0;simp at h0;subst h0;cases h';exact Sh (ok.gl h1) (ok.g.blt _ h2)
 ·exact Gm hr h ok
theorem rE{a:Expr}(h:Cw args=some a):∃p p2,args=[.Call (.Name "reversed" p) [a] [] p2]:=by
 unfold Cw at h
 split at h
 ·obtain⟨h1,h2⟩:=aG h;cases h2;simp at h1;subst h1;exact⟨_,_,rfl⟩
 ·cases h
theorem Aq{a b:Expr}(h:Lg m args=some (a,b)):m="get"∧args=[a,b]:=by
 unfold Lg at h
 split at h
 ·obtain⟨h1,h2⟩:=aG h;cases h2;exact⟨by simpa using h1,rfl⟩
 ·cases h
theorem Gp(hr:Snd G r){p:Pos}{t:En→M D}(h:Al G r F x args=some t)(ok:Ok G F X):QE X (.Call (.Name x p) args [] pos) t:=by
 unfold Al at h
 split at h
 ·rename_i a hz;obtain⟨p1,p2,rfl⟩:=rE hz;obtain⟨h0,h3⟩:=aG h;clear h;simp only[Y11]at h0;obtain⟨⟨⟨⟨⟨z1,z2⟩,z3⟩,z4⟩,z5⟩,z6⟩:=h0;simp at z1;subst z1;obtain⟨ta,h2,rfl⟩:=aP h3;exact Sr (Sn ok.calm (ok.gl z2) (ok.g.blt _ z4) (ok.gl z3) (ok.g.blt _ z5) (gJ hr h2 ok) (bN z6))
 ·exact Gn hr h ok
theorem Gq(hr:Snd G r){apos cpos:Pos}{t:En→M D}(h0:nO o=true)(h1:(apos.endLine==cpos.line)=true)(h:Am G r F o m args=some t)(ok:Ok G F X):QE X (.Call (.Attribute o m apos) args [] cpos) t:=by
 unfold Am at h
 split at h
 ·rename_i g hd;obtain⟨to,h2,rfl⟩:=aP h;obtain⟨c,f,fd,ps,e1,e2,e3⟩:=ok.g.ms _ _ hd;exact Kn (hr.e h2 ok) c e1 e2 ok.r e3 pass0 (tX h0 h1 rfl (by decide))
 ·rename_i g a es hd;obtain⟨h3,h⟩:=aG h;rw[Y11]at h3;obtain⟨to,ta,h2,h4,rfl⟩:=cE h;obtain⟨c,f,fd,ps,e1,e2,e3⟩:=ok.g.ms _ _ hd;have hs:=h3.1;rw[Z24,Y11]at hs;exact Sb (hr.e h2 ok) c e1 e2 ok.r e3 pass0 (gJ hr h4 ok) (bN hs.1) (eR hs.2) (tX h0 h1 h3.1 (of_decide_eq_true h3.2))
 ·rename_i a hd;obtain⟨h3,h⟩:=aG h;rw[Y11]at h3;obtain⟨to,ta,h2,h4,rfl⟩:=cE h;have hm:=eq_of_beq h3.1;subst hm;refine Si (hr.e h2 ok) (gJ hr h4 ok) (fT h0) ?_ h1 (bN h3.2) (eR rfl);rw[mS (by rw[Z24,h3.2];rfl)]
  rfl
 ·cases h
theorem Gr(hr:Snd G r){apos cpos:Pos}{t:En→M D}(h:An G r F o m apos args cpos=some t)(ok:Ok G F X):QE X (.Call (.Attribute o m apos) args [] cpos) t:=by
 unfold An at h;obtain⟨h0,h'⟩:=aG h;clear h;rw[Y11]at h0
 split at h'
 ·rename_i T f hm;obtain⟨to,h1,rfl⟩:=aP h';obtain⟨id,q1,q2,q3,q4⟩:=(Le (X:=X) hm).ex;exact Za q1 q2 q3 q4 (hr.e h1 ok) (fT h0.1) h0.2
 ·rename_i T f a es hm;obtain⟨h3,h5⟩:=aG h';clear h';obtain⟨to,ta,h1,h2,rfl⟩:=cE h5;obtain⟨id,q1,q2,q3,q4⟩:=(Le (X:=X) hm).ex;rw[Y11]at h3;have hs:=h3.1;rw[Z24,Y11]at hs;have hl:=of_decide_eq_true h3.2;refine FF q1 q2 q3 q4 (hr.e h1 ok) (gJ hr h2 ok) (fT h0.1) ?_ h0.2 (bN hs.1) (eR hs.2);rw[mS h3.1];simp only[Y25,Nat.add_zero,Bool.true_and,Y11,U17];exact⟨rfl,by simp at hl⊢;lia⟩
 ·split at h'
  case h_2=>exact Gq hr h0.1 h0.2 h' ok
  rename_i a b hm;obtain⟨rfl,rfl⟩:=Aq hm;obtain⟨h3,h5⟩:=aG h';clear h';obtain⟨to,ta,tb,h1,h2,h4,rfl⟩:=eS h5;rw[Y11]at h3;obtain⟨z2,z3⟩:=h3;have e:starEach [a,b] X.env=[(false,eval a X.env),(false,eval b X.env)]:=by rw[bN z2,bN z3];rfl
  exact Rb (hu1 ok.r) (hr.e h1 ok) (hr.e h2 ok) (hr.e h4 ok) ⟨fT h0.1,by rw[e];rfl,h0.2,by rw[e];rfl⟩
theorem Ll(hr:Snd G r){f:Expr}{kws:List Keyword}{t:En→M D}(h:Lh G r F f args kws pos=some t)(ok:Ok G F X):QE X (.Call f args kws pos) t:=by
 unfold Lh at h
 split at h
 ·split at h
  ·exact Gp hr h ok
  ·exact Gr hr h ok
  ·cases h
 ·cases h
theorem Cy(hr:Snd G r)(ok:Ok G F X):∀{ks:List (Option Expr)} {vs:List Expr} {ps:List ((En→M D)×(En→M D))},Sx r F ks vs=some ps→PPs X pos ks vs (ps.map fun p=>(LE X.kw p.1,LE X.kw p.2))∧ks.all (·.isSome)=true∧ks.length=vs.length
 |[],[],ps,h=>by cases h;exact⟨Qj,rfl,rfl⟩
 |some k::ks,v::vs,ps,h=>by
  unfold Sx at h;obtain⟨a,b,l,h1,h2,h3,rfl⟩:=eS h;obtain⟨q1,q2,q3⟩:=Cy hr ok h3;exact⟨Iu (hr.e h1 ok) (hr.e h2 ok) q1,q2,by simp[q3]⟩
 |none::ks,_,ps,h=>by cases h
 |[],v::vs,ps,h=>by cases h
 |some k::ks,[],ps,h=>by cases h
theorem Lm(hr:Snd G r){ks:List (Option Expr)}{vs:List Expr}{t:En→M D}(h:Li r F ks vs=some t)(ok:Ok G F X):QE X (.Dict ks vs pos) t:=by
 unfold Li at h
 split at h
 ·obtain⟨h0,h'⟩:=aG h;obtain⟨ps,h1,rfl⟩:=aP h';obtain⟨q1,q2,q3⟩:=Cy (pos:=pos) hr ok h1;exact FI q1 q2 q3 (by simp) (W35 h0)
 ·cases h
end
def JG(G:Gt)(r:Cr)(F:Fr)(args:List Expr):Option (En→M Its'):=match args with
 |[a]=>grd (Gj F.nm "range"&&G.blt.contains "range"&&noStar a) (o1 (cA r F [a]) Rv)
 |_=>none
def pL:Expr→Bool
 |.Tuple ..=>true
 |_=>false
def AW:Expr→Option (Str×List Expr)
 |.Call (.Name x _) args [] _=>some (x,args)
 |_=>none
def vQ:Expr→Option (Expr×Pos×Pos)
 |.Call (.Attribute o m apos) [] [] cpos=>grd (m==("items":Str)) (some (o,apos,cpos))
 |_=>none
def JH(x:Str):List Expr→Option (Expr×Expr)
 |[a,b]=>grd (x==("zip":Str)) (some (a,b))
 |_=>none
def HJ(G:Gt)(r:Cr)(F:Fr)(tg e:Expr):Option (En→M Its'):=match AW e with
 |some (x,args)=>(match x==("range":Str),x==("enumerate":Str),args with
  |true,_,args=>JG G r F args
  |_,true,[a]=>(match Cw [a]with
   |some b=>grd (pL tg&&Gj F.nm "enumerate"&&G.blt.contains "enumerate"&&Gj F.nm "reversed"&&G.blt.contains "reversed"&&noStar b) (o1 (cA r F [b]) JC)
   |none=>grd (pL tg&&Gj F.nm "enumerate"&&G.blt.contains "enumerate"&&noStar a) (o1 (cA r F [a]) IX))
  |_,_,args=>(match JH x args with
   |some (a,b)=>grd (pL tg&&Gj F.nm "zip"&&G.blt.contains "zip"&&noStar a&&noStar b) (o1 (cA r F [a,b]) JB)
   |none=>o1 (r.e F e) iS))
 |none=>(match vQ e with
  |some (o,apos,cpos)=>grd (pL tg&&nO o&&apos.endLine==cpos.line) (o1 (r.e F o) HG)
  |none=>o1 (r.e F e) iS)
def Cz:Expr→Option (List Str×(D→Sto→Option (List D)))
 |.Name x _=>some ([x],bd1)
 |.Tuple es _ _=>o1 (es.foldr (fun e l=>match e with |.Name x _=>o1 l (x::·)|_=>none) (some [])) fun xs=>(xs,Zr xs.length)
 |_=>none
def ixs(N:List Str):List Str→Option (List Nat)
 |[]=>some []
 |y::l=>o2 (vO N y) (ixs N l) (·::·)
noncomputable def vR(nm names:List (Str×NameKind)):List (Str×NameKind):=names.map fun(n,k)=>if(k==.free&&nm.lookup n==some .cell) then(n,.cell) else(n,k)
theorem lW{env:Env}:∀(names:List (Str×NameKind)) (acc:List (Str×Addr)),(∀y∈names,y.2=.free→∃c,env.cells.lookup y.1=some c)→(∀y c,acc.lookup y=some c→env.cells.lookup y=some c)→
  ∃cl,(forIn names acc (fun(x:Str×NameKind) cs=>match x with
   |(name,kind)=>if(kind==.free)=true then do
     let a ←cellOf env name
     pure (ForInStep.yield ((name,a)::cs))
    else pure (ForInStep.yield cs)):Sem (List (Str×Addr)))=pure cl∧(∀y c,cl.lookup y=some c→env.cells.lookup y=some c)∧(∀y∈names,y.2=.free→∃c,cl.lookup y.1=some c)∧∀y c,acc.lookup y=some c→∃c',cl.lookup y=some c'
 |[],acc,_,h=>⟨acc,rfl,h,fun y hy=>by simp at hy,fun y c e=>⟨c,e⟩⟩
 |(n,k)::names,acc,h1,h2=>by
  rw[V39]
  by_cases hk:(k==.free)=true
  ·have hk':k=.free:=by simpa using hk
   obtain⟨c,hc⟩:=h1 (n,k) (by simp) hk';obtain⟨cl,g1,g2,g3,g4⟩:=lW names ((n,c)::acc) (fun y hy=>h1 y (U11 _ hy)) (by
    intro y d e;rw[U32]at e
    split at e
    ·rename_i hy;cases e;rw[show y=n by simpa using hy];exact hc
    ·exact h2 y d e)
   refine⟨cl,?_,g2,?_,?_⟩
   ·simp only[hk,if_true];unfold cellOf;rw[hc];exact g1
   ·intro y hy hf;rcases Z13.mp hy with rfl|hy
    ·exact g4 n c (by simp)
    ·exact g3 y hy hf
   ·intro y d e
    by_cases hy:y=n
    ·exact g4 y c (by rw[U32];simp[hy])
    ·have q:(y==n)=false:=by simpa using hy
     exact g4 y d (by rw[U32,q];exact e)
  ·obtain⟨cl,g1,g2,g3,g4⟩:=lW names acc (fun y hy=>h1 y (U11 _ hy)) h2;refine⟨cl,?_,g2,?_,g4⟩
   ·simp only[hk];exact g1
   ·intro y hy hf;rcases Z13.mp hy with rfl|hy
    ·exact absurd (by simpa using hf) hk
    ·exact g3 y hy hf
theorem As{scope:Scope}{env:Env}(h:∀y∈scope.names,y.2=.free→∃c,env.cells.lookup y.1=some c):
  ∃cl,closureFor scope env=pure cl∧(∀y c,cl.lookup y=some c→env.cells.lookup y=some c)∧∀y∈scope.names,y.2=.free→∃c,cl.lookup y.1=some c:=by
 obtain⟨cl,g1,g2,g3,_⟩:=lW scope.names [] h (fun y c e=>by cases e);refine⟨cl,?_,g2,g3⟩;unfold closureFor;dsimp only;rw[g1]
 rfl
section
variable {tg:Expr}{args:List Expr}{t:En→M Its'}{x:Str}{sc:Scope}
variable{G:Gt}{r:Cr}{F:Fr}{X:Cx}{pos:Pos}
theorem AX(hr:Snd G r){p:Pos}(h:JG G r F args=some t)(ok:Ok G F X):QI X tg (.Call (.Name "range" p) args [] pos) t:=by
 unfold JG at h
 split at h
 ·obtain⟨h0,h'⟩:=aG h;simp only[Y11]at h0;obtain⟨t,h1,rfl⟩:=aP h';exact Fv (ok.gl h0.1.1) (ok.g.blt _ h0.1.2) (gJ hr h1 ok) (bN h0.2)
 ·cases h
theorem Gs{e:Expr}(h:AW e=some (x,args)):∃p p2,e=.Call (.Name x p) args [] p2:=by
 unfold AW at h
 split at h
 ·cases h;exact⟨_,_,rfl⟩
 ·cases h
theorem Ln{a b:Expr}(h:JH x args=some (a,b)):x="zip"∧args=[a,b]:=by
 unfold JH at h
 split at h
 ·obtain⟨h1,h2⟩:=aG h;cases h2;exact⟨by simpa using h1,rfl⟩
 ·cases h
theorem vS{e o:Expr}{apos cpos:Pos}(h:vQ e=some (o,apos,cpos)):e=.Call (.Attribute o "items" apos) [] [] cpos:=by
 unfold vQ at h
 split at h
 ·obtain⟨h1,h2⟩:=aG h;cases h2;simp at h1;subst h1
  rfl
 ·cases h
theorem Au(hr:Snd G r){e:Expr}(h:HJ G r F tg e=some t)(ok:Ok G F X):QI X tg e t:=by
 have fin:∀{t},o1 (r.e F e) iS=some t→QI X tg e t:=fun hh=>by obtain⟨ta,h1,rfl⟩:=aP hh;exact Zn (hr.e h1 ok)
 unfold HJ at h
 split at h
 ·rename_i x args he;obtain⟨p,p2,rfl⟩:=Gs he
  split at h
  ·rename_i hx;have:x="range":=by simpa using hx
   subst this;exact AX hr h ok
  ·have:x="enumerate":=by have hx:=‹(x==("enumerate":Str))=true›;simpa using hx
   subst this
   split at h
   ·rename_i b hb;obtain⟨p1,p3,hb⟩:=rE hb;cases hb;obtain⟨h0,h'⟩:=aG h;simp only[Y11]at h0;obtain⟨t,h1,rfl⟩:=aP h';obtain⟨⟨⟨⟨⟨q1,q2⟩,q3⟩,q4⟩,q5⟩,q6⟩:=h0;cases tg<;>first|exact Kv (ok.gl q2) (ok.g.blt _ q3) (ok.gl q4) (ok.g.blt _ q5) (gJ hr h1 ok) (bN q6)|cases q1
   obtain⟨h0,h'⟩:=aG h;simp only[Y11]at h0;obtain⟨t,h1,rfl⟩:=aP h';obtain⟨⟨⟨q1,q2⟩,q3⟩,q4⟩:=h0;cases tg<;>first|exact Rq (ok.gl q2) (ok.g.blt _ q3) (gJ hr h1 ok) (bN q4)|cases q1
  ·split at h
   ·rename_i a b hz;obtain⟨rfl,rfl⟩:=Ln hz;obtain⟨h0,h'⟩:=aG h;simp only[Y11]at h0;obtain⟨t,h1,rfl⟩:=aP h';obtain⟨⟨⟨⟨q1,q2⟩,q3⟩,q4⟩,q5⟩:=h0;cases tg<;>first|exact AM (ok.gl q2) (ok.g.blt _ q3) (gJ hr h1 ok) (bN q4) (eR (by simp[q5]))|cases q1
   ·exact fin h
 ·split at h
  ·rename_i o apos cpos hz;obtain rfl:=vS hz;obtain⟨h0,h'⟩:=aG h;simp only[Y11]at h0;obtain⟨t,h1,rfl⟩:=aP h';obtain⟨⟨q1,q2⟩,q3⟩:=h0;cases tg<;>first|exact Kw (hr.e h1 ok) (fT q2) q3|cases q1
  ·exact fin h
def Gu(F:Fr)(sc:Scope)(xs cn:List Str):Bool:=
 sc.kind==.function&&sc.names.all (fun y=>!(y.2==.cell))&&sc.names.all (fun y=>!(y.2==.local) || sc.names.lookup y.1==some .local)&&xs.all (fun x=>sc.names.lookup x==some .local)&&
  decide ((xs++cn).Nodup)&&!xs.isEmpty&&sc.names.all (fun y=>!(y.2==.free) || F.nm.lookup y.1==some .cell || F.nm.lookup y.1==some .free)&&
  cn.all (fun y=>(F.nm.lookup y==some .cell || F.nm.lookup y==some .free)&&((vR F.nm sc.names).lookup y==some .cell || (vR F.nm sc.names).lookup y==some .free))
theorem nP(ok:Ok G F X):(relabel sc X.env).names=vR F.nm sc.names:=by
 unfold relabel vR;dsimp only
 congr 1
 funext y
 obtain⟨n,k⟩:=y;dsimp only;unfold Env.kindOf;rw[ok.s,ok.kind];simp
theorem Lo{N:List Str}:∀{cn:List Str} {caps:List Nat},ixs N cn=some caps→cn.length=caps.length∧∀(k:Nat) (y:Str),cn[k]?=some y→∃j:Nat,caps[k]?=some j∧N[j]?=some y
 |[],caps,h=>by cases h;exact⟨rfl,fun k y e=>by simp at e⟩
 |y::l,caps,h=>by
  unfold ixs at h;obtain⟨a,b,h1,h2,rfl⟩:=cE h;obtain⟨i1,i2⟩:=Lo h2;refine⟨by simp[i1],fun k z e=>?_⟩;cases k with
  |zero=>cases e;exact⟨a,rfl,fL h1⟩
  |succ k=>exact i2 k z (by simpa using e)
theorem Ta{xs cn:List Str}{caps:List Nat}(ok:Ok G F X)(hs:Gu F sc (x::xs) cn=true)(hc:ixs F.N cn=some caps):∃cl,Caps X sc x cl cn caps:=by
 unfold Gu at hs;simp only[Y11,V19,U17]at hs;obtain⟨⟨⟨⟨⟨⟨⟨s1,s2⟩,s3⟩,s4⟩,s5⟩,_⟩,s7⟩,s8⟩:=hs;obtain⟨cl,g1,g2,g3⟩:=As (scope:=sc) (env:=X.env) fun y hy hf=>by
  have:=s7 y hy;simp[hf]at this;exact ok.cells y.1 this
 obtain⟨l1,l2⟩:=Lo hc;have rn:=nP (sc:=sc) ok;refine⟨cl,g1,fun y hy e=>?_,by simpa using s1,fun y hy e=>?_,by simpa using s4 x (by simp),g2,fun y hy=>?_,?_,l1,fun k y e=>?_⟩
 ·have:=s2 y hy;simp[e]at this
 ·have:=s3 y hy;simp[e]at this;exact this
 ·rw[rn]at hy;have key:∀kd,(vR F.nm sc.names).lookup y=some kd→kd=.cell∨kd=.free→∃q∈sc.names,q.1=y∧q.2=.free:=by
   intro kd e hk;have m:=U20 e;unfold vR at m;obtain⟨⟨n,k⟩,m1,m2⟩:=V17.mp m;dsimp only at m2
   split at m2
   ·rename_i hh;cases m2;exact⟨_,m1,rfl,by have:=hh;simp at this;exact this.1⟩
   ·cases m2;refine⟨_,m1,rfl,?_⟩;rcases hk with rfl|rfl
    ·have:=s2 _ m1;simp at this
    ·rfl
  rcases hy with hy|hy
  ·obtain⟨q,q1,rfl,q3⟩:=key _ hy (.inl rfl);exact g3 q q1 q3
  ·obtain⟨q,q1,rfl,q3⟩:=key _ hy (.inr rfl);exact g3 q q1 q3
 ·have:(x::(xs++cn)).Nodup:=s5;rw[Z31]at this⊢;exact⟨fun h=>this.1 (V14 _ h),(V41.mp this.2).2.1⟩
 ·obtain⟨j,q1,q2⟩:=l2 k y e;have m:=s8 y (U27 e);simp only[Bool.or_eq_true,W40]at m;refine⟨j,q1,by rw[ok.n];exact q2,?_,?_,?_⟩
  ·unfold Vis;rw[ok.s];exact .inr m.1
  ·unfold Env.kindOf;rw[ok.s];exact m.1
  ·rw[rn];exact m.2
theorem Ok.comp{xs cn:List Str}{cl:List (Str×Addr)}{caps:List Nat}(ok:Ok G F X)(cp:Caps X sc x cl cn caps)(C:Addr)(ex:List Addr)(s:Shared)(H:Hp):
  Ok G ⟨xs++cn,vR F.nm sc.names,F.k⟩ (aZ X (xs++cn) sc cl C ex s H) where
 g:=ok.g
 n:=rfl
 s:=nP ok
 kind:=cp.kind
 cells:=fun y hy=>cp.has y (by rw[nP ok];exact hy)
 r:=ok.r
 calm:=ok.calm
end
def JI(r:Cr)(F:Fr):List Expr→Option (En→M Bool)
 |[]=>some fun _=>ret true
 |[c]=>r.t F c
 |_=>none
def Dc(G:Gt)(r:Cr)(F:Fr)(elt tg iter:Expr)(ifs:List Expr)(sc:Scope):Option (En→M D):=match Cz tg with
 |some (xs,bd)=>
  let cn:=(sc.names.filter fun y=>y.2==.free).map (·.1)
  match ixs F.N cn with
  |some caps=>grd (Gu F sc xs cn&&Lb iter) (o3 (HJ G r F tg iter) (JI r ⟨xs++cn,vR F.nm sc.names,F.k⟩ ifs) (r.e ⟨xs++cn,vR F.nm sc.names,F.k⟩ elt) fun it cd el=>wQ caps it bd cd el)
  |none=>none
 |none=>none
def AY(G:Gt)(r:Cr)(F:Fr)(elt:Expr)(gs:List Comprehension)(sc:Scope):Option (En→M D):=match gs with
 |[⟨tg,iter,ifs,a⟩]=>grd (a==0) (Dc G r F elt tg iter ifs sc)
 |_=>none
def Uz(G:Gt)(r:Cr)(F:Fr)(e:Expr):Option (En→M D):=match e with
 |.Name x _=>Lf G F x
 |.Constant c _ _=>Ai c
 |.BinOp a op b _=>o3 (JY op) (r.e F a) (r.e F b) aT
 |.UnaryOp op a _=>JF r F op a
 |.Compare a ops bs _=>AS r F a ops bs
 |.BoolOp op vs _=>HI r F op vs
 |.IfExp c a b _=>o3 (r.t F c) (r.e F a) (r.e F b) Og
 |.Tuple es _ _=>o1 (cA r F es) eT
 |.List es _=>o1 (cA r F es) eL
 |.Dict ks vs _=>Li r F ks vs
 |.Subscript a b _=>AU r F a b
 |.Attribute a f _=>grd (nO a&&G.cls.fs.contains f) (o1 (r.e F a) (jJ G.cls.C f))
 |.Call f args kws pos=>Lh G r F f args kws pos
 |.ListComp elt gs sc _=>AY G r F elt gs sc
 |_=>none
def JZ(r:Cr)(F:Fr)(a:Expr)(ops:List CmpOp)(bs:List Expr):Option (En→M Bool):=match ops,bs with
 |[op],[b]=>grd (!behindInMarks op b) (o3 (JD op) (r.e F a) (r.e F b) eA)
 |_,_=>none
def HK(r:Cr)(F:Fr)(op:BoolOp):List Expr→Option (En→M Bool)
 |[]=>none
 |[a]=>r.t F a
 |a::b::rest=>o2 (r.t F a) (HK r F op (b::rest)) (match op with |.And=>Ru|.Or=>Cn)
def stepT(r:Cr)(F:Fr)(e:Expr):Option (En→M Bool):=match e with
 |.Compare a ops bs _=>JZ r F a ops bs
 |.BoolOp op vs _=>HK r F op vs
 |.UnaryOp op a _=>(match op with
  |.Not=>o1 (r.t F a) sM
  |_=>none)
 |.IfExp ..=>none
 |e=>o1 (r.e F e) gE
def FX(G:Gt):Nat→Cr
 |0=>⟨fun _ _=>none,fun _ _=>none⟩
 |n+1=>⟨Uz G (FX G n),stepT (FX G n)⟩
section
variable {ifs:List Expr}{sc:Scope}{elt:Expr}
variable{G:Gt}{r:Cr}{F:Fr}{X:Cx}{pos:Pos}
theorem AZ(hr:Snd G r){t:En→M Bool}(h:JI r F ifs=some t)(ok:Ok G F X):QF X ifs t:=by
 unfold JI at h
 split at h
 ·cases h;exact Zt
 ·exact Zu (hr.t h ok)
 ·cases h
inductive EN:List Expr→List Str→Prop where
 |nil:EN [] []
 |cons {x:Str} {p:Pos} {es:List Expr} {xs:List Str}:EN es xs→EN (.Name x p::es) (x::xs)
theorem yI:∀{es:List Expr} {xs:List Str},es.foldr (fun e l=>match e with |.Name x _=>o1 l (x::·)|_=>none) (some [])=some xs→EN es xs
 |[],xs,h=>by cases h;exact .nil
 |e::es,xs,h=>by
  rw[List.foldr_cons]at h
  split at h
  ·obtain⟨l,h1,rfl⟩:=aP h;exact .cons (yI h1)
  ·cases h
theorem EN.len{es:List Expr}{xs:List Str}(h:EN es xs):es.length=xs.length:=by
 induction h with
 |nil=>rfl
 |cons _ ih=>simp[ih]
theorem EN.pgs{Y:Cx}{es:List Expr}{xs:List Str}(h:EN es xs):∀i:Nat,(∀(j:Nat) x (p:Pos),xs[j]?=some x→PG Y (.Name x p) (oI (i+j)))→PGs Y es (nI i xs.length):=by
 induction h with
 |nil=>exact fun _ _=>Br
 |cons _ ih=>exact fun i hp=>wX (hp 0 _ _ rfl) (ih (i+1) fun j y q e=>by have:=hp (j+1) y q (by simpa using e);rwa [show i+(j+1)=i+1+j by lia]at this)
theorem EN.star{es:List Expr}{xs:List Str}(h:EN es xs):es.all noStar=true:=by
 induction h with
 |nil=>rfl
 |cons _ ih=>rw[Z24,ih];rfl
structure CompI (X:Cx) (sc:Scope) (tg iter elt:Expr) (ifs:List Expr) (t:En→M D) (P:Prop):Prop where
 use:(∀(x:Str) (xs cn:List Str) (cl:List (Str×Addr)) (caps:List Nat) (g:TG) (bd:D→Sto→Option (List D)) (ti:En→M Its') (tc:En→M Bool) (te:En→M D),t=wQ caps ti bd tc te→Fx X.kw xs.length g bd→QI X tg iter ti→Caps X sc x cl cn caps→
  (∀C ex s H,PG (aZ X (xs++cn) sc cl C ex s H) tg g)→(∀C ex s H,QF (aZ X (xs++cn) sc cl C ex s H) ifs tc)→(∀C ex s H,QE (aZ X (xs++cn) sc cl C ex s H) elt te)→(∀x,foldedSetIterable iter X.env x=pure x)→P)→P
theorem yJ(hr:Snd G r){tg iter:Expr}{t:En→M D}{P:Prop}(h:Dc G r F elt tg iter ifs sc=some t)(ok:Ok G F X):CompI X sc tg iter elt ifs t P:=by
 refine⟨fun use=>?_⟩;unfold Dc at h
 split at h
 ·rename_i xs bd hx;dsimp only at h
  split at h
  ·rename_i caps hc;obtain⟨h0,h'⟩:=aG h;clear h;rw[Y11]at h0;obtain⟨it,cd,el,h1,h2,h3,rfl⟩:=eS h';generalize hcn:(sc.names.filter fun y=>y.2==.free).map (·.1)=cn at *;have h0s:=h0.1;obtain⟨x,xs',rfl⟩:∃x xs',xs=x::xs':=by
    cases xs with
    |nil=>unfold Gu at h0s;simp at h0s
    |cons x xs'=>exact⟨x,xs',rfl⟩
   obtain⟨cl,cp⟩:=Ta ok h0s hc;have hnd:(x::xs'++cn).Nodup:=by unfold Gu at h0s;simp only[Y11,U17]at h0s;exact h0s.1.1.1.2
   have hlo:∀y∈x::xs',sc.names.lookup y=some .local:=by unfold Gu at h0s;simp only[Y11,V19]at h0s;intro y hy;simpa using h0s.1.1.1.1.2 y hy
   have hq:∀(C:Addr) (ex:List Addr) (s:Shared) (H:Hp) (j:Nat) y (p:Pos),(x::xs')[j]?=some y→PG (aZ X (x::xs'++cn) sc cl C ex s H) (.Name y p) (oI j):=fun C ex s H j y p e=>
    pgc (xs:=x::xs') hnd (by rw[Z17 (U10.mp e).1];exact e) (hlo y (U27 e))
   have hQ:=fun C ex s H=>AZ hr h2 (ok.comp (xs:=x::xs') cp C ex s H);have hE:=fun C ex s H=>hr.e h3 (ok.comp (xs:=x::xs') cp C ex s H);unfold Cz at hx
   split at hx
   ·cases hx;exact use x [x] cn cl caps _ bd1 it cd el rfl Zq (Au hr h1 ok) cp (fun C ex s H=>hq C ex s H 0 _ _ rfl) hQ hE (rD h0.2)
   ·rename_i es kk p;obtain⟨l,h5,h6⟩:=aP hx;cases h6;have f2:=yI h5;have hst:=f2.star;have hl:=f2.len;exact use x (x::xs') cn cl caps _ _ it cd el rfl Zs (Au hr h1 ok) cp (fun C ex s H=>by
     have pp:=f2.pgs 0 fun j y q e=>by have:=hq C ex s H j y q e;rwa [Z38]
     exact Ut (Hs ok.calm pp (by rw[mT,hl]) (lI hst)) (By ok.calm pp (by rw[mT,hl]) (lI hst))) hQ hE (rD h0.2)
   ·cases hx
  ·cases h
 ·cases h
theorem Tc(hr:Snd G r){gs:List Comprehension}{t:En→M D}(h:AY G r F elt gs sc=some t)(ok:Ok G F X):QE X (.ListComp elt gs sc pos) t:=by
 unfold AY at h
 split at h
 ·obtain⟨h0,h'⟩:=aG h;have h0:=eq_of_beq h0;subst h0;refine(yJ hr h' ok).use fun x xs cn cl caps g bd ti tc te e hbd hi cp hg hif he hs=>?_;subst e;exact Rr hbd ok.calm hi cp hg hif he hs
 ·cases h
theorem Lp(hr:Snd G r){e:Expr}{t:En→M D}(h:Uz G r F e=some t)(ok:Ok G F X):QE X e t:=by
 cases e with
 |Name x _=>exact Lj h ok
 |Constant c _ _=>exact Gk h
 |BinOp a op b _=>obtain⟨f,ta,tb,h1,h2,h3,rfl⟩:=eS h;exact EL (AN h1) (hr.e h2 ok) (hr.e h3 ok)
 |UnaryOp op a _=>exact AV hr h ok
 |Compare a ops bs _=>exact Sy hr h ok
 |BoolOp op vs _=>exact Ao hr h ok
 |IfExp c a b _=>obtain⟨tc,ta,tb,h1,h2,h3,rfl⟩:=eS h;exact Jj (hr.t h1 ok) (hr.e h2 ok) (hr.e h3 ok)
 |Tuple es _ _=>obtain⟨ta,h1,rfl⟩:=aP h;exact Yo (gJ hr h1 ok)
 |List es _=>obtain⟨ta,h1,rfl⟩:=aP h;exact Yp (gJ hr h1 ok)
 |Dict ks vs _=>exact Lm hr h ok
 |Subscript a b _=>exact Sz hr h ok
 |Attribute a f _=>
  obtain⟨h0,h'⟩:=aG h;rw[Y11]at h0;obtain⟨ta,h1,rfl⟩:=aP h';obtain⟨q1,q2⟩:=ok.g.fs _ h0.2;exact AD q1 q2 (hr.e h1 ok) (fT h0.1)
 |Call f args kws pos=>exact Ll hr h ok
 |ListComp elt gs sc _=>exact Tc hr h ok
 |_=>cases h
theorem Aw(hr:Snd G r){op:BoolOp}:∀{vs:List Expr} {t:En→M Bool},HK r F op vs=some t→Ok G F X→QW X (.BoolOp op vs pos) t
 |[],t,h,ok=>by cases h
 |[a],t,h,ok=>by
  cases op with
  |And=>exact Qr (hr.t h ok)
  |Or=>exact Yh (hr.t h ok)
 |a::b::rest,t,h,ok=>by
  unfold HK at h;obtain⟨ta,tb,h1,h2,rfl⟩:=cE h;cases op with
  |And=>exact Yi (hr.t h1 ok) (Aw hr h2 ok)
  |Or=>exact EM (hr.t h1 ok) (Aw hr h2 ok)
theorem Lq(hr:Snd G r){e:Expr}{t:En→M Bool}(h:stepT r F e=some t)(ok:Ok G F X):QT X e t:=by
 have fin:plainT e=true→o1 (r.e F e) gE=some t→QT X e t:=fun hp hh=>by obtain⟨ta,h1,rfl⟩:=aP hh;exact Yg (hr.e h1 ok) (Gi hp)
 cases e with
 |Compare a ops bs _=>
  unfold stepT at h;dsimp only at h;unfold JZ at h
  split at h
  ·obtain⟨h0,h'⟩:=aG h;obtain⟨f,ta,tb,h1,h2,h3,rfl⟩:=eS h';exact Yd (Ld ok.r h1) (hr.e h2 ok) (hr.e h3 ok) (by simpa using h0)
  ·cases h
 |BoolOp op vs _=>exact IT (Aw hr h ok)
 |UnaryOp op a _=>
  cases op with
  |Not=>obtain⟨ta,h1,rfl⟩:=aP h;exact Yj (hr.t h1 ok)
  |_=>cases h
 |IfExp _ _ _ _=>cases h
 |_=>exact fin rfl h
theorem vT:∀n,Snd G (FX G n)
 |0=>⟨fun {F e t} h=>(by cases h),fun {F e t} h=>(by cases h)⟩
 |n+1=>⟨fun h _ ok=>Lp (vT n) h ok,fun h _ ok=>Lq (vT n) h ok⟩
end
structure OkS (G:Gt) (F:Fr) (X:Cx):Prop where
 ok:Ok G F X
 fn:∀y,X.fn y=true
 nd:F.N.Nodup
 ps:PassesOwn (model X.prog X.w) X.A X.env X.xe
def HL(g:Fr→Expr→Option (D→En→M En))(F:Fr):List Expr→Option (List D→En→M En)
 |[]=>some qV
 |e::es=>o2 (g F e) (HL g F es) gU
def Va(r:Cr)(F:Fr)(a b:Expr):Option (D→En→M En):=match b with
 |.Slice lo none none _=>o2 (r.e F a) (cO r F lo) HF
 |.Slice ..=>none
 |b=>o2 (r.e F a) (r.e F b) gS
def Dd(r:Cr)(g:Fr→Expr→Option (D→En→M En))(F:Fr)(e:Expr):Option (D→En→M En):=match e with
 |.Name x _=>(match vO F.N x with
  |some i=>grd (Ah F.nm x) (some (gN i))
  |none=>none)
 |.Tuple es _ _=>grd (es.all noStar) (o1 (HL g F es) (gT es.length))
 |.Subscript a b _=>Va r F a b
 |_=>none
def JK(r:Cr):Nat→Fr→Expr→Option (D→En→M En)
 |0=>fun _ _=>none
 |n+1=>Dd r (JK r n)
def Ax:Expr→Option (Expr×Expr×Expr×List Expr×Scope×Pos)
 |.ListComp elt [⟨tg,iter,ifs,a⟩] sc p=>grd (a==0) (some (elt,tg,iter,ifs,sc,p))
 |_=>none
def nameOf:Expr→Option (Str×Pos)
 |.Name x p=>some (x,p)
 |_=>none
def KA(F:Fr)(y:Str)(py:Pos)(sc:Scope)(p:Pos):Bool:=F.nm.lookup y==some .local&&py.line==p.line&&!(sc.names.any fun(n,k)=>n==y&&(k==.local || k==.cell))
def De:Expr→Option (Expr×Str)
 |.Attribute o f _=>some (o,f)
 |_=>none
def Lr(G:Gt)(r:Cr)(g:Fr→Expr→Option (D→En→M En))(F:Fr)(tg v:Expr):Option Sm':=match De tg with
 |some (o,f)=>grd (G.cls.fs.contains f) (o2 (r.e F o) (r.e F v) (Uy G.cls.C f))
 |none=>grd (noName tg&&La tg v&&noStar tg) (o2 (r.e F v) (g F tg) sA)
def BA(G:Gt)(r:Cr)(g:Fr→Expr→Option (D→En→M En))(F:Fr)(tg v:Expr):Option Sm':=match nameOf tg with
 |some (y,py)=>(match vO F.N y with
  |some i=>grd (Ah F.nm y) (match Ax v with
   |some (elt,ctg,iter,ifs,sc,p)=>(match KA F y py sc p with
    |true=>o1 (Dc G r F elt ctg iter ifs sc) fun t=>sA t (gN i)
    |false=>grd (F.nm.lookup y==some .cell) (o1 (r.e F v) fun t=>sA t (gN i)))
   |none=>grd (vN v) (o1 (r.e F v) fun t=>sA t (gN i)))
  |none=>none)
 |none=>Lr G r g F tg v
def BB(G:Gt)(r:Cr)(F:Fr)(tg:Expr)(op:Operator)(v:Expr):Option Sm':=match nameOf tg with
 |some (y,_)=>(match vO F.N y with
  |some i=>grd (Ah F.nm y) (o2 (JE op) (r.e F v) fun f t=>sG f i t)
  |none=>none)
 |none=>(match De tg with
  |some (o,f)=>grd (G.cls.fs.contains f) (o3 (JE op) (r.e F o) (r.e F v) (FV G.cls.C f))
  |none=>none)
def cB(s:Stmt→Option Sm'):List Stmt→Option Sm'
 |[]=>some sN
 |[a]=>s a
 |a::b::l=>o2 (s a) (cB s (b::l)) aE
def Ls(G:Gt)(r:Cr)(g:Fr→Expr→Option (D→En→M En))(F:Fr)(s:Stmt→Option Sm')(x:Stmt):Option Sm':=match x with
 |.Expr a _=>grd (vN a) (o1 (r.e F a) sE)
 |.Return o _=>(match o with
  |some a=>o1 (r.e F a) sR
  |none=>some FH)
 |.If c xs ys _=>o3 (r.t F c) (cB s xs) (cB s ys) sI
 |.While c xs ys _=>(match ys with
  |[]=>o2 (r.t F c) (cB s xs) sW
  |_=>none)
 |.For tg it xs ys _=>(match ys with
  |[]=>grd (Lb it) (o3 (HJ G r F tg it) (g F tg) (cB s xs) sF)
  |_=>none)
 |.Assign ts v _=>(match ts with
  |[tg]=>BA G r g F tg v
  |_=>none)
 |.AugAssign tg op v _=>BB G r F tg op v
 |.Raise _ _ _=>some sO
 |_=>none
def JM(G:Gt)(r:Cr)(g:Fr→Expr→Option (D→En→M En))(F:Fr):Nat→Stmt→Option Sm'
 |0=>fun _=>none
 |n+1=>Ls G r g F (JM G r g F n)
def oU(G:Gt)(F:Fr)(xs:List Stmt):Option Sm':=cB (JM G (FX G 40) (JK (FX G 40) 6) F 20) xs
section
variable {tg:Expr}
variable{G:Gt}{r:Cr}{F:Fr}{X:Cx}{pos:Pos}{g:Fr→Expr→Option (D→En→M En)}{s:Stmt→Option Sm'}
theorem Lu(hg:∀{e t},g F e=some t→OkS G F X→QG X e t):∀{es:List Expr} {t:List D→En→M En},es.all noStar=true→HL g F es=some t→OkS G F X→QGs X es t
 |[],t,_,h,ok=>by cases h;exact Rh
 |e::es,t,hn,h,ok=>by
  unfold HL at h;obtain⟨t1,t2,h1,h2,rfl⟩:=cE h;rw[Z24,Y11]at hn;exact Jy (hg h1 ok) (Lu hg hn.2 h2 ok) (by have:=hn.1;cases e<;>first|rfl|cases this)
theorem Lw(hr:Snd G r)(hg:∀{e t},g F e=some t→OkS G F X→QG X e t){e:Expr}{t:D→En→M En}(h:Dd r g F e=some t)(ok:OkS G F X):QG X e t:=by
 cases e with
 |Name x p=>
  unfold Dd at h;dsimp only at h
  split at h
  ·rename_i i hi;obtain⟨h0,h'⟩:=aG h;cases h';exact Rg (i:=i) (by rw[ok.ok.n];exact ok.nd) (by rw[ok.ok.n];exact fL hi) (ok.ok.loc h0) (.inl (ok.fn _))
  ·cases h
 |Tuple es k p=>
  obtain⟨h0,h'⟩:=aG h;obtain⟨gs,h1,rfl⟩:=aP h';exact Zc ok.ok.calm (Lu hg h0 h1 ok) (mT es) (lI h0)
 |Subscript a b p=>
  unfold Dd at h;dsimp only at h;unfold Va at h
  split at h
  ·obtain⟨ta,tb,h1,h2,rfl⟩:=cE h;exact FQ (hr.e h1 ok.ok) (Lk hr h2 ok.ok)
  ·cases h
  ·rename_i hns;obtain⟨ta,tb,h1,h2,rfl⟩:=cE h;exact Ze (hu1 ok.ok.r) (hr.e h1 ok.ok) (hr.e h2 ok.ok) (fun v=>by cases b<;>first|rfl|exact(hns _ _ _ _ rfl).elim)
 |_=>cases h
theorem Lx(hr:Snd G r):∀(n:Nat) {e:Expr} {t:D→En→M En},JK r n F e=some t→OkS G F X→QG X e t
 |0,e,t,h,_=>by cases h
 |n+1,e,t,h,ok=>Lw hr (fun h ok=>Lx hr n h ok) h ok
theorem oV{e:Expr}{x:Str}{p:Pos}(h:nameOf e=some (x,p)):e=.Name x p:=by
 cases e<;>cases h;rfl
theorem yK{e elt iter:Expr}{ifs:List Expr}{sc:Scope}{p:Pos}(h:Ax e=some (elt,tg,iter,ifs,sc,p)):e=.ListComp elt [⟨tg,iter,ifs,0⟩] sc p:=by
 unfold Ax at h
 split at h
 ·obtain⟨h0,h'⟩:=aG h;have:=eq_of_beq h0;subst this;cases h'
  rfl
 ·cases h
theorem rF{e o:Expr}{f:Str}(h:De e=some (o,f)):∃p,e=.Attribute o f p:=by
 unfold De at h
 split at h
 ·cases h;exact⟨_,rfl⟩
 ·cases h
theorem Ly(hr:Snd G r)(hg:∀{e t},g F e=some t→OkS G F X→QG X e t){v:Expr}{t:Sm'}(h:Lr G r g F tg v=some t)(ok:OkS G F X):QS X (.Assign [tg] v pos) t:=by
 unfold Lr at h
 split at h
 ·rename_i o f hf;obtain⟨p,rfl⟩:=rF hf;obtain⟨h0,h'⟩:=aG h;obtain⟨ta,tb,h1,h2,rfl⟩:=cE h';obtain⟨q1,q2⟩:=ok.ok.g.fs _ h0;exact AE q1 q2 (hr.e h1 ok.ok) (hr.e h2 ok.ok) (yH rfl)
 ·obtain⟨h0,h'⟩:=aG h;simp only[Y11]at h0;obtain⟨ta,tg,h1,h2,rfl⟩:=cE h';exact Zg (hr.e h1 ok.ok) (hg h2 ok) (yH h0.1.1) (Af h0.1.2) (Su h0.2)
theorem Td(hr:Snd G r)(hg:∀{e t},g F e=some t→OkS G F X→QG X e t){v:Expr}{t:Sm'}(h:BA G r g F tg v=some t)(ok:OkS G F X):QS X (.Assign [tg] v pos) t:=by
 unfold BA at h
 split at h
 ·rename_i y py hy;obtain rfl:=oV hy
  split at h
  ·rename_i i hi;obtain⟨h0,h'⟩:=aG h;clear h;have hN:X.N.Nodup:=by rw[ok.ok.n];exact ok.nd
   have hI:X.N[i]?=some y:=by rw[ok.ok.n];exact fL hi
   split at h'
   ·rename_i elt ctg iter ifs sc p hv;obtain rfl:=yK hv
    split at h'
    case h_2=>
     obtain⟨h1,h2⟩:=aG h';obtain⟨tt,h3,rfl⟩:=aP h2;refine Kb (i:=i) hN hI (ok.ok.loc h0) (hr.e h3 ok.ok) ?_ (.inl (ok.fn _));unfold swapsWith;dsimp only;have hb:X.env.blockKind=.function:=by unfold Env.blockKind;rw[ok.ok.kind];rfl
     rw[hb];unfold Env.kindOf;rw[ok.ok.s,eq_of_beq h1]
     rfl
    rename_i h1;obtain⟨tt,h3,rfl⟩:=aP h';refine(yJ hr h3 ok.ok).use fun x xs cn cl caps g bd ti tc te e hbd hi2 cp hg hif he hs=>?_;subst e;refine Rt (i:=i) hbd hN hI (ok.ok.loc h0) ok.ok.calm hi2 cp hg hif he ?_ hs (.inl (ok.fn _));unfold KA at h1;simp only[Y11]at h1;unfold swapsWith;dsimp only;have hb:X.env.blockKind=.function:=by unfold Env.blockKind;rw[ok.ok.kind];rfl
    rw[hb];unfold Env.kindOf;rw[ok.ok.s,h1.1.1];show pure (true&&true&&(py.line==p.line)&&_)=pure true;rw[h1.1.2,h1.2];rfl
   ·obtain⟨h1,h2⟩:=aG h';obtain⟨tt,h3,rfl⟩:=aP h2;exact Kb (i:=i) hN hI (ok.ok.loc h0) (hr.e h3 ok.ok) (rB h1) (.inl (ok.fn _))
  ·cases h
 ·exact Ly hr hg h ok
theorem Te(hr:Snd G r){v:Expr}{t:Sm'}(h:BB G r F tg op v=some t)(ok:OkS G F X):QS X (.AugAssign tg op v pos) t:=by
 unfold BB at h
 split at h
 ·rename_i y py hy;obtain rfl:=oV hy
  split at h
  ·rename_i i hi;obtain⟨h0,h'⟩:=aG h;obtain⟨f,tt,h2,h3,rfl⟩:=cE h';exact Zh (i:=i) (by rw[ok.ok.n];exact ok.nd) (by rw[ok.ok.n];exact fL hi) (ok.ok.loc h0) (hr.e h3 ok.ok) (Lc h2) (.inl (ok.fn _))
  ·cases h
 ·split at h
  ·rename_i o f hf;obtain⟨p,rfl⟩:=rF hf;obtain⟨h0,h'⟩:=aG h;obtain⟨g,ta,tb,h1,h2,h3,rfl⟩:=eS h';obtain⟨q1,q2⟩:=ok.ok.g.fs _ h0;exact Sa q1 q2 (hr.e h2 ok.ok) (hr.e h3 ok.ok) (Lc h1)
  ·cases h
theorem tY(hs:∀{x t},s x=some t→OkS G F X→QS X x t):∀{xs:List Stmt} {t:Sm'},cB s xs=some t→OkS G F X→QSs X xs t
 |[],t,h,ok=>by cases h;exact Rj
 |[a],t,h,ok=>Rl (hs h ok)
 |a::b::l,t,h,ok=>by
  unfold cB at h;obtain⟨t1,t2,h1,h2,rfl⟩:=cE h;exact Ka (hs h1 ok) (tY hs h2 ok)
theorem Lz(hr:Snd G r)(hg:∀{e t},g F e=some t→OkS G F X→QG X e t)(hs:∀{x t},s x=some t→OkS G F X→QS X x t){x:Stmt}{t:Sm'}(h:Ls G r g F s x=some t)(ok:OkS G F X):QS X x t:=by
 cases x with
 |Expr a p=>obtain⟨h0,h'⟩:=aG h;obtain⟨ta,h1,rfl⟩:=aP h';exact Rm (hr.e h1 ok.ok) (rB h0)
 |Return o p=>
  cases o with
  |none=>cases h;exact Ro
  |some a=>obtain⟨ta,h1,rfl⟩:=aP h;exact Zf (hr.e h1 ok.ok)
 |If c xs ys p=>obtain⟨tc,t1,t2,h1,h2,h3,rfl⟩:=eS h;exact FG (hr.t h1 ok.ok) (tY hs h2 ok) (tY hs h3 ok)
 |While c xs ys p=>
  cases ys with
  |nil=>obtain⟨tc,t1,h1,h2,rfl⟩:=cE h;exact Kc ok.ps (hr.t h1 ok.ok) (tY hs h2 ok)
  |cons _ _=>cases h
 |For tg it xs ys p=>
  cases ys with
  |nil=>
   obtain⟨h0,h'⟩:=aG h;obtain⟨ti,tgg,t1,h1,h2,h3,rfl⟩:=eS h';exact Zp ok.ps ok.ok.calm (Au hr h1 ok.ok) (hg h2 ok) (tY hs h3 ok) (rD h0)
  |cons _ _=>cases h
 |Assign ts v p=>
  unfold Ls at h;dsimp only at h
  split at h
  ·exact Td hr hg h ok
  ·cases h
 |AugAssign tg op v p=>exact Te hr h ok
 |Raise a b p=>cases h;exact AB
 |_=>cases h
theorem Ma(hr:Snd G r)(hg:∀{e t},g F e=some t→OkS G F X→QG X e t):∀(n:Nat) {x:Stmt} {t:Sm'},JM G r g F n x=some t→OkS G F X→QS X x t
 |0,x,t,h,_=>by cases h
 |n+1,x,t,h,ok=>Lz hr hg (fun h ok=>Ma hr hg n h ok) h ok
theorem Mb{xs:List Stmt}{t:Sm'}(h:oU G F xs=some t)(ok:OkS G F X):QSs X xs t:=tY (fun h ok=>Ma (vT _) (fun h ok=>Lx (vT _) _ h ok) _ h ok) h ok
end
def Tf(N ps:List Str)(sc:Scope):Bool:=sc.kind==.function&&!sc.isCoroutine&&!sc.isGenerator&&decide N.Nodup&&N.take ps.length==ps&&ps.all (Ah sc.names)&&sc.names.all fun y=>!(y.2==.free)
theorem BC{N ps:List Str}{sc:Scope}(h:Tf N ps sc=true):FnScope N ps sc:=by
 unfold Tf at h;simp only[Y11,V19,U17]at h;obtain⟨⟨⟨⟨⟨⟨h1,h2⟩,h3⟩,h4⟩,h5⟩,h6⟩,h7⟩:=h;refine⟨by simpa using h1,by simpa using h2,by simpa using h3,h4,by simpa using h5,fun x hx=>?_,fun y hy e=>?_⟩
 ·have:=h6 x hx;unfold Ah at this
  split at this<;>first|(exact .inl ‹_›)|(exact .inr ‹_›)|cases this
 ·have:=h7 y hy;simp[e]at this
abbrev Lv:=List (Str×Nat×(List D→M D))
section
variable {qual:Str}{g:List D→M D}
variable{P:Program}{w:World}{K:Fg9}{mg:Str→Option Value}{base:Heap}{G:Gt}{L:Lv}{x:Str}{st:Stmt}{f:Addr}{fd:FuncData}{N ps:List Str}{k:Nat}{ts:Sm'}
theorem rG(hG:GtOk G k P w K mg base)(F:Fun K x qual st f fd)
  (hs:Tf N ps (defScope st)=true)(hc:oU G ⟨N,(defScope st).names,k⟩ (defBody st)=some ts):FnOk P w K mg base CX0 (k+1) f fd ps (LF ⟨K,P,w⟩ (aL N.length ps.length ts)):=by
 have S:=BC hs;refine IU F S fun cdv A outer s H E hr=>Mb (F:=⟨N,(defScope st).names,k⟩) hc ⟨⟨hG,rfl,rfl,S.kind,fun y hy=>?_,hr,rfl⟩,fun _=>rfl,S.nd,PassesOwn.never⟩;rcases hy with hy|hy
 ·exact qD hy
 ·exact absurd rfl (S.nofree _ (U20 hy))
structure CsOk (cons:List (Str×D)) (blt:List Str) (C:Addr) (fs:List Str) (P:Program) (w:World) (K:Fg9) (mg:Str→Option Value):Prop where
 cons:∀x d,cons.lookup x=some d→∃v u,mg x=some u∧RelV v u∧∀m H,RV ⟨K,P,w⟩ m H v d
 blt:∀x,blt.contains x=true→mg x=none
 cls:fs.isEmpty=false→Cls K C
 fs:∀f,fs.contains f=true→fI K C f
structure Tb where
 dl:Lv
 ml:Lv
 kl:Lv
structure TbOk (T:Tb) (C:Addr) (P:Program) (w:World) (K:Fg9) (mg:Str→Option Value) (base:Heap):Prop where
 dl:∀e∈T.dl,∃f fd ps,FnOk P w K mg base CX0 e.2.1 f fd ps (LF ⟨K,P,w⟩ e.2.2)∧mg e.1=some (.ref f)∧PySem.W.keepIn K (.ref f)=true∧Binds K fd ps []∧∃o,K.lookup f=some o∧o.data=.func fd
 ml:∀e∈T.ml,Cls K C∧∃f fd ps,L2.Meth K C e.1 f∧FnOk P w K mg base CX0 e.2.1 f fd ps (LF ⟨K,P,w⟩ e.2.2)∧Binds K fd ps []
 kl:∀e∈T.kl,∃f fd ps,L2.Mk K C f∧FnOk P w K mg base CX0 e.2.1 f fd ps (LF ⟨K,P,w⟩ e.2.2)∧mg e.1=some (.ref C)∧Binds K fd ps []
noncomputable def pick(L:Lv)(k:Nat):List (Str×(List D→M D)):=(L.filter fun e=>Nat.ble e.2.1 k).map fun e=>(e.1,e.2.2)
theorem nQ(e:(pick L k).lookup x=some g):∃l,(x,l,g)∈L∧l≤k:=by
 have m:=U20 e;obtain⟨⟨y,l,g'⟩,m1,m2⟩:=V17.mp m;cases m2;obtain⟨m3,m4⟩:=List.mem_filter.mp m1;exact⟨l,m3,W35 m4⟩
def pickK(L:Lv):Nat→List (Str×(List D→M D))
 |0=>[]
 |k+1=>pick L k
def Tb.gt(T:Tb)(k:Nat)(cons:List (Str×D))(blt:List Str)(C:Addr)(fs:List Str):Gt:=⟨pick T.dl k,cons,blt,⟨C,fs,pick T.ml k,pickK T.kl k⟩⟩
variable{T:Tb}{cons:List (Str×D)}{blt:List Str}{C:Addr}{fs:List Str}
theorem TbOk.gt(h:TbOk T C P w K mg base)(c:CsOk cons blt C fs P w K mg){j:Nat}(hj:k≤j):GtOk (T.gt k cons blt C fs) j P w K mg base where
 defs:=fun x g e=>by
  obtain⟨l,m1,m2⟩:=nQ e;obtain⟨f,fd,ps,h1,h2⟩:=h.dl _ m1;exact⟨f,fd,ps,h1.mono (Y14 m2 hj),h2⟩
 fs:=fun f hf=>⟨c.cls (by cases fs with
  |nil=>cases hf
  |cons _ _=>rfl),c.fs f hf⟩
 ms:=fun x g e=>by
  obtain⟨l,m1,m2⟩:=nQ e;obtain⟨h0,f,fd,ps,h1,h2,h3⟩:=h.ml _ m1;exact⟨h0,f,fd,ps,h1,h2.mono (Y14 m2 hj),h3⟩
 ctr:=fun x g e=>by
  cases k with
  |zero=>cases e
  |succ k=>
   obtain⟨l,m1,m2⟩:=nQ (k:=k) e;obtain⟨f,fd,ps,h1,h2,h3⟩:=h.kl _ m1;cases j with
   |zero=>cases hj
   |succ j=>exact⟨f,fd,ps,j,rfl,h1,h2.mono (Y14 m2 (Nat.le_of_succ_le_succ hj)),h3⟩
 cons:=c.cons
 blt:=c.blt
theorem TbOk.nil:TbOk ⟨[],[],[]⟩ C P w K mg base:=⟨fun e h=>(by cases h),fun e h=>(by cases h),fun e h=>(by cases h)⟩
theorem TbOk.def_(h:TbOk T C P w K mg base)(dd:Def K mg x st ps f fd)(F:FnOk P w K mg base CX0 k f fd ps (LF ⟨K,P,w⟩ g)):TbOk ⟨(x,k,g)::T.dl,T.ml,T.kl⟩ C P w K mg base where
 dl:=fun e he=>by
  rcases Z13.mp he with rfl|he
  ·obtain⟨oc,od,kV,doc,pm,an,cdv,ct,osl,q1,q2,q3⟩:=dd.F.ex;exact⟨f,fd,ps,F,dd.m,dd.k,dd.b,_,q2,rfl⟩
  ·exact h.dl e he
 ml:=h.ml
 kl:=h.kl
theorem TbOk.next(h:TbOk T C P w K mg base)(c:CsOk cons blt C fs P w K mg)(N:List Str)(k:Nat)(dd:Def K mg x st ps f fd)(hs:Tf N ps (defScope st)=true)
  (hc:oU (T.gt k cons blt C fs) ⟨N,(defScope st).names,k⟩ (defBody st)=some ts)(hg:g=aL N.length ps.length ts):TbOk ⟨(x,k+1,g)::T.dl,T.ml,T.kl⟩ C P w K mg base:=by
 subst hg;exact h.def_ dd (rG (h.gt c (W11 k)) dd.F hs hc)
structure DefM (K:Fg9) (C:Addr) (x qual:Str) (st:Stmt) (ps:List Str) (f:Addr) (fd:FuncData):Prop where
 F:Fun K x qual st f fd
 b:Binds K fd ps []
 m:L2.Meth K C x f
theorem TbOk.meth(h:TbOk T C P w K mg base)(hC:Cls K C)(c:CsOk cons blt C fs P w K mg)(N:List Str)(k:Nat)(dd:DefM K C x qual st ps f fd)(hs:Tf N ps (defScope st)=true)
  (hc:oU (T.gt k cons blt C fs) ⟨N,(defScope st).names,k⟩ (defBody st)=some ts)(hg:g=aL N.length ps.length ts):TbOk ⟨T.dl,(x,k+1,g)::T.ml,T.kl⟩ C P w K mg base where
 dl:=h.dl
 ml:=fun e he=>by
  rcases Z13.mp he with rfl|he
  ·subst hg;exact⟨hC,f,fd,ps,dd.m,rG (h.gt c (W11 k)) dd.F hs hc,dd.b⟩
  ·exact h.ml e he
 kl:=h.kl
theorem TbOk.make{y:Str}(h:TbOk T C P w K mg base)(c:CsOk cons blt C fs P w K mg)(N:List Str)(k:Nat)(F:Fun K x qual st f fd)(hb:Binds K fd ps [])(hm:L2.Mk K C f)(hy:mg y=some (.ref C))(hs:Tf N ps (defScope st)=true)
  (hc:oU (T.gt k cons blt C fs) ⟨N,(defScope st).names,k⟩ (defBody st)=some ts)(hg:g=aL N.length ps.length ts):TbOk ⟨T.dl,T.ml,(y,k+1,g)::T.kl⟩ C P w K mg base where
 dl:=h.dl
 ml:=h.ml
 kl:=fun e he=>by
  rcases Z13.mp he with rfl|he
  ·subst hg;exact⟨f,fd,ps,hm,rG (h.gt c (W11 k)) F hs hc,hy,hb⟩
  ·exact h.kl e he
theorem TbOk.nextR{g:Nat→List D→M D}{b:(List D→M D)→Sm'}(h:TbOk T C P w K mg base)(c:CsOk cons blt C fs P w K mg)(N:List Str)(k fu:Nat)(dd:Def K mg x st ps f fd)(hs:Tf N ps (defScope st)=true)
  (hc:∀(self:List D→M D) (j:Nat),oU ⟨(x,self)::L2.pick T.dl k,cons,blt,⟨C,fs,L2.pick T.ml k,pickK T.kl k⟩⟩ ⟨N,(defScope st).names,j⟩ (defBody st)=some (b self))(h0:g 0=fun _=>bad)(h1:∀n,g (n+1)=aL N.length ps.length (b (g n))):TbOk ⟨(x,k+fu,g fu)::T.dl,T.ml,T.kl⟩ C P w K mg base:=by
 refine h.def_ dd ?_;have key:∀n,FnOk P w K mg base CX0 (k+n) f fd ps (LF ⟨K,P,w⟩ (g n)):=by
  intro n
  induction n with
  |zero=>rw[h0];exact Ki
  |succ n ih=>
   rw[h1];have G0:=h.gt c (Nat.le_add_right k n);refine rG (G:=⟨(x,g n)::L2.pick T.dl k,cons,blt,⟨C,fs,L2.pick T.ml k,pickK T.kl k⟩⟩) (k:=k+n) ⟨fun y g' e=>?_,G0.fs,G0.ms,G0.ctr,c.cons,c.blt⟩ dd.F hs (hc (g n) (k+n));rw[U32]at e
   split at e
   ·rename_i hy;cases e;rw[show y=x by simpa using hy];obtain⟨oc,od,kV,doc,pm,an,cdv,ct,osl,q1,q2,q3⟩:=dd.F.ex;exact⟨f,fd,ps,ih,dd.m,dd.k,dd.b,_,q2,rfl⟩
   ·exact G0.defs y g' e
 exact key fu
end
end L2
namespace L2
variable {x p2:Str}{st:Stmt}{C:Addr}{Good:World→Frag→Prop}{q:Program}{loose:List Str}{N:Nat}{α:Type}{Xt:Shared→Bool}{F:FuncData}
open PySem PySem.W PyProof.Rows
def fragOf(h:Heap):Frag:=(List.range h.objs.size).filterMap fun a=>(h.get? a).map fun o=>(a,o)
theorem Gv(h:Heap):(fragOf h).In h:=by
 intro a o e;have key:∀l:List Nat,(l.filterMap fun a=>(h.get? a).map fun o=>(a,o)).lookup a=some o→h.get? a=some o:=by
  intro l
  induction l with
  |nil=>intro e;cases e
  |cons b l ih=>
   intro e;rw[Y32]at e;cases q:h.get? b with
   |none=>rw[q]at e;exact ih e
   |some o'=>
    rw[q]at e;dsimp only[Option.map]at e;rw[U32]at e
    by_cases hb:a=b
    ·subst hb;simp only[beq_self_eq_true]at e;rw[q,e]
    ·have:(a==b)=false:=by simpa using hb
     rw[this]at e;exact ih e
 exact key _ e
structure Fnd (K:Frag) (x:Str) (st:Stmt):Prop where
 ex:∃(f:Addr) (od an:Option Addr) (sl:Array (Option Value)) (oc kV dc pm cd ct:Value),nsIn K mainGlobals x=some (some (.ref f))∧K.lookup f=some ⟨oc,od,.func (fnOf x x (defArgs st) (defBody st) (defScope st) .none kV dc pm an cd ct),sl⟩∧codeIn K cd x=true∧keepIn K (.ref f)=true
theorem BD{K:Frag}(h:fnAt K x=fnWant x st):Fnd K x st:=by
 unfold fnAt fnWant at h
 split at h
 ·rename_i f hf
  split at h
  ·rename_i oc od fd sl hl;obtain⟨n,q,ps,b,sc,g,cl,dV,kV,dc,pm,an,cd,ct,bu⟩:=fd;simp only[Z36,U21]at h;obtain⟨rfl,rfl,rfl,rfl,rfl,rfl,rfl,rfl,rfl,h1,h2⟩:=h;exact⟨⟨f,od,an,sl,oc,kV,dc,pm,cd,ct,hf,hl,h1,h2⟩⟩
  ·cases h
 ·cases h
theorem Fnd.def{K:Frag}{h:Heap}{mg:Str→Option Value}{ps:List Str}(X:K.In h)(G:h.Ns mainGlobals mg)(F:Fnd K x st)
  (hb:∀(kV doc pm:Value) (an:Option Addr) (cdv ct:Value) (us:List Value),us.length=ps.length→bindArgs (fnOf x x (defArgs st) (defBody st) (defScope st) .none kV doc pm an cdv ct) ⟨us,[]⟩=pure (ps.zip us)):∃f fd,Def K mg x st ps f fd:=by
 obtain⟨f,od,an,sl,oc,kV,dc,pm,cd,ct,a,l,c,k⟩:=F.ex;have F':=zO (st:=st) l c k;exact⟨_,_,F',F'.binds hb,mg_of X G a,k⟩
def BE(K:KW)(u:Value)(d:D):Prop:=∃v,RelV v u∧∀m H,RV K m H v d
theorem Mc{K:KW}{f:Value→Option D}(hf:∀v d,f v=some d→BE K v d):∀{us:List Value} {ds:List D},cvs f us=some ds→∃vs,Vals vs us∧vs.length=ds.length∧∀m H (j:Nat) v d,vs[j]?=some v→ds[j]?=some d→RV K m H v d
 |[],ds,h=>by cases h;exact⟨[],.nil,rfl,fun _ _ j v d h=>by simp at h⟩
 |u::us,ds,h=>by
  unfold cvs at h
  split at h
  ·rename_i d ds' h1 h2;cases h;obtain⟨v,r1,r2⟩:=hf _ _ h1;obtain⟨vs,r3,r4,r5⟩:=Mc hf h2;refine⟨v::vs,.cons r1 r3,by simp[r4],fun m H j v' d' e1 e2=>?_⟩;cases j with
   |zero=>cases e1;cases e2;exact r2 m H
   |succ j=>exact r5 m H j v' d' (by simpa using e1) (by simpa using e2)
  ·cases h
theorem Df{K:KW}:∀(n:Nat) {v:Value} {d:D},cv K.K n v=some d→BE K v d
 |n,.none,d,h=>by cases n<;>(cases h;exact⟨.non,rfl,fun _ _=>.no⟩)
 |n,.bool b,d,h=>by cases n<;>(cases h;exact⟨.bl b,rfl,fun _ _=>.b b⟩)
 |n,.int i t,d,h=>by cases n<;>(cases h;exact⟨.int i,⟨_,rfl⟩,fun _ _=>.i i⟩)
 |n,.str s t,d,h=>by cases n<;>(cases h;exact⟨.str s,⟨_,rfl⟩,fun _ _=>.s s⟩)
 |n+1,.ref a,d,h=>by
  unfold cv at h
  split at h
  ·rename_i us k sl hl
   split at h
   ·rename_i ds h1 h2;cases h;obtain⟨vs,r1,r2,r3⟩:=Mc (K:=K) (fun v d=>Df n) h2;exact⟨.ref a,rfl,fun m H=>.k (fun H'=>.inr ⟨_,us,k,hl,rfl,rfl,by have:=W35 h1;rw[Y12];lia,r1⟩) r2 (r3 m H)⟩
   ·cases h
  ·rename_i fd sl hl
   split at h
   ·rename_i f hf
    split at h
    ·rename_i e;subst e;cases h;exact⟨.ref f,rfl,fun m H=>.fn hf⟩
    ·cases h
   ·cases h
  ·cases h
 |0,.ref a,d,h=>by cases h
 |n,.type _,d,h=>by cases n<;>cases h
 |n,.builtin _,d,h=>by cases n<;>cases h
 |n,.ellipsis,d,h=>by cases n<;>cases h
 |n,.notImplemented,d,h=>by cases n<;>cases h
 |n,.float _ _,d,h=>by cases n<;>cases h
 |n,.bytes _ _,d,h=>by cases n<;>cases h
theorem tZ:∀{l:List Key},nodupK l=true→l.Nodup
 |[],_=>List.nodup_nil
 |k::r,h=>by
  unfold nodupK at h;rw[Y11,V19]at h;exact Z31.mpr ⟨fun m=>by have:=h.1 k m;simp at this,tZ h.2⟩
theorem Md{K:KW}:∀{es:List DictEntry} {l:List (Key×D)},cdE K.K es=some l→es.map (·.hash)=(l.map (·.1)).map (keyH K.w)→
  ∃(vs:List (Key×Value)) (kws:List (Key×V)),KV kws vs∧Pairs (bE K.P K.w) es vs∧vs.map (·.1)=l.map (·.1)∧kws.map (·.1)=l.map (·.1)∧kws.length=es.length∧(∀e∈es,∃k,(bE K.P K.w).is k e.key=true∧e.hash=(bE K.P K.w).hash k)∧∀m H (j:Nat) w p,kws[j]?=some w→l[j]?=some p→RV K m H w.2 p.2
 |[],l,h,_=>by cases h;exact⟨[],[],.nil,.nil,rfl,rfl,rfl,fun e h=>(by cases h),fun _ _ j w p h=>(by simp at h)⟩
 |⟨hs,.str s t,v⟩::r,l,h,hh=>by
  unfold cdE at h
  split at h
  ·rename_i d l' h1 h2;cases h;simp only[Z12,V35]at hh;obtain⟨vs,kws,a1,a2,a3,a4,a5,a6,a7⟩:=Md h2 hh.2;obtain⟨vv,r1,r2⟩:=Df (K:=K) 4 h1;refine⟨(.inr s,v)::vs,(.inr s,vv)::kws,.cons ⟨rfl,r1⟩ a1,.cons (jY K.P K.w s t) rfl a2,by simp[a3],by simp[a4],by simp[a5],fun e he=>?_,fun m H j w p e1 e2=>?_⟩
   ·rcases Z13.mp he with rfl|he
    ·exact⟨.inr s,jY K.P K.w s t,hh.1⟩
    ·exact a6 e he
   ·cases j with
    |zero=>cases e1;cases e2;exact r2 m H
    |succ j=>exact a7 m H j w p (by simpa using e1) (by simpa using e2)
  ·cases h
 |⟨_,.none,_⟩::_,_,h,_=>by cases h
 |⟨_,.bool _,_⟩::_,_,h,_=>by cases h
 |⟨_,.int _ _,_⟩::_,_,h,_=>by cases h
 |⟨_,.ref _,_⟩::_,_,h,_=>by cases h
 |⟨_,.type _,_⟩::_,_,h,_=>by cases h
 |⟨_,.builtin _,_⟩::_,_,h,_=>by cases h
 |⟨_,.ellipsis,_⟩::_,_,h,_=>by cases h
 |⟨_,.notImplemented,_⟩::_,_,h,_=>by cases h
 |⟨_,.float _ _,_⟩::_,_,h,_=>by cases h
 |⟨_,.bytes _ _,_⟩::_,_,h,_=>by cases h
theorem FY{K:KW}{v:Value}{d:D}(h:cd K.K v=some d)(hh:chs K.K v=(dkeys d).map (keyH K.w)):BE K v d:=by
 unfold cd at h
 split at h
 ·rename_i a
  split at h
  ·rename_i es ep hl
   split at h
   ·rename_i l h1 h2
    split at h
    ·rename_i h3;cases h;have e:chs K.K (.ref a)=es.toList.map (·.hash):=by unfold chs;dsimp only;rw[hl]
     rw[e]at hh;obtain⟨vs,kws,a1,a2,a3,a4,a5,a6,a7⟩:=Md h2 hh;rw[Y11]at h1;have hz:=W35 h1.1;refine⟨.ref a,rfl,fun m H=>.dc (kws:=kws) ⟨by rw[a5,Y12,W28];lia,by simpa using h1.2,vs,ep,a1,fun hp hi=>⟨_,es,hi _ _ hl,⟨rfl,rfl,rfl⟩,rfl,fun e he=>a6 e (by simpa using he),a2,by rw[a3];exact tZ h3⟩⟩ a4 (a7 m H)⟩
    ·cases h
   ·cases h
  ·exact Df 4 h
 ·exact Df 4 h
theorem BF{P:Program}{w:World}{K:Frag}{h:Heap}{mg:Str→Option Value}{d:D}(X:K.In h)(G:h.Ns mainGlobals mg)(e:cAt K x=cWant w d):∃v u,mg x=some u∧RelV v u∧∀m H,RV ⟨K,P,w⟩ m H v d:=by
 unfold cAt cWant at e
 split at e
 ·rename_i u hu;simp only[Z36,U21]at e;obtain⟨v,r1,r2⟩:=FY (K:=⟨K,P,w⟩) e.1 e.2;exact⟨v,u,mg_of X G hu,r1,r2⟩
 ·cases e
theorem Me{K:Frag}{fs:List Str}(h:clsAt K C fs=clsWant fs):Cls K C∧∀f,fs.contains f=true→fI K C f:=by
 unfold clsAt clsWant at h;simp only[U21]at h;obtain⟨h1,h2,h3,h4,h5⟩:=h;exact⟨⟨h1,h2,h3,h4⟩,fun f hf=>List.map_inj_left.mp h5 f (by simpa using hf)⟩
theorem Mf{K:Frag}{qual:Str}{ps:List Str}(h:mthAt K C x=mthWant x qual st)
  (hb:∀(kV doc pm:Value) (an:Option Addr) (cdv ct:Value) (us:List Value),us.length=ps.length→bindArgs (fnOf x qual (defArgs st) (defBody st) (defScope st) .none kV doc pm an cdv ct) ⟨us,[]⟩=pure (ps.zip us)):∃f fd,DefM K C x qual st ps f fd:=by
 unfold mthAt mthWant at h
 split at h
 ·rename_i f hf
  split at h
  ·rename_i oc od fd sl hl;obtain⟨n,q,ps,b,sc,g,cl,dV,kV,dc,pm,an,cd,ct,bu⟩:=fd;simp only[Z36,U21]at h;obtain⟨rfl,rfl,rfl,rfl,rfl,rfl,rfl,rfl,rfl,h1,h2⟩:=h;rw[Y11]at h2;have F':Fun K n q st f _:=zO (st:=st) hl h1 h2.1;exact⟨f,_,F',F'.binds hb,hf,h2.2,h2.1⟩
  ·cases h
 ·cases h
theorem FZ{K:Frag}{f:Addr}{y:Str}{h:Heap}{mg:Str→Option Value}(X:K.In h)(G:h.Ns mainGlobals mg)(e:mkAt K C y=(true,true,some (some (.ref C))))(hm:Meth K C "__init__" f):Mk K C f∧mg y=some (.ref C):=by
 unfold mkAt at e;simp only[U21]at e;exact⟨⟨e.1,hm.at_,hm.fn,e.2.1⟩,mg_of X G e.2.2⟩
abbrev lX(Good:World→Frag→Prop)(w:World)(h:Heap):Prop:=∃K:Frag,Good w K∧K.In h
theorem lX.keeps(w:World)(h h':Heap)(x:lX Good w h)(k:∀b o,h.get? b=some o→h'.get? b=some o):lX Good w h':=by
 obtain⟨K,g,i⟩:=x;exact⟨K,g,i.keeps k⟩
theorem Tg{l:OpenLaw}{k:Nat}{XP:(Str→Option Value)→Heap→Prop}{d:DefRec}{f:List D→M D}
  (hn:l.most=some 63)(hdf:d.params.defaults=[])(hr:Room k callerA)
  (F:∀(w:World) (K:Frag),Good w K→∀(mg:Str→Option Value) (fa:Addr) (h:Heap),K.In h→h.Ns mainGlobals mg→mg d.name=some (.ref fa)→
   ∃fd:FuncData,(∀(s:Shared) (u:Value),BindsTo s fd ⟨[u],[]⟩ [(x,u)])∧∀base:Heap,K.In base→base.Ns mainGlobals mg→FnOk l.prog w K mg base CX0 k fa fd [x] (LF ⟨K,l.prog,w⟩ f))
  (ht:∀ns:List Int,ns.length≤63→∃st',f [.f (ns.map D.i)] []=some (.b true,st')):
  WalkO q loose XP (lX Good) l.row.toRowW d [] (fun f vs=>PySem.call f vs):=by
 refine Att.attach_call hn hdf fun w s₀ s₁ mg mb fa o pm cd doc a vs ns G Y ho hd hcd hmg hobj hints hlen hg=>?_;obtain⟨K,g,KX⟩:=Y;obtain⟨fd,hb,hF⟩:=F w K g mg fa _ KX G.T.g hmg;refine Ik KX G.T.g G.T.b G.T.builtins G.T.nolimit hg hobj hints (Y14 hlen (by decide)) hr hF hb (fun H hO hS=>?_) fun H e s' z=>z;obtain⟨st',ht⟩:=ht ns hlen;have hz:Xy K H a (ns.map V.int):=by
  rcases hS with (h|⟨o,h⟩)|h
  ·rcases hO a with q|⟨o,xs,q⟩
   ·rw[q]at h;cases h
   ·rw[q]at h;cases h
  ·exact .inl ⟨o,h⟩
  ·exact .inr h
 refine⟨[],[],[.f (ns.map D.i)],.b true,st',⟨rfl,List.nodup_nil,fun l a c h=>by simp at h⟩,.one (.f hz (by simp) fun j v d h1 h2=>?_),ht,fun v H' m' _ _ r=>by cases r;rfl⟩;rw[W14]at h1 h2;cases q:ns[j]? with
 |none=>rw[q]at h1;cases h1
 |some n=>rw[q]at h1 h2;cases h1;cases h2;exact .i n
theorem Th{l:OpenLaw}{Yf:Frag→α}{y:World→α}{d:DefRec}(said:l.wellSaid=true)
  (left:LeftO l.row.prog q loose (fun s=>xlAt q [] s&&recOk l.row.toRowW.records s) (fun s=>Yf (fragOf s.heap)) y N)
  (hG:∀w K,Yf K=y w→Good w K)
  (hdef:defOf q l.row.name=some (d,[]))(hp:l.row.prog.theDef l.row.name=some (d.params,d.body,d.scope))(hk:kwWritten? d.params.kwonlyargs d.params.kw_defaults=some [])(hwr:(!l.row.writes || l.row.records.isEmpty)=true)
  (ok:(chainsOk q&&opensWell l.row.prog&&(frees l.row.toRowW&&l.row.within.isEmpty))=true)(hb:l.row.prog.bare)(hw:l.row.toRowW.promised)
  (call:WalkO q loose (XL q []) (lX Good) l.row.toRowW d [] fun f vs=>PySem.call f vs):l.Holds:=
 holds_law said fun k1=>holds_open (q:=q) (loose:=loose) (XP:=XL q []) (YP:=lX Good) left (fun w s e=>⟨_,hG w _ e,Gv _⟩) lX.keeps (fun s e=>xl_of s (Bool.and_eq_true_iff.mp e).1) XL.keeps hdef hp hk (fun s e=>recFacts_of (Bool.and_eq_true_iff.mp e).2) hwr k1 ok hb hw call
theorem Dg{tb:String→Option Builtin}{p:Program}{w:World}{n₀:Nat}{ann:Option Value}:∀{n:Nat} {s s':SharedT} {t:Thread},topT tb p w n₀ ann n s t=some s'→topRun tb p w n₀ ann n s.abs t=some s'.abs
 |0,_,_,_,h=>by cases h
 |n+1,s,s',t,h=>by
  unfold topT at h;unfold topRun;cases ht:through t with
  |true=>rw[ht]at h;cases h;rfl
  |false=>
   rw[ht]at h;cases hk:stepOk n₀ ann t with
   |false=>rw[hk]at h;cases h
   |true=>
    rw[hk]at h;cases hs:PySem.W.stepT (denote tb) p w s t with
    |none=>rw[hs]at h;cases h
    |some r=>
     obtain⟨s2,t2⟩:=r;rw[hs]at h;dsimp only;rw[PySem.W.stepT_spec hs];exact Dg h
theorem boot_abs(P:Params):absHeap (bootT P) 11 {}=boot_heap P:=by kernel_rfl
theorem Gw(P:Params):((boot_heap P).isNs mainGlobals&&(#[]:Array GenState).size==0,(boot_heap P).objs.size,(boot_heap P).nsMap mainGlobals "__annotations__")=(true,11,some (.ref 6)):=by kernel_rfl
def Ay(p q:Program)(loose:List Str)(Xt:Shared→Bool)(Yf:Shared→α)(P:Params)(s:Shared):=
 ((staticsOk (importedModules p.main.body) (boot_heap P) s.heap&&namesBound p s.heap&&gensDone s&&laidKept (boot_heap P) s.heap),openSeen q loose (importedModules p.main.body) Xt true s,Yf s)
theorem Ti{p:Program}{Yf:Shared→α}{y:World→α}(e:opening p=plainProg p.main.scope.names)(hN:Nat.ble 600 N=true)(f:∀s,fenceModules? p s=some s)
  (run:∀(w:World) (os:OsState),(topT treeTable p w 11 (some (.ref 6)) N (bootS w.params os) (topStub p)).map (fun s=>Ay p q loose Xt Yf w.params s.abs)=some (true,openGood q loose,y w)):LeftO p q loose Xt Yf y N:=fun w=>by
 obtain⟨⟨h,gs,d,k,os⟩,e1,e2⟩:=V13.mp (boot_open e hN f w);obtain⟨rfl,rfl,rfl,rfl⟩:h=boot_heap w.params∧gs=Array.mk []∧d=boot_drawn∧k=boot_toks:=by simpa using e2
 obtain⟨s,r1,r2⟩:=V13.mp (run w os);have r3:=Dg r1;have hb:(bootS w.params os).abs=⟨boot_heap w.params,Array.mk [],boot_drawn,boot_toks,os⟩:=by
  unfold bootS SharedT.abs;dsimp only;rw[boot_abs]
 rw[hb]at r3;have z:=Gw w.params;simp only[U21]at z;obtain⟨z1,z2,z3⟩:=z;unfold Ay at r2;simp only[U21]at r2;obtain⟨l1,l2,l3⟩:=r2;have t:topFrom treeTable p w N ⟨boot_heap w.params,Array.mk [],boot_drawn,boot_toks,os⟩=some s.abs:=by
  unfold topFrom;dsimp only;rw[z1,z2,z3,r3];show(match staticsOk (importedModules p.main.body) (boot_heap w.params) s.abs.heap&&namesBound p s.abs.heap&&gensDone s.abs&&laidKept (boot_heap w.params) s.abs.heap with |true=>_|false=>_)=_;rw[l1]
 unfold openEnds;rw[e1];show(topFrom treeTable p w N _).map _=_;rw[t];exact congrArg some (Prod.ext l2 l3)
theorem yL(t:BT):∀(n:Nat) (acc:List Obj),listF t n acc=t.list n++acc
 |0,acc=>rfl
 |n+1,acc=>by
  unfold listF;rw[yL t n];unfold BT.list;rw[U31,Y19,W10]
  rfl
theorem Tj(s:SharedT):absF s=s.abs:=by
 unfold absF SharedT.abs absHeap;rw[yL,U19]
theorem BG{t:BT}{n:Nat}{life:Life}{a:Nat}(h:a<n):(absHeap t n life).get? a=alive ((t.get a).getD default):=by
 unfold Heap.get?;rw[absHeap_at,if_pos h];generalize (t.get a).getD default=o;obtain⟨c,d,dt,sl⟩:=o;cases dt<;>rfl
theorem rH{t:BT}{n:Nat}{life:Life}:∀(k:Nat) (acc:Frag),k≤n→fragT t k acc=((List.range k).filterMap fun a=>((absHeap t n life).get? a).map fun o=>(a,o))++acc
 |0,acc,_=>rfl
 |k+1,acc,h=>by
  unfold fragT;rw[U31,List.filterMap_append,W10];have e:([k].filterMap fun a=>((absHeap t n life).get? a).map fun o=>(a,o))=(match alive ((t.get k).getD default) with |some o=>[(k,o)]|none=>[]):=by
   rw[Y32,List.filterMap_nil,BG (by omega)];cases alive ((t.get k).getD default)<;>rfl
  rw[e];cases alive ((t.get k).getD default) with
  |none=>exact rH k acc (by omega)
  |some o=>exact rH k _ (by omega)
theorem Mg(s:SharedT):fragT s.tree s.n []=fragOf s.abs.heap:=by
 rw[rH (n:=s.n) (life:=s.life) s.n [] (W11 _),U19];unfold fragOf SharedT.abs;dsimp only;rw[absHeap_size]
abbrev rZ(p:Program)(w:World)(os:OsState)(N:Nat):=topT treeTable p w 11 (some (.ref 6)) N (bootS w.params os) (topStub p)
theorem Az{p:Program}{Yf:Frag→α}{y:World→α}(row:String)(e:opening p=plainProg p.main.scope.names)(hN:Nat.ble 600 N=true)(f:∀s,fenceModules? p s=some s)
  (c0:∀(w:World) (os:OsState) (b:Bool),(rZ p (w.withFollow row b) os N).map (fun s=>lk0 q s)=some (expectedOf q))
  (c1:∀(w:World) (os:OsState) (b:Bool),(rZ p (w.withFollow row b) os N).map (fun s=>((absF s).heap.bltView,lk3 p s,lk4 q Xt s,pinSeenD q (drecsOf q) (absF s),plainSeenD q loose (absF s),clsSeenW q loose (absF s),lk9 p (w.withFollow row b).params s))=some (bltViewBooted,true,true,pinGoodD (drecsOf q),plainGoodD q loose,clsGoodW q loose,true))
  (c2:∀(w:World) (os:OsState) (b:Bool),(rZ p (w.withFollow row b) os N).map (fun s=>lk2 q loose s)=some true)
  (c3:∀(w:World) (os:OsState) (b:Bool),(rZ p (w.withFollow row b) os N).map (fun s=>tabsOk q (absF s))=some true)
  (c4:∀(w:World) (os:OsState) (b:Bool),(rZ p (w.withFollow row b) os N).map (fun s=>plainSeenE q (looseW q loose) (absF s))=some (plainGoodE q (looseW q loose)))
  (c5:∀(w:World) (os:OsState) (b:Bool),(rZ p (w.withFollow row b) os N).map (fun s=>wideSeen q (absF s))=some (wideGood q))
  (cY:∀(w:World) (os:OsState) (b:Bool),(rZ p (w.withFollow row b) os N).map (fun s=>Yf (fragT s.tree s.n []))=some (y (w.withFollow row b))):LeftO p q loose Xt (fun s=>Yf (fragOf s.heap)) y N:=
 Ti e hN f fun w os=>by
  have z:=World.withFollow_self w row;have r0:=c0 w os (w.params.followText row);have r1:=c1 w os (w.params.followText row);have r2:=c2 w os (w.params.followText row);have r3:=c3 w os (w.params.followText row);have r4:=c4 w os (w.params.followText row);have r5:=c5 w os (w.params.followText row);have rY:=cY w os (w.params.followText row);rw[z]at r0 r1 r2 r3 r4 r5 rY;unfold rZ at r0 r1 r2 r3 r4 r5 rY;obtain⟨s,hs,l0⟩:=V13.mp r0;rw[hs]at r1 r2 r3 r4 r5 rY⊢;simp only[Option.map_some,Z36,U21]at r1 r2 r3 r4 r5 rY⊢;obtain⟨a1,a2,a3,a4,a5,a6,a7⟩:=r1;unfold lk0 at l0;unfold lk3 at a2;unfold lk4 at a3;unfold lk9 at a7;unfold lk2 at r2;rw[Tj]at l0 a1 a2 a3 a4 a5 a6 a7 r2 r3 r4 r5;rw[Mg]at rY;simp only[Y11]at a3;obtain⟨b1,b2,b3,b4,b5⟩:=a3;unfold Ay openSeen openGood;simp only[U21];refine⟨a7,⟨l0,a1,?_,r3,a4,r4,a5,r5,a6⟩,rY⟩;simp only[r2,a2,b1,b2,b3,b4,if_true,Bool.true_and,Bool.and_self];exact b5
abbrev DSp.ps(s:DSp):List Str:=s.N.take s.a
def Tb.d(T:Tb)(s:DSp)(g:List D→M D):Tb:=⟨(s.x,s.k+1,g)::T.dl,T.ml,T.kl⟩
def Tb.m(T:Tb)(s:DSp)(g:List D→M D):Tb:=⟨T.dl,(s.x,s.k+1,g)::T.ml,T.kl⟩
def Tb.c(T:Tb)(y:Str)(s:DSp)(g:List D→M D):Tb:=⟨T.dl,T.ml,(y,s.k+1,g)::T.kl⟩
def Tb.r(T:Tb)(s:DSp)(fu:Nat)(g:List D→M D):Tb:=⟨(s.x,s.k+fu,g)::T.dl,T.ml,T.kl⟩
def chk(cons:List (Str×D))(blt:List Str)(C:Addr)(fs:List Str)(T:Tb)(st:Stmt)(s:DSp):Option Sm':=grd (Tf s.N s.ps (defScope st)) (oU (T.gt s.k cons blt C fs) ⟨s.N,(defScope st).names,s.k⟩ (defBody st))
def lY(st:Stmt)(x q:Str)(ps:List Str):Prop:=∀(kV doc pm:Value) (an:Option Addr) (cdv ct:Value) (us:List Value),us.length=ps.length→bindArgs (fnOf x q (defArgs st) (defBody st) (defScope st) .none kV doc pm an cdv ct) ⟨us,[]⟩=pure (ps.zip us)
theorem us1{p:Str}(h:∀a,bindArgs F ⟨[a],[]⟩=pure ([p].zip [a])):∀us:List Value,us.length=[p].length→bindArgs F ⟨us,[]⟩=pure ([p].zip us)
 |[_],_=>h _
theorem us2{p q:Str}(h:∀a b,bindArgs F ⟨[a,b],[]⟩=pure ([p,q].zip [a,b])):∀us:List Value,us.length=[p,q].length→bindArgs F ⟨us,[]⟩=pure ([p,q].zip us)
 |[_,_],_=>h _ _
theorem us3{p q r:Str}(h:∀a b c,bindArgs F ⟨[a,b,c],[]⟩=pure ([p,q,r].zip [a,b,c])):∀us:List Value,us.length=[p,q,r].length→bindArgs F ⟨us,[]⟩=pure ([p,q,r].zip us)
 |[_,_,_],_=>h _ _ _
theorem us4{p q r t:Str}(h:∀a b c d,bindArgs F ⟨[a,b,c,d],[]⟩=pure ([p,q,r,t].zip [a,b,c,d])):∀us:List Value,us.length=[p,q,r,t].length→bindArgs F ⟨us,[]⟩=pure ([p,q,r,t].zip us)
 |[_,_,_,_],_=>h _ _ _ _
theorem bo1{q p:Str}(h:∀kV doc pm an cdv ct a,bindArgs (fnOf x q (defArgs st) (defBody st) (defScope st) .none kV doc pm an cdv ct) ⟨[a],[]⟩=pure ([p].zip [a])):lY st x q [p]:=fun _ _ _ _ _ _ us=>us1 (h _ _ _ _ _ _) us
theorem bo2{q p:Str}(h:∀kV doc pm an cdv ct a b,bindArgs (fnOf x q (defArgs st) (defBody st) (defScope st) .none kV doc pm an cdv ct) ⟨[a,b],[]⟩=pure ([p,p2].zip [a,b])):lY st x q [p,p2]:=fun _ _ _ _ _ _ us=>us2 (h _ _ _ _ _ _) us
theorem bo3{q p p3:Str}(h:∀kV doc pm an cdv ct a b c,bindArgs (fnOf x q (defArgs st) (defBody st) (defScope st) .none kV doc pm an cdv ct) ⟨[a,b,c],[]⟩=pure ([p,p2,p3].zip [a,b,c])):lY st x q [p,p2,p3]:=fun _ _ _ _ _ _ us=>us3 (h _ _ _ _ _ _) us
theorem bo4{q p p3 p4:Str}(h:∀kV doc pm an cdv ct a b c d,bindArgs (fnOf x q (defArgs st) (defBody st) (defScope st) .none kV doc pm an cdv ct) ⟨[a,b,c,d],[]⟩=pure ([p,p2,p3,p4].zip [a,b,c,d])):lY st x q [p,p2,p3,p4]:=fun _ _ _ _ _ _ us=>us4 (h _ _ _ _ _ _) us
end L2
namespace K86
open PySem L2 PyProof.Rows
abbrev Fn:=List D→M D
def T0:Tb:=⟨[],[],[]⟩
def jQ:Sm':=aE (sA (eC (.i 7)) (gN 1))
   (aE (sF (IX (aC (eV 0) aN)) (gT 2 (gU (gN 2) (gU (gN 3) qV))) (sA (aT lU (aT aI (aT aI (aT aI (aT qO (eV 1) (eC (.i 7368787))) (aT lU (eV 3) (aT zX (eC (.i 10)) (eC (.i 30))))) (aT qO (eC (.i 13)) (eV 2))) (eC (.i 11))) (eC (.i 2305843009213693951))) (gN 1)))
   (aE (sA (wQ [] (iS (vK (eV 0) oN (oS (eC (.i 63))))) bd1 (eA ES (eV 0) (aT zX (eC (.i 10)) (eC (.i 18)))) (eV 0)) (gN 4))
   (sR (aT aI (eL (aC (eV 1) aN)) (aM Cu (aC (eV 4) aN))))))
def eU:Fn:=aL 5 1 jQ
def T1:Tb:=T0.d S0 eU
def fV:Sm':=aE (sI (eA Oe (aM bZ (aC (eV 0) aN)) (eC (.i 1))) (aE (sA (aT lU (bL (eV 0) (Fy mP (eC (.i 1)))) (eV 1)) (gN 2))
   (aE (sA (aT lS (bL (eV 0) (Fy mP (eC (.i 1)))) (eV 1)) (gS (eV 0) (Fy mP (eC (.i 1)))))
   (aE (sI (eA gZ (bL (eV 0) (Fy mP (eC (.i 1)))) (eC (.i 0))) (sE (Hg "list" iM (eV 0))) sN)
   (sR (eV 2))))) sN)
   (aE (sA (aT lU (aT aI (aT qO (bL (eV 0) (eC (.i 0))) (eC (.i 1181783497276652981))) (eC (.i 12345678910987))) (eC (.i 2305843009213693951))) (gS (eV 0) (eC (.i 0))))
   (aE (sA (aT lS (bL (eV 0) (eC (.i 0))) (eC (.i 65537))) (gN 3))
   (sR (aT lU (aT lS (aT lU (aT qO (eV 3) (eV 3)) (eC (.i 2147483629))) (eC (.i 7))) (eV 1)))))
def aB:Fn:=aL 4 2 fV
def T2:Tb:=T1.d S1 aB
def gM:Sm':=aE (sF (Rv (aC (aM bZ (aC (eV 1) aN)) aN)) (gN 2) (sI (eA gZ (bL (eV 1) (aT nH (Fy mP (eC (.i 1))) (eV 2))) (eV 0)) (sR (eT (aC (eC (.s "bound")) (aC (eV 2) aN)))) sN))
   (sR (eT (aC (eC (.s "free")) (aC (eV 0) aN))))
def dU:Fn:=aL 3 2 gM
def T3:Tb:=T2.d S2 dU
def fW:Sm':=aE (sA (eC (.s "abcdefghijklmnopqrstuvwxyz")) (gN 1))
   (aE (sI (eA gZ (aM aB (aC (eV 0) (aC (eC (.i 2)) aN))) (eC (.i 0))) (sR (bL (eL (aC (eC (.s "x")) (aC (eC (.s "y")) (aC (eC (.s "z")) (aC (eC (.s "xa")) (aC (eC (.s "ya")) (aC (eC (.s "zz")) (aC (eC (.s "xaa")) (aC (eC (.s "h")) (aC (eC (.s "in")) (aC (eC (.s "nat")) aN))))))))))) (aM aB (aC (eV 0) (aC (eC (.i 10)) aN))))) sN)
   (aE (sA (rX "str" iH (eC (.s "")) (aC (wQ [1,0] (Rv (aC (aT aI (eC (.i 1)) (aM aB (aC (eV 0) (aC (eC (.i 8)) aN)))) aN)) bd1 (fun _=>ret true) (bL (eV 1) (aM aB (aC (eV 2) (aC (eC (.i 26)) aN))))) aN)) (gN 2))
   (aE (sI (eA inD (eV 2) (eT (aC (eC (.s "false")) (aC (eC (.s "all")) (aC (eC (.s "some")) (aC (eC (.s "and")) (aC (eC (.s "or")) aN))))))) (sR (aT aI (vK (eV 2) oN (oS (eC (.i 1)))) (eC (.s "q")))) sN)
   (sR (eV 2)))))
def bW:Fn:=aL 3 1 fW
def T4:Tb:=T3.d S3 bW
def fM:Sm':=aE (sA (aM bW (aC (eV 0) aN)) (gN 1))
   (sR (aT aI (bL (eC (.s "ABCDEFGHIJKLMNOPQRSTUVWXYZ")) (aM aB (aC (eV 0) (aC (eC (.i 26)) aN)))) (vK (eV 1) oN (oS (eC (.i 7))))))
def dC:Fn:=aL 2 1 fM
def T5:Tb:=T4.d S4 dC
def T6:Tb:=⟨(S5.x,3,fun _=>bad)::T5.dl,T5.ml,T5.kl⟩
def aU(g__law_term:Fn):Sm':=aE (sA (wQ [1,2,0] (Rv (aC (eV 3) aN)) bd1 (fun _=>ret true) (aM g__law_term (aC (eV 3) (aC (eV 1) (aC (eV 2) aN))))) (gN 4))
   (sR (eT (aC (aM xT (aC (wQ [] (iS (eV 4)) bd1 (fun _=>ret true) (bL (eV 0) (eC (.i 0)))) aN)) (aC (rX "str" iH (eC (.s ", ")) (aC (wQ [] (iS (eV 4)) bd1 (fun _=>ret true) (bL (eV 0) (eC (.i 1)))) aN)) aN))))
def iQ:Fn:=aL 5 4 (aU (fun _=>bad))
def T7:Tb:=T6.d S6 iQ
def aO(g__law_args:Fn):Sm':=aE (sA (aM aB (aC (eV 0) (aC (aT aI (eC (.i 4)) (aT qO (eC (.i 2)) (aM lT (aC (aT Oe (eV 1) (eC (.i 0))) aN)))) aN))) (gN 3))
   (aE (sI (Ru (eA gZ (eV 3) (eC (.i 1))) (eA Of (eV 2) (eL aN))) (aE (sA (bL (eV 2) (aM aB (aC (eV 0) (aC (aM bZ (aC (eV 2) aN)) aN)))) (gN 4))
   (sR (eT (aC (aM dU (aC (eV 4) (aC (eV 2) aN))) (aC (eV 4) aN))))) sN)
   (aE (sI (eA Yr (eV 3) (eC (.i 3))) (aE (sA (aM bW (aC (eV 0) aN)) (gN 4))
   (sR (eT (aC (aM dU (aC (eV 4) (aC (eV 2) aN))) (aC (eV 4) aN))))) sN)
   (aE (sI (eA gZ (eV 3) (eC (.i 3))) (aE (sA (aM dC (aC (eV 0) aN)) (gN 4))
   (sR (eT (aC (eT (aC (eC (.s "form")) (aC (eV 4) (aC (eT aN) aN)))) (aC (eV 4) aN))))) sN)
   (aE (sA (aM g__law_args (aC (eV 0) (aC (aT nH (eV 1) (eC (.i 1))) (aC (eV 2) (aC (aT aI (aM lT (aC (aT gZ (eV 3) (eC (.i 4))) aN)) (aM aB (aC (eV 0) (aC (aT aI (eC (.i 4)) (aM lT (aC (aT gZ (eV 3) (eC (.i 5))) aN))) aN)))) aN))))) (gT 2 (gU (gN 5) (gU (gN 6) qV))))
   (aE (sA (bL (eL (aC (eC (.s "form")) (aC (eC (.s "call")) aN))) (aT nH (eV 3) (eC (.i 4)))) (gN 7))
   (aE (sA (bL (eL (aC (aM dC (aC (eV 0) aN)) (aC (aM bW (aC (eV 0) aN)) aN))) (aT nH (eV 3) (eC (.i 4)))) (gN 4))
   (sR (eT (aC (eT (aC (eV 7) (aC (eV 4) (aC (eV 5) aN)))) (aC (aT aI (aT aI (aT aI (eV 4) (eC (.s "("))) (eV 6)) (eC (.s ")"))) aN))))))))))
def iR:Fn:=aL 8 3 (aO iQ)
def S7:DSp:={ S5 with k:=4 }
def T8:Tb:=T7.d S7 iR
def iT:Fn:=aL 5 4 (aU iR)
def S8:DSp:={ S6 with k:=5 }
def T9:Tb:=T8.d S8 iT
def iU:Fn:=aL 8 3 (aO iT)
def S9:DSp:={ S5 with k:=6 }
def T10:Tb:=T9.d S9 iU
def iV:Fn:=aL 5 4 (aU iU)
def S10:DSp:={ S6 with k:=7 }
def T11:Tb:=T10.d S10 iV
def iW:Fn:=aL 8 3 (aO iV)
def S11:DSp:={ S5 with k:=8 }
def T12:Tb:=T11.d S11 iW
def iX:Fn:=aL 5 4 (aU iW)
def S12:DSp:={ S6 with k:=9 }
def T13:Tb:=T12.d S12 iX
def fU:Fn:=aL 8 3 (aO iX)
def S13:DSp:={ S5 with k:=10 }
def T14:Tb:=T13.d S13 fU
def eE:Fn:=aL 5 4 (aU fU)
def S14:DSp:={ S6 with k:=11 }
def T15:Tb:=T14.d S14 eE
def bU:Fn:=aL 8 3 (aO eE)
def S15:DSp:={ S5 with k:=12 }
def T16:Tb:=T15.d S15 bU
def bH(self:Fn):Sm':=aE (sI (eA gZ (bL (eV 0) (eC (.i 0))) (eC (.s "free"))) (sR (bL (eV 0) (eC (.i 1)))) sN)
   (aE (sI (eA gZ (bL (eV 0) (eC (.i 0))) (eC (.s "bound"))) (sR (bL (eV 1) (bL (eV 0) (eC (.i 1))))) sN)
   (aE (sI (Ru (eA gZ (bL (eV 0) (eC (.i 0))) (eC (.s "form"))) (eA gZ (bL (eV 0) (eC (.i 2))) (eT aN))) (sR (bL (eV 0) (eC (.i 1)))) sN)
   (sR (aT aI (aT aI (aT aI (bL (eV 0) (eC (.i 1))) (eC (.s "("))) (rX "str" iH (eC (.s ", ")) (aC (wQ [1] (iS (bL (eV 0) (eC (.i 2)))) bd1 (fun _=>ret true) (aM self (aC (eV 0) (aC (eV 1) aN)))) aN))) (eC (.s ")"))))))
def aH:Nat→Fn
 |0=>fun _=>bad
 |n+1=>aL 2 2 (bH (aH n))
def T17:Tb:=T16.r S16 6 (aH 6)
def eO(self:Fn):Sm':=aE (sI (gE (aM bD (aC (eV 1) (aC (eC (.ty "tuple")) aN)))) (sR (Co (aM bD (aC (eV 0) (aC (eC (.ty "tuple")) aN))) (Co (aT gZ (aM bZ (aC (eV 0) aN)) (aM bZ (aC (eV 1) aN))) (aM Ga (aC (wQ [] (JB (aC (eV 0) (aC (eV 1) aN))) (Zr 2) (fun _=>ret true) (aM self (aC (eV 0) (aC (eV 1) aN)))) aN))))) sN)
   (aE (sI (gE (aM bD (aC (eV 1) (aC (eC (.ty "str")) aN)))) (sR (Co (aM bD (aC (eV 0) (aC (eC (.ty "str")) aN))) (aT gZ (eV 0) (eV 1)))) sN)
   (sR (Co (aM bD (aC (eV 0) (aC (eC (.ty "int")) aN))) (Co (IV (aM bD (aC (eV 0) (aC (eC (.ty "bool")) aN)))) (aT gZ (eV 0) (eV 1))))))
def aJ:Nat→Fn
 |0=>fun _=>bad
 |n+1=>aL 2 2 (eO (aJ n))
def T18:Tb:=T17.r S17 20 (aJ 20)
def fN:Sm':=aE (sA (bL (eV 0) (eC (.i 0))) (gN 1))
   (aE (sI (eA inD (eV 1) (eC jL)) (sR (bL (eV 0) (eC (.i 2)))) sN)
   (aE (sI (eA inD (eV 1) (eC jM)) (sR (eT (aC (bL (eV 0) (eC (.i 1))) (aC (bL (eV 0) (eC (.i 2))) aN)))) sN)
   (aE (sI (eA inD (eV 1) (eC dE)) (sR (eT (aC (bL (eV 0) (eC (.i 2))) aN))) sN)
   (sR (eT aN)))))
def bP:Fn:=aL 2 1 fN
def T19:Tb:=T18.d S18 bP
def nR:Sm':=aE (sA (JA) (gN 1))
   (aE (sA (eL (aC (eV 0) aN)) (gN 2))
   (aE (sW (gE (eV 2)) (aE (sA (Hg "list" iM (eV 2)) (gN 3))
   (aE (sI (eA gZ (bL (eV 3) (eC (.i 0))) (eC (.s "free"))) (sE (FW (eV 1) (aC (bL (eV 3) (eC (.i 1))) aN))) sN)
   (sE (rX "list" cN (eV 2) (aC (aM bP (aC (eV 3) aN)) aN))))))
   (sR (aM mR (aC (eV 1) aN)))))
def lJ:Fn:=aL 4 1 nR
def T20:Tb:=T19.d S19 lJ
def gO:Sm':=aE (sA (HE (aT gZ (eV 0) (eC (.s "statement"))) (aT gZ (eV 0) (eC (.s "body")))) (gN 2))
   (sR (eT (aC (eV 0) (aC (eV 1) (aC (Og (gE (eV 2)) (eT (aC (eT aN) (aC (aM lJ (aC (eV 1) aN)) aN))) (eC dA)) aN)))))
def cU:Fn:=aL 3 2 gO
def T21:Tb:=T20.d S20 cU
def rJ:Sm':=aE (sA (eL aN) (gN 1))
   (aE (sF (iS (eV 0)) (gN 2) (sE (rX "list" cN (eV 1) (aC (Og (gE (eV 1)) (aT aI (eL (aC (eC (.s ", ")) aN)) (eV 2)) (eV 2)) aN))))
   (sR (eV 1)))
def mU:Fn:=aL 3 1 rJ
def T22:Tb:=T21.d S21 mU
def kJ:Sm':=sR (aT aI (aT aI (eL (aC (aT aI (bL (eV 0) (eC (.i 1))) (eC (.s "("))) aN)) (aM mU (aC (wQ [1] (iS (bL (eV 0) (eC (.i 2)))) bd1 (fun _=>ret true) (eL (aC (eT (aC (eC (.s "term")) (aC (eV 0) (aC (eV 1) aN)))) aN))) aN))) (eL (aC (eC (.s ")")) aN)))
def cV:Fn:=aL 2 2 kJ
def T23:Tb:=T22.d S22 cV
def cW:Sm':=aE (sI (eA gZ (bL (eV 0) (eC (.i 0))) (eC (.s "free"))) (sR (eL (aC (bL (eV 0) (eC (.i 1))) aN))) sN)
   (aE (sI (eA gZ (bL (eV 0) (eC (.i 0))) (eC (.s "bound"))) (sR (eL (aC (bL (bL (eV 1) (eC (.i 0))) (aT nH (Fy mP (eC (.i 1))) (bL (eV 0) (eC (.i 1))))) aN))) sN)
   (aE (sI (Ru (eA gZ (bL (eV 0) (eC (.i 0))) (eC (.s "form"))) (eA gZ (aM bZ (aC (bL (eV 0) (eC (.i 2))) aN)) (eC (.i 0)))) (sR (eL (aC (bL (eV 0) (eC (.i 1))) aN))) sN)
   (sR (aM cV (aC (eV 0) (aC (eV 1) aN))))))
def bV:Fn:=aL 2 2 cW
def T24:Tb:=T23.d S23 bV
def kK:Sm':=aE (sA (eC (.s "")) (gN 1))
   (aE (sA (aT lS (eV 0) (aM bZ (aC (eC (.s "xyz")) aN))) (gN 2))
   (aE (sW (eA Oe (eV 2) (eC (.i 0))) (aE (sG tW 2 (eC (.i 1)))
   (aE (sA (aT aI (bL (eC (.s "abcdefghijklmnopqrstuvwxyz")) (aT lU (eV 2) (aM bZ (aC (eC (.s "abcdefghijklmnopqrstuvwxyz")) aN)))) (eV 1)) (gN 1))
   (sA (aT lS (eV 2) (aM bZ (aC (eC (.s "abcdefghijklmnopqrstuvwxyz")) aN))) (gN 2)))))
   (sR (aT aI (bL (eC (.s "xyz")) (aT lU (eV 0) (aM bZ (aC (eC (.s "xyz")) aN)))) (eV 1)))))
def cH:Fn:=aL 3 1 kK
def T25:Tb:=T24.d S24 cH
def kL:Sm':=aE (sA (eV 0) (gT 2 (gU (gN 1) (gU (gN 2) qV))))
   (aE (sA (eC (.i 0)) (gN 3))
   (aE (sW (Cn (eA inD (aM cH (aC (eV 3) aN)) (eV 1)) (eA inD (aM cH (aC (eV 3) aN)) (eV 2))) (sG kE 3 (eC (.i 1))))
   (sR (aM cH (aC (eV 3) aN)))))
def iI:Fn:=aL 4 1 kL
def T26:Tb:=T25.d S25 iI
def iA:Sm':=aE (sA (aM iI (aC (eV 1) aN)) (gN 2))
   (sR (eT (aC (eV 2) (aC (eT (aC (eC (.s "statement")) (aC (eV 0) (aC (eT (aC (aT aI (bL (eV 1) (eC (.i 0))) (eT (aC (eV 2) aN))) (aC (bL (eV 1) (eC (.i 1))) aN))) aN)))) aN))))
def dP:Fn:=aL 3 2 iA
def T27:Tb:=T26.d S26 dP
def bF:Sm':=aE (sI (eA gZ (bL (eV 0) (eC (.i 0))) (eC (.s "false"))) (sR (eL (aC (eC (.s "false")) aN))) sN)
   (aE (sI (eA gZ (bL (eV 0) (eC (.i 0))) (eC (.s "atom"))) (sR (aM cV (aC (eV 0) (aC (eV 1) aN)))) sN)
   (aE (sI (eA gZ (bL (eV 0) (eC (.i 0))) (eC (.s "same"))) (sR (eL (aC (eT (aC (eC (.s "term")) (aC (bL (eV 0) (eC (.i 1))) (aC (eV 1) aN)))) (aC (eC (.s " = ")) (aC (eT (aC (eC (.s "term")) (aC (bL (eV 0) (eC (.i 2))) (aC (eV 1) aN)))) aN))))) sN)
   (aE (sI (eA inD (bL (eV 0) (eC (.i 0))) (eC dE)) (aE (sA (aM dP (aC (bL (eV 0) (eC (.i 2))) (aC (eV 1) aN))) (gT 2 (gU (gN 2) (gU (gN 3) qV))))
   (sR (eL (aC (aT aI (aT aI (aT aI (aT aI (aT aI (bL (eV 0) (eC (.i 0))) (eC (.s " "))) (eV 2)) (eC (.s " "))) (bL (eV 0) (eC (.i 1)))) (eC (.s ": "))) (aC (eV 3) aN))))) sN)
   (sR (eL (aC (eC (.s "(")) (aC (eT (aC (eC (.s "statement")) (aC (bL (eV 0) (eC (.i 1))) (aC (eV 1) aN)))) (aC (bL (eC iZ) (bL (eV 0) (eC (.i 0)))) (aC (eT (aC (eC (.s "statement")) (aC (bL (eV 0) (eC (.i 2))) (aC (eV 1) aN)))) (aC (eC (.s ")")) aN))))))))))
def bG:Fn:=aL 4 2 bF
def T28:Tb:=T27.d S27 bG
def nU:Sm':=aE (sA (eL (aC (aM cU (aC (eV 0) (aC (eV 1) aN))) aN)) (gN 2))
   (aE (sA (eL aN) (gN 3))
   (aE (sW (gE (eV 2)) (aE (sA (Hg "list" iM (eV 2)) (gN 4))
   (sI (gE (aM bD (aC (eV 4) (aC (eC (.ty "str")) aN)))) (sE (rX "list" eH (eV 3) (aC (eV 4) aN))) (aE (sA (bL (eC mI) (bL (eV 4) (eC (.i 0)))) (gN 5))
   (sE (rX "list" cN (eV 2) (aC (CI (AJ (pick T28.dl 5) 5 (aC (bL (eV 4) (eC (.i 1))) (aC (bL (eV 4) (eC (.i 2))) aN))) (Fy mP (eC (.i 1)))) aN)))))))
   (sR (rX "str" iH (eC (.s "")) (aC (eV 3) aN)))))
def jE:Fn:=aL 6 2 nU
def T42:Tb:=T28.d S41 jE
def kM:Sm':=sR (aM jE (aC (eC (.s "term")) (aC (eV 0) aN)))
def fX:Fn:=aL 1 1 kM
def T43:Tb:=T42.d S42 fX
def kN:Sm':=aE (sI (sM (gE (aM bD (aC (eV 1) (aC (eC (.ty "str")) aN))))) (sO) sN)
   (aE (Uy cC "text" (eV 0) (eV 1))
   (aE (Uy cC "at" (eV 0) (eC (.i 0)))
   (aE (Uy cC "names" (eV 0) (eV 2))
   (aE (Uy cC "made" (eV 0) (eL aN))
   (Uy cC "pending" (eV 0) (eL aN))))))
def fO:Fn:=aL 3 3 kN
def T44:Tb:=T43.c "Reader" S43 fO
def rK:Sm':=sE (rX "list" cN (jJ cC "pending" (eV 0)) (aC (CI (eV 1) (Fy mP (eC (.i 1)))) aN))
def cX:Fn:=aL 2 2 rK
def T45:Tb:=T44.m S44 cX
def vU:Sm':=sR (aT gZ (vK (jJ cC "text" (eV 0)) (oS (jJ cC "at" (eV 0))) (oS (aT aI (jJ cC "at" (eV 0)) (aM bZ (aC (eV 1) aN))))) (eV 1))
def cF:Fn:=aL 2 2 vU
def T46:Tb:=T45.m S45 cF
def vV:Sm':=aE (sI (sM (gE (lH cC "sees" cF (eV 0) (aC (eV 1) aN)))) (sO) sN)
   (FV cC "at" kE (eV 0) (aM bZ (aC (eV 1) aN)))
def eW:Fn:=aL 2 2 vV
def T47:Tb:=T46.m S46 eW
def kO:Sm':=sE (lH cC "skip" eW (eV 0) (aC (bL (eV 1) (eC (.i 1))) aN))
def kP:Fn:=aL 2 2 kO
def T48:Tb:=T47.d S47 kP
def vW:Sm':=aE (sA (aT nH (aM bZ (aC (jJ cC "made" (eV 0)) aN)) (eV 2)) (gN 3))
   (sA (eL (aC (aT aI (eV 1) (aM xT (aC (vK (jJ cC "made" (eV 0)) (oS (eV 3)) oN) aN))) aN)) (HF (jJ cC "made" (eV 0)) (oS (eV 3))))
def lZ:Fn:=aL 4 3 vW
def T49:Tb:=T48.m S48 lZ
def kQ:Sm':=aE (sA (eV 1) (gT 3 (gU (gN 2) (gU (gN 3) (gU (gN 4) qV)))))
   (sE (lH cC "make" lZ (eV 0) (aC (eV 3) (aC (eV 4) aN))))
def kR:Fn:=aL 5 2 kQ
def T50:Tb:=T49.d S49 kR
def iJ:Sm':=aE (sA (eV 1) (gT 3 (gU (gN 2) (gU (gN 3) (gU (gN 4) qV)))))
   (sI (gE (lH cC "sees" cF (eV 0) (aC (eV 4) aN))) (aE (sE (lH cC "skip" eW (eV 0) (aC (eV 4) aN)))
   (sE (lH cC "make" lZ (eV 0) (aC (eT aN) (aC (eC (.i 0)) aN))))) (sE (lH cC "later" cX (eV 0) (aC (eL (aC (eT (aC (eV 3) aN)) (aC (eT (aC (eC (.s "more")) (aC (eV 3) (aC (eV 4) (aC (eC (.i 1)) aN))))) aN))) aN))))
def fY:Fn:=aL 5 2 iJ
def T51:Tb:=T50.d S50 fY
def iK:Sm':=aE (sA (eV 1) (gT 4 (gU (gN 2) (gU (gN 3) (gU (gN 4) (gU (gN 5) qV))))))
   (sI (gE (lH cC "sees" cF (eV 0) (aC (eV 4) aN))) (aE (sE (lH cC "skip" eW (eV 0) (aC (eV 4) aN)))
   (sE (lH cC "make" lZ (eV 0) (aC (eT aN) (aC (eV 5) aN))))) (aE (sE (lH cC "skip" eW (eV 0) (aC (eC (.s ", ")) aN)))
   (sE (lH cC "later" cX (eV 0) (aC (eL (aC (eT (aC (eV 3) aN)) (aC (eT (aC (eC (.s "more")) (aC (eV 3) (aC (eV 4) (aC (aT aI (eV 5) (eC (.i 1))) aN))))) aN))) aN)))))
def fZ:Fn:=aL 6 2 iK
def T52:Tb:=T51.d S51 fZ
def mB:Sm':=sI (eA Oe (aM bZ (aC (bL (jJ cC "made" (eV 0)) (Fy mP (eC (.i 1)))) aN)) (eC (.i 4))) (sO) sN
def mC:Fn:=aL 2 2 mB
def T53:Tb:=T52.d S52 mC
def jR:Sm':=sE (Hg "list" iM (jJ cC "names" (eV 0)))
def jS:Fn:=aL 2 2 jR
def T54:Tb:=T53.d S53 jS
def eX:Sm':=aE (sF (HG (eC iZ)) (gT 2 (gU (gN 2) (gU (gN 3) qV))) (sI (gE (lH cC "sees" cF (eV 0) (aC (eV 3) aN))) (aE (sE (lH cC "skip" eW (eV 0) (aC (eV 3) aN)))
   (aE (sE (lH cC "later" cX (eV 0) (aC (eL (aC (eT (aC (eC (.s "statement")) aN)) (aC (eT (aC (eC (.s "text")) (aC (eC (.s ")")) aN))) (aC (eT (aC (eC (.s "make")) (aC (eT (aC (eV 2) aN)) (aC (eC (.i 2)) aN)))) aN)))) aN)))
   (FH))) sN))
   (sO)
def eY:Fn:=aL 4 2 eX
def T55:Tb:=T54.d S54 eY
def cZ:Sm':=aE (sI (gE (lH cC "sees" cF (eV 0) (aC (eC (.s " = ")) aN))) (aE (sE (lH cC "skip" eW (eV 0) (aC (eC (.s " = ")) aN)))
   (aE (sE (lH cC "later" cX (eV 0) (aC (eL (aC (eT (aC (eC (.s "term")) aN)) (aC (eT (aC (eC (.s "make")) (aC (eT (aC (eC (.s "same")) aN)) (aC (eC (.i 2)) aN)))) aN))) aN)))
   (FH))) sN)
   (aE (sA (Hg "list" iM (jJ cC "made" (eV 0))) (gN 2))
   (aE (sI (eA Of (bL (eV 2) (eC (.i 0))) (eC (.s "call"))) (sO) sN)
   (sE (rX "list" eH (jJ cC "made" (eV 0)) (aC (eT (aC (eC (.s "atom")) (aC (bL (eV 2) (eC (.i 1))) (aC (bL (eV 2) (eC (.i 2))) aN)))) aN)))))
def cD:Fn:=aL 3 2 cZ
def T56:Tb:=T55.d S55 cD
def nV:Sm':=aE (sA (jJ cC "at" (eV 0)) (gN 2))
   (aE (sW (Ru (eA Yr (jJ cC "at" (eV 0)) (aM bZ (aC (jJ cC "text" (eV 0)) aN))) (eA inD (bL (jJ cC "text" (eV 0)) (jJ cC "at" (eV 0))) (eV 1))) (FV cC "at" kE (eV 0) (eC (.i 1))))
   (sR (vK (jJ cC "text" (eV 0)) (oS (eV 2)) (oS (jJ cC "at" (eV 0))))))
def mV:Fn:=aL 3 2 nV
def T57:Tb:=T56.m S56 mV
def mD:Sm':=sR (lH cC "run_of" mV (eV 0) (aC (eC (.s "abcdefghijklmnopqrstuvwxyzABCDEFGHIJKLMNOPQRSTUVWXYZ")) aN))
def gV:Fn:=aL 1 1 mD
def T58:Tb:=T57.m S57 gV
def dH:Sm':=sR (Co (aM bD (aC (eV 0) (aC (eC (.ty "str")) aN))) (Co (aT Oe (aM bZ (aC (eV 0) aN)) (eC (.i 0))) (aT HC (aM bZ (aC (eV 0) aN)) (eC (.i 8)))))
def cQ:Fn:=aL 1 1 dH
def T59:Tb:=T58.d S58 cQ
def kS:Sm':=sR (aM Ga (aC (wQ [] (iS (eV 0)) bd1 (fun _=>ret true) (aT inD (eV 0) (eC (.s "abcdefghijklmnopqrstuvwxyz")))) aN))
def gA:Fn:=aL 1 1 kS
def T60:Tb:=T59.d S59 gA
def eZ:Sm':=sR (Co (aM cQ (aC (eV 0) aN)) (Co (aT inD (bL (eV 0) (eC (.i 0))) (eC (.s "ABCDEFGHIJKLMNOPQRSTUVWXYZ"))) (aM gA (aC (vK (eV 0) (oS (eC (.i 1))) oN) aN))))
def cM:Fn:=aL 1 1 eZ
def T61:Tb:=T60.d S60 cM
def nX:Sm':=sR (Co (aM cQ (aC (eV 0) aN)) (Co (aM gA (aC (eV 0) aN)) (aT iL (eV 0) (eC gK))))
def jF:Fn:=aL 1 1 nX
def T62:Tb:=T61.d S61 jF
def lK:Sm':=aE (sF (JC (aC (eV 0) aN)) (gT 2 (gU (gN 2) (gU (gN 3) qV))) (sI (eA gZ (eV 3) (eV 1)) (sR (eT (aC (eC (.s "bound")) (aC (eV 2) aN)))) sN))
   (sR (eT (aC (eC (.s "free")) (aC (eV 1) aN))))
def gW:Fn:=aL 4 2 lK
def T63:Tb:=T62.d S62 gW
def cR:Sm':=aE (sA (Ss cC "letters" gV (eV 0)) (gN 2))
   (aE (sI (Ru (sM (gE (aM cM (aC (eV 2) aN)))) (sM (gE (aM jF (aC (eV 2) aN))))) (sO) sN)
   (aE (sA (eT (aC (Og (gE (aM cM (aC (eV 2) aN))) (eC (.s "form")) (eC (.s "call"))) (aC (eV 2) aN))) (gN 3))
   (sI (gE (lH cC "sees" cF (eV 0) (aC (eC (.s "(")) aN))) (aE (sE (lH cC "skip" eW (eV 0) (aC (eC (.s "(")) aN)))
   (aE (sA (Og (eA gZ (bL (eV 3) (eC (.i 0))) (eC (.s "call"))) (eL (aC (eT (aC (eC (.s "list")) (aC (eC (.s "term")) (aC (eC (.s ")")) aN)))) aN)) (eL (aC (eT (aC (eC (.s "term")) aN)) (aC (eT (aC (eC (.s "more")) (aC (eC (.s "term")) (aC (eC (.s ")")) (aC (eC (.i 1)) aN))))) aN)))) (gN 4))
   (sE (lH cC "later" cX (eV 0) (aC (aT aI (eV 4) (eL (aC (eT (aC (eC (.s "few")) aN)) (aC (eT (aC (eC (.s "make")) (aC (eV 3) (aC (eC (.i 1)) aN)))) aN)))) aN))))) (sE (rX "list" eH (jJ cC "made" (eV 0)) (aC (Og (eA gZ (bL (eV 3) (eC (.i 0))) (eC (.s "form"))) (aT aI (eV 3) (eT (aC (eT aN) aN))) (aM gW (aC (jJ cC "names" (eV 0)) (aC (eV 2) aN)))) aN))))))
def cS:Fn:=aL 5 2 cR
def T64:Tb:=T63.d S63 cS
def jT:Sm':=aE (sA (Ss cC "letters" gV (eV 0)) (gN 1))
   (aE (sI (sM (gE (aM jF (aC (eV 1) aN)))) (sO) sN)
   (sR (eV 1)))
def gB:Fn:=aL 2 1 jT
def T65:Tb:=T64.m S64 gB
def dW:Sm':=aE (sE (lH cC "skip" eW (eV 0) (aC (eC (.s ": ")) aN)))
   (aE (sE (rX "list" eH (jJ cC "names" (eV 0)) (aC (eV 1) aN)))
   (sE (lH cC "later" cX (eV 0) (aC (aT aI (eL (aC (eT (aC (eC (.s "statement")) aN)) (aC (eT (aC (eC (.s "leave")) aN)) aN))) (Og (eA HD (eV 2) (eC .no)) (eL aN) (eL (aC (eT (aC (eC (.s "make")) (aC (eV 2) (aC (eC (.i 1)) aN)))) aN)))) aN))))
def dD:Fn:=aL 3 3 dW
def T66:Tb:=T65.d S65 dD
def bI:Sm':=aE (sI (gE (lH cC "sees" cF (eV 0) (aC (eC (.s "(")) aN))) (aE (sE (lH cC "skip" eW (eV 0) (aC (eC (.s "(")) aN)))
   (aE (sE (lH cC "later" cX (eV 0) (aC (eL (aC (eT (aC (eC (.s "statement")) aN)) (aC (eT (aC (eC (.s "joint")) aN)) aN))) aN)))
   (FH))) sN)
   (aE (sA (jJ cC "at" (eV 0)) (gN 2))
   (aE (sA (Ss cC "letters" gV (eV 0)) (gN 3))
   (sI (eA gZ (eV 3) (eC (.s "false"))) (sE (rX "list" eH (jJ cC "made" (eV 0)) (aC (eT (aC (eC (.s "false")) aN)) aN))) (sI (eA inD (eV 3) (eC dE)) (aE (sE (lH cC "skip" eW (eV 0) (aC (eC (.s " ")) aN)))
   (aE (sA (Ss cC "next_name" gB (eV 0)) (gN 4))
   (aE (sE (lH cC "skip" eW (eV 0) (aC (eC (.s " ")) aN)))
   (sE (aM dD (aC (eV 0) (aC (eV 4) (aC (eT (aC (eV 3) (aC (Ss cC "next_name" gB (eV 0)) aN))) aN)))))))) (aE (Uy cC "at" (eV 0) (eV 2))
   (sE (lH cC "later" cX (eV 0) (aC (eL (aC (eT (aC (eC (.s "term")) aN)) (aC (eT (aC (eC (.s "same or atom")) aN)) aN))) aN))))))))
def bJ:Fn:=aL 5 2 bI
def T67:Tb:=T66.d S66 bJ
def Ba:Sm':=sI (eA Of (jJ cC "at" (eV 0)) (aM bZ (aC (jJ cC "text" (eV 0)) aN))) (sO) sN
def yM:Fn:=aL 1 1 Ba
def T86:Tb:=T67.m S85 yM
def nY:Sm':=aE (sA (HH cC fO (aC (eV 1) (aC (aM kH (aC (eV 2) aN)) aN))) (gN 3))
   (aE (sE (lH cC "later" cX (eV 3) (aC (eL (aC (eT (aC (eV 0) aN)) aN)) aN)))
   (aE (sW (gE (jJ cC "pending" (eV 3))) (aE (sA (Hg "list" iM (jJ cC "pending" (eV 3))) (gN 4))
   (aE (sA (bL (eC pE) (bL (eV 4) (eC (.i 0)))) (gN 5))
   (sE (AJ (pick T86.dl 5) 5 (aC (eV 3) (aC (eV 4) aN)))))))
   (aE (sE (Ss cC "end" yM (eV 3)))
   (sR (bL (jJ cC "made" (eV 3)) (eC (.i 0)))))))
def jG:Fn:=aL 6 3 nY
def T87:Tb:=T86.d S86 jG
def kT:Sm':=sR (aM jG (aC (eC (.s "term")) (aC (eV 0) (aC (eL aN) aN))))
def dQ:Fn:=aL 1 1 kT
def T88:Tb:=T87.d S87 dQ
def aK(self:Fn):Sm':=aE (sA (aM aB (aC (eV 0) (aC (aT aI (eC (.i 3)) (aT qO (eC (.i 5)) (aM lT (aC (aT Oe (eV 1) (eC (.i 0))) aN)))) aN))) (gN 3))
   (aE (sI (eA gZ (eV 3) (eC (.i 0))) (sR (eT (aC (eT (aC (eC (.s "false")) aN)) (aC (eC (.s "false")) aN)))) sN)
   (aE (sI (eA inD (eV 3) (eT (aC (eC (.i 1)) (aC (eC (.i 7)) aN)))) (aE (sA (aM bU (aC (eV 0) (aC (eC (.i 2)) (aC (eV 2) aN)))) (gT 2 (gU (gN 4) (gU (gN 5) qV))))
   (aE (sA (aM bU (aC (eV 0) (aC (eC (.i 2)) (aC (eV 2) aN)))) (gT 2 (gU (gN 6) (gU (gN 7) qV))))
   (sR (eT (aC (eT (aC (eC (.s "same")) (aC (eV 4) (aC (eV 6) aN)))) (aC (aT aI (aT aI (eV 5) (eC (.s " = "))) (eV 7)) aN)))))) sN)
   (aE (sI (eA gZ (eV 3) (eC (.i 2))) (aE (sA (aM bW (aC (eV 0) aN)) (gN 8))
   (aE (sA (aM eE (aC (eV 0) (aC (eC (.i 2)) (aC (eV 2) (aC (aM aB (aC (eV 0) (aC (eC (.i 5)) aN))) aN))))) (gT 2 (gU (gN 9) (gU (gN 10) qV))))
   (sR (eT (aC (eT (aC (eC (.s "atom")) (aC (eV 8) (aC (eV 9) aN)))) (aC (aT aI (aT aI (aT aI (eV 8) (eC (.s "("))) (eV 10)) (eC (.s ")"))) aN)))))) sN)
   (aE (sI (eA Yr (eV 3) (eC (.i 5))) (aE (sA (aM aB (aC (eV 0) (aC (eC (.i 3)) aN))) (gN 11))
   (aE (sA (aM self (aC (eV 0) (aC (aT nH (eV 1) (eC (.i 1))) (aC (eV 2) aN)))) (gT 2 (gU (gN 4) (gU (gN 5) qV))))
   (aE (sA (aM self (aC (eV 0) (aC (aT nH (eV 1) (eC (.i 1))) (aC (eV 2) aN)))) (gT 2 (gU (gN 6) (gU (gN 7) qV))))
   (sR (eT (aC (eT (aC (bL (eL (aC (eC (.s "and")) (aC (eC (.s "or")) (aC (eC (.s "if")) aN)))) (eV 11)) (aC (eV 4) (aC (eV 6) aN)))) (aC (aT aI (aT aI (aT aI (aT aI (eC (.s "(")) (eV 5)) (bL (eL (aC (eC (.s " and ")) (aC (eC (.s " or ")) (aC (eC (.s " -> ")) aN)))) (eV 11))) (eV 7)) (eC (.s ")"))) aN))))))) sN)
   (aE (sA (bL (eL (aC (eC (.s "all")) (aC (eC (.s "some")) aN))) (aM aB (aC (eV 0) (aC (eC (.i 2)) aN)))) (gN 12))
   (aE (sA (aM bW (aC (eV 0) aN)) (gN 8))
   (aE (sA (aM bW (aC (eV 0) aN)) (gN 13))
   (aE (sA (aM self (aC (eV 0) (aC (aT nH (eV 1) (eC (.i 1))) (aC (aT aI (eV 2) (eL (aC (eV 8) aN))) aN)))) (gT 2 (gU (gN 14) (gU (gN 10) qV))))
   (sR (eT (aC (eT (aC (eV 12) (aC (eV 13) (aC (eV 14) aN)))) (aC (aT aI (aT aI (aT aI (aT aI (aT aI (aT aI (eV 12) (eC (.s " "))) (eV 8)) (eC (.s " "))) (eV 13)) (eC (.s ": "))) (eV 10)) aN))))))))))))
def bQ:Nat→Fn
 |0=>fun _=>bad
 |n+1=>aL 15 3 (aK (bQ n))
def T89:Tb:=T88.r S88 5 (bQ 5)
def jU:Sm':=aE (sA (eC (.s "abcdefghijklmnopqrstuvwxyz")) (gN 1))
   (aE (sA (aT aI (eL (aC (eC (.s "")) aN)) (aM kH (aC (eV 1) aN))) (gN 2))
   (aE (sF (iS (eV 1)) (gN 3) (sA (aT aI (eV 2) (wQ [3] (iS (eV 1)) bd1 (fun _=>ret true) (aT aI (eV 1) (eV 0)))) (gN 2)))
   (aE (sA (eL aN) (gN 4))
   (aE (sF (iS (eV 2)) (gN 5) (sA (aT aI (eV 4) (wQ [5] (iS (eC (.s "xyz"))) bd1 (fun _=>ret true) (aT aI (eV 0) (eV 1)))) (gN 4)))
   (sR (bL (wQ [0] (iS (eV 4)) bd1 (eA iL (eV 0) (eV 1)) (eV 0)) (eC (.i 0))))))))
def gP:Fn:=aL 6 1 jU
def T90:Tb:=T89.d S89 gP
def cI(self:Fn):Sm':=aE (sI (eA gZ (bL (eV 0) (eC (.i 0))) (eC (.s "false"))) (sR (eC (.s "false"))) sN)
   (aE (sI (eA gZ (bL (eV 0) (eC (.i 0))) (eC (.s "same"))) (sR (aT aI (aT aI (aM (aH 6) (aC (bL (eV 0) (eC (.i 1))) (aC (eV 1) aN))) (eC (.s " = "))) (aM (aH 6) (aC (bL (eV 0) (eC (.i 2))) (aC (eV 1) aN))))) sN)
   (aE (sI (eA gZ (bL (eV 0) (eC (.i 0))) (eC (.s "atom"))) (sR (aT aI (aT aI (aT aI (bL (eV 0) (eC (.i 1))) (eC (.s "("))) (rX "str" iH (eC (.s ", ")) (aC (wQ [1] (iS (bL (eV 0) (eC (.i 2)))) bd1 (fun _=>ret true) (aM (aH 6) (aC (eV 0) (aC (eV 1) aN)))) aN))) (eC (.s ")")))) sN)
   (aE (sI (eA inD (bL (eV 0) (eC (.i 0))) (eT (aC (eC (.s "and")) (aC (eC (.s "or")) (aC (eC (.s "if")) aN))))) (aE (sA (bL (Rw [(eC (.s "and"),eC (.s " and ")),(eC (.s "or"),eC (.s " or ")),(eC (.s "if"),eC (.s " -> "))]) (bL (eV 0) (eC (.i 0)))) (gN 3))
   (sR (aT aI (aT aI (aT aI (aT aI (eC (.s "(")) (aM self (aC (bL (eV 0) (eC (.i 1))) (aC (eV 1) (aC (eV 2) aN))))) (eV 3)) (aM self (aC (bL (eV 0) (eC (.i 2))) (aC (eV 1) (aC (eV 2) aN))))) (eC (.s ")"))))) sN)
   (aE (sA (aM gP (aC (aT aI (eV 1) (eV 2)) aN)) (gN 4))
   (sR (aT aI (aT aI (aT aI (aT aI (aT aI (aT aI (bL (eV 0) (eC (.i 0))) (eC (.s " "))) (eV 4)) (eC (.s " "))) (bL (eV 0) (eC (.i 1)))) (eC (.s ": "))) (aM self (aC (bL (eV 0) (eC (.i 2))) (aC (aT aI (eL (aC (eV 4) aN)) (eV 1)) (aC (eV 2) aN))))))))))
def bX:Nat→Fn
 |0=>fun _=>bad
 |n+1=>aL 5 3 (cI (bX n))
def T91:Tb:=T90.r S90 6 (bX 6)
def dF(self:Fn):Sm':=aE (sI (eA gZ (bL (eV 0) (eC (.i 0))) (eC (.s "free"))) (sR (eL (aC (bL (eV 0) (eC (.i 1))) aN))) sN)
   (aE (sI (eA inD (bL (eV 0) (eC (.i 0))) (eT (aC (eC (.s "bound")) (aC (eC (.s "false")) aN)))) (sR (eL aN)) sN)
   (aE (sA (eL aN) (gN 1))
   (aE (sF (iS (bL (IW (Rw [(eC (.s "form"),vK (eV 0) (oS (eC (.i 2))) oN),(eC (.s "call"),vK (eV 0) (oS (eC (.i 2))) oN),(eC (.s "atom"),vK (eV 0) (oS (eC (.i 2))) oN)]) (bL (eV 0) (eC (.i 0))) (eT (aC (vK (eV 0) (oS (eC (.i 1))) oN) aN))) (eC (.i 0)))) (gN 2) (sI (gE (aM bD (aC (eV 2) (aC (eC (.ty "tuple")) aN)))) (sA (aT aI (eV 1) (aM self (aC (eV 2) aN))) (gN 1)) sN))
   (sR (eV 1)))))
def bA:Nat→Fn
 |0=>fun _=>bad
 |n+1=>aL 3 1 (dF (bA n))
def T92:Tb:=T91.r S91 11 (bA 11)
def fP:Sm':=sR (aM jE (aC (eC (.s "statement")) (aC (eV 0) aN)))
def bR:Fn:=aL 1 1 fP
def T93:Tb:=T92.d S92 bR
def fQ:Sm':=sR (aM jG (aC (eC (.s "statement")) (aC (eV 0) (aC (eL aN) aN))))
def bB:Fn:=aL 1 1 fQ
def T94:Tb:=T93.d S93 bB
def Mh:Sm':=aE (sA (aM eU (aC (eV 0) aN)) (gN 1))
   (aE (sF (Rv (aC (aT aI (eC (.i 1)) (aM aB (aC (eV 1) (aC (eC (.i 3)) aN)))) aN)) (gN 2) (aE (sA (aM bU (aC (eV 1) (aC (eC (.i 4)) (aC (eL aN) aN)))) (gT 2 (gU (gN 3) (gU (gN 4) qV))))
   (aE (sA (aM (aH 6) (aC (eV 3) (aC (eL aN) aN))) (gN 5))
   (sI (Cn (sM (gE (aM (aJ 20) (aC (aM fX (aC (eV 3) aN)) (aC (eV 5) aN))))) (Cn (sM (gE (aM (aJ 20) (aC (aM dQ (aC (eV 5) aN)) (aC (eV 3) aN))))) (sM (gE (aM (aJ 20) (aC (aM dQ (aC (eV 4) aN)) (aC (eV 3) aN))))))) (sR (eC (.b false))) sN))))
   (aE (sF (Rv (aC (aT aI (eC (.i 1)) (aM aB (aC (eV 1) (aC (eC (.i 3)) aN)))) aN)) (gN 2) (aE (sA (aM (bQ 5) (aC (eV 1) (aC (eC (.i 4)) (aC (eL aN) aN)))) (gT 2 (gU (gN 6) (gU (gN 4) qV))))
   (aE (sA (aM (bX 6) (aC (eV 6) (aC (eL aN) (aC (aM (bA 11) (aC (eV 6) aN)) aN)))) (gN 5))
   (aE (sI (Cn (sM (gE (aM (aJ 20) (aC (aM bR (aC (eV 6) aN)) (aC (eV 5) aN))))) (sM (gE (aM (aJ 20) (aC (aM bB (aC (eV 5) aN)) (aC (eV 6) aN)))))) (sR (eC (.b false))) sN)
   (sI (Cn (sM (gE (aM (aJ 20) (aC (aM bB (aC (eV 4) aN)) (aC (eV 6) aN))))) (sM (gE (aM (aJ 20) (aC (aM bR (aC (aM bB (aC (eV 4) aN)) aN)) (aC (eV 5) aN)))))) (sR (eC (.b false))) sN)))))
   (sR (eC (.b true)))))
def Dh:Fn:=aL 7 1 Mh
end K86
namespace K86
variable {α:Type}
open PySem PySem.W L2 PyProof.Rows
theorem c0(w:World)(os:OsState)(b:Bool):(rZ rw_.row.prog (wz w b) os 12000).map (fun s=>lk0 vw s)=some (expectedOf vw):=by
 unfold rZ;rw[Fast.te12425933026755589441,Z20];cases b
 ·exact Hh w os
 ·exact Oh w os
theorem c1(w:World)(os:OsState)(b:Bool):(rZ rw_.row.prog (wz w b) os 12000).map (fun s=>((absF s).heap.bltView,lk3 rw_.row.prog s,lk4 vw xt s,pinSeenD vw (drecsOf vw) (absF s),plainSeenD vw loose (absF s),clsSeenW vw loose (absF s),lk9 rw_.row.prog (wz w b).params s))=some ((bltViewBooted,true,true,pinGoodD (drecsOf vw),plainGoodD vw loose,clsGoodW vw loose,true)):=by
 unfold rZ;rw[Fast.te12425933026755589441,Z20];cases b
 ·exact Hi w os
 ·exact Oi w os
theorem c2(w:World)(os:OsState)(b:Bool):(rZ rw_.row.prog (wz w b) os 12000).map (fun s=>lk2 vw loose s)=some (true):=by
 unfold rZ;rw[Fast.te12425933026755589441,Z20];cases b
 ·exact Hj w os
 ·exact Oj w os
theorem c3(w:World)(os:OsState)(b:Bool):(rZ rw_.row.prog (wz w b) os 12000).map (fun s=>tabsOk vw (absF s))=some (true):=by
 unfold rZ;rw[Fast.te12425933026755589441,Z20];cases b
 ·exact wU w os
 ·exact Bp w os
theorem c4(w:World)(os:OsState)(b:Bool):(rZ rw_.row.prog (wz w b) os 12000).map (fun s=>plainSeenE vw (looseW vw loose) (absF s))=some (plainGoodE vw (looseW vw loose)):=by
 unfold rZ;rw[Fast.te12425933026755589441,Z20];cases b
 ·exact Hk w os
 ·exact Ol w os
theorem c5(w:World)(os:OsState)(b:Bool):(rZ rw_.row.prog (wz w b) os 12000).map (fun s=>wideSeen vw (absF s))=some (wideGood vw):=by
 unfold rZ;rw[Fast.te12425933026755589441,Z20];cases b
 ·exact Hl w os
 ·exact Om w os
theorem cY(w:World)(os:OsState)(b:Bool):(rZ rw_.row.prog (wz w b) os 12000).map (fun s=>yf (fragT s.tree s.n []))=some (yv (wz w b)):=by
 unfold rZ;rw[Fast.te12425933026755589441,Z20];cases b
 ·exact Hm w os
 ·exact Oo w os
theorem left:LeftO rw_.row.prog vw loose xt (fun s=>yf (fragOf s.heap)) yv 12000:=Az "special-get-raises" (by kernel_rfl) (by kernel_rfl) (fun _=>rfl) c0 c1 c2 c3 c4 c5 cY
theorem at_{l:List α}{x:α}(i:Nat)(h:l[i]?=some x:=by rfl):x∈l:=U27 h
structure Dk (T:Tb) (s:DSp) (b:Sm'):Prop where
 m:(s.x,s.i)∈fns
 bd:lY (top s.i) s.x s.x s.ps
 c:chk cns blt cC fds T (top s.i) s=some b
structure Rk (T:Tb) (s:DSp) (b:Fn→Sm'):Prop where
 m:(s.x,s.i)∈fns
 bd:lY (top s.i) s.x s.x s.ps
 sc:Tf s.N s.ps (defScope (top s.i))=true
 c:∀(self:Fn) (j:Nat),oU ⟨(s.x,self)::pick T.dl s.k,cns,blt,⟨cC,fds,pick T.ml s.k,pickK T.kl s.k⟩⟩ ⟨s.N,(defScope (top s.i)).names,j⟩ (defBody (top s.i))=some (b self)
structure Mt (T:Tb) (s:DSp) (b:Sm'):Prop where
 m:(s.x,("Reader.":Str)++s.x,s.i)∈mths
 bd:lY (inCls (top 22) s.i) s.x (("Reader.":Str)++s.x) s.ps
 c:chk cns blt cC fds T (inCls (top 22) s.i) s=some b
theorem dk0:Dk T0 S0 jQ:=⟨at_ 0,bo1 (by intros;rfl),by kernel_rfl⟩
theorem dk1:Dk T1 S1 fV:=⟨at_ 1,bo2 (by intros;rfl),by kernel_rfl⟩
theorem dk2:Dk T2 S2 gM:=⟨at_ 2,bo2 (by intros;rfl),by kernel_rfl⟩
theorem dk3:Dk T3 S3 fW:=⟨at_ 3,bo1 (by intros;rfl),by kernel_rfl⟩
theorem dk4:Dk T4 S4 fM:=⟨at_ 4,bo1 (by intros;rfl),by kernel_rfl⟩
theorem dk6:Dk T6 S6 (aU (fun _=>bad)):=⟨at_ 6,bo4 (by intros;rfl),by kernel_rfl⟩
theorem dk7:Dk T7 S7 (aO iQ):=⟨at_ 5,bo3 (by intros;rfl),by kernel_rfl⟩
theorem dk8:Dk T8 S8 (aU iR):=⟨at_ 6,bo4 (by intros;rfl),by kernel_rfl⟩
theorem dk9:Dk T9 S9 (aO iT):=⟨at_ 5,bo3 (by intros;rfl),by kernel_rfl⟩
theorem dk10:Dk T10 S10 (aU iU):=⟨at_ 6,bo4 (by intros;rfl),by kernel_rfl⟩
theorem dk11:Dk T11 S11 (aO iV):=⟨at_ 5,bo3 (by intros;rfl),by kernel_rfl⟩
theorem dk12:Dk T12 S12 (aU iW):=⟨at_ 6,bo4 (by intros;rfl),by kernel_rfl⟩
theorem dk13:Dk T13 S13 (aO iX):=⟨at_ 5,bo3 (by intros;rfl),by kernel_rfl⟩
theorem dk14:Dk T14 S14 (aU fU):=⟨at_ 6,bo4 (by intros;rfl),by kernel_rfl⟩
theorem dk15:Dk T15 S15 (aO eE):=⟨at_ 5,bo3 (by intros;rfl),by kernel_rfl⟩
theorem dk16:Rk T16 S16 bH:=⟨at_ 7,bo2 (by intros;rfl),by kernel_rfl,fun _ _=>by kernel_rfl⟩
theorem dk17:Rk T17 S17 eO:=⟨at_ 8,bo2 (by intros;rfl),by kernel_rfl,fun _ _=>by kernel_rfl⟩
theorem dk18:Dk T18 S18 fN:=⟨at_ 9,bo1 (by intros;rfl),by kernel_rfl⟩
theorem dk19:Dk T19 S19 nR:=⟨at_ 10,bo1 (by intros;rfl),by kernel_rfl⟩
theorem dk20:Dk T20 S20 gO:=⟨at_ 11,bo2 (by intros;rfl),by kernel_rfl⟩
theorem dk21:Dk T21 S21 rJ:=⟨at_ 12,bo1 (by intros;rfl),by kernel_rfl⟩
theorem dk22:Dk T22 S22 kJ:=⟨at_ 13,bo2 (by intros;rfl),by kernel_rfl⟩
theorem dk23:Dk T23 S23 cW:=⟨at_ 14,bo2 (by intros;rfl),by kernel_rfl⟩
theorem dk24:Dk T24 S24 kK:=⟨at_ 15,bo1 (by intros;rfl),by kernel_rfl⟩
theorem dk25:Dk T25 S25 kL:=⟨at_ 16,bo1 (by intros;rfl),by kernel_rfl⟩
theorem dk26:Dk T26 S26 iA:=⟨at_ 17,bo2 (by intros;rfl),by kernel_rfl⟩
theorem dk27:Dk T27 S27 bF:=⟨at_ 18,bo2 (by intros;rfl),by kernel_rfl⟩
theorem dk41:Dk T28 S41 nU:=⟨at_ 19,bo2 (by intros;rfl),by kernel_rfl⟩
theorem dk42:Dk T42 S42 kM:=⟨at_ 20,bo1 (by intros;rfl),by kernel_rfl⟩
theorem dk43:Mt T43 S43 kN:=⟨at_ 0,bo3 (by intros;rfl),by kernel_rfl⟩
theorem dk44:Mt T44 S44 rK:=⟨at_ 1,bo2 (by intros;rfl),by kernel_rfl⟩
theorem dk45:Mt T45 S45 vU:=⟨at_ 2,bo2 (by intros;rfl),by kernel_rfl⟩
theorem dk46:Mt T46 S46 vV:=⟨at_ 3,bo2 (by intros;rfl),by kernel_rfl⟩
theorem dk47:Dk T47 S47 kO:=⟨at_ 21,bo2 (by intros;rfl),by kernel_rfl⟩
theorem dk48:Mt T48 S48 vW:=⟨at_ 4,bo3 (by intros;rfl),by kernel_rfl⟩
theorem dk49:Dk T49 S49 kQ:=⟨at_ 22,bo2 (by intros;rfl),by kernel_rfl⟩
theorem dk50:Dk T50 S50 iJ:=⟨at_ 23,bo2 (by intros;rfl),by kernel_rfl⟩
theorem dk51:Dk T51 S51 iK:=⟨at_ 24,bo2 (by intros;rfl),by kernel_rfl⟩
theorem dk52:Dk T52 S52 mB:=⟨at_ 25,bo2 (by intros;rfl),by kernel_rfl⟩
theorem dk53:Dk T53 S53 jR:=⟨at_ 26,bo2 (by intros;rfl),by kernel_rfl⟩
theorem dk54:Dk T54 S54 eX:=⟨at_ 27,bo2 (by intros;rfl),by kernel_rfl⟩
theorem dk55:Dk T55 S55 cZ:=⟨at_ 28,bo2 (by intros;rfl),by kernel_rfl⟩
theorem dk56:Mt T56 S56 nV:=⟨at_ 5,bo2 (by intros;rfl),by kernel_rfl⟩
theorem dk57:Mt T57 S57 mD:=⟨at_ 6,bo1 (by intros;rfl),by kernel_rfl⟩
theorem dk58:Dk T58 S58 dH:=⟨at_ 29,bo1 (by intros;rfl),by kernel_rfl⟩
theorem dk59:Dk T59 S59 kS:=⟨at_ 30,bo1 (by intros;rfl),by kernel_rfl⟩
theorem dk60:Dk T60 S60 eZ:=⟨at_ 31,bo1 (by intros;rfl),by kernel_rfl⟩
theorem dk61:Dk T61 S61 nX:=⟨at_ 32,bo1 (by intros;rfl),by kernel_rfl⟩
theorem dk62:Dk T62 S62 lK:=⟨at_ 33,bo2 (by intros;rfl),by kernel_rfl⟩
theorem dk63:Dk T63 S63 cR:=⟨at_ 34,bo2 (by intros;rfl),by kernel_rfl⟩
theorem dk64:Mt T64 S64 jT:=⟨at_ 7,bo1 (by intros;rfl),by kernel_rfl⟩
theorem dk65:Dk T65 S65 dW:=⟨at_ 35,bo3 (by intros;rfl),by kernel_rfl⟩
theorem dk66:Dk T66 S66 bI:=⟨at_ 36,bo2 (by intros;rfl),by kernel_rfl⟩
theorem dk85:Mt T67 S85 Ba:=⟨at_ 8,bo1 (by intros;rfl),by kernel_rfl⟩
theorem dk86:Dk T86 S86 nY:=⟨at_ 37,bo3 (by intros;rfl),by kernel_rfl⟩
theorem dk87:Dk T87 S87 kT:=⟨at_ 38,bo1 (by intros;rfl),by kernel_rfl⟩
theorem dk88:Rk T88 S88 aK:=⟨at_ 39,bo3 (by intros;rfl),by kernel_rfl,fun _ _=>by kernel_rfl⟩
theorem dk89:Dk T89 S89 jU:=⟨at_ 40,bo1 (by intros;rfl),by kernel_rfl⟩
theorem dk90:Rk T90 S90 cI:=⟨at_ 41,bo3 (by intros;rfl),by kernel_rfl,fun _ _=>by kernel_rfl⟩
theorem dk91:Rk T91 S91 dF:=⟨at_ 42,bo1 (by intros;rfl),by kernel_rfl,fun _ _=>by kernel_rfl⟩
theorem dk92:Dk T92 S92 fP:=⟨at_ 43,bo1 (by intros;rfl),by kernel_rfl⟩
theorem dk93:Dk T93 S93 fQ:=⟨at_ 44,bo1 (by intros;rfl),by kernel_rfl⟩
theorem dk94:Dk T94 S94 Mh:=⟨at_ 45,bo1 (by intros;rfl),by kernel_rfl⟩
theorem vX{β:Type}{l:List α}{f g:α→β}(h:l.map f=l.map g){x:α}(m:x∈l):f x=g x:=List.map_inj_left.mp h x m
section
variable{w:World}{K:Frag}{hp:Heap}{mg:Str→Option Value}{P:Program}
theorem fnd(h:yf K=yv w)(x:Str)(i:Nat)(m:(x,i)∈fns):Fnd K x (top i):=BD (vX (l:=fns) (f:=fun p=>fnAt K p.1) (g:=fun p=>fnWant p.1 (top p.2)) (congrArg Prod.fst h) m)
theorem mth(h:yf K=yv w)(x qual:Str)(j:Nat)(m:(x,qual,j)∈mths):mthAt K cC x=mthWant x qual (inCls (top 22) j):=vX (l:=mths) (f:=fun p=>mthAt K cC p.1) (g:=fun p=>mthWant p.1 p.2.1 (inCls (top 22) p.2.2)) (congrArg (fun y=>y.2.2.2.2.1) h) m
theorem csok(X:K.In hp)(G:hp.Ns mainGlobals mg)(h:yf K=yv w):CsOk cns blt cC fds P w K mg where
 cons:=fun x d e=>BF X G (vX (l:=cns) (f:=fun p=>cAt K p.1) (g:=fun p=>cWant w p.2) (congrArg (fun y=>y.2.1) h) (U20 e))
 blt:=fun x e=>mg_none_of X G (vX (l:=blt) (f:=fun x=>nsIn K mainGlobals x) (g:=fun _=>some none) (congrArg (fun y=>y.2.2.1) h) (by simpa using e))
 cls:=fun _=>(Me (congrArg (fun y=>y.2.2.2.1) h)).1
 fs:=(Me (congrArg (fun y=>y.2.2.2.1) h)).2
variable{base:Heap}{T:Tb}{s:DSp}{b:Sm'}
theorem cJ(c:CsOk cns blt cC fds P w K mg)(X:K.In hp)(G:hp.Ns mainGlobals mg)(Y:yf K=yv w)(h:Dk T s b)(t:TbOk T cC P w K mg base):TbOk (T.d s (aL s.N.length s.ps.length b)) cC P w K mg base:=by
 obtain⟨h1,h2⟩:=aG h.c;obtain⟨_,_,d⟩:=Fnd.def X G (fnd Y s.x s.i h.m) h.bd;exact t.next c s.N s.k d h1 h2 rfl
theorem Mi{b:Fn→Sm'}{g:Nat→Fn}{fu:Nat}(c:CsOk cns blt cC fds P w K mg)(X:K.In hp)(G:hp.Ns mainGlobals mg)(Y:yf K=yv w)(h:Rk T s b)(h0:g 0=fun _=>bad)(h1:∀n,g (n+1)=aL s.N.length s.ps.length (b (g n)))(t:TbOk T cC P w K mg base):TbOk (T.r s fu (g fu)) cC P w K mg base:=by
 obtain⟨_,_,d⟩:=Fnd.def X G (fnd Y s.x s.i h.m) h.bd;exact t.nextR c s.N s.k fu d h.sc h.c h0 h1
theorem yN(hC:Cls K cC)(c:CsOk cns blt cC fds P w K mg)(Y:yf K=yv w)(h:Mt T s b)(t:TbOk T cC P w K mg base):TbOk (T.m s (aL s.N.length s.ps.length b)) cC P w K mg base:=by
 obtain⟨h1,h2⟩:=aG h.c;obtain⟨_,_,d⟩:=Mf (mth Y s.x _ s.i h.m) h.bd;exact t.meth hC c s.N s.k d h1 h2 rfl
theorem JO(c:CsOk cns blt cC fds P w K mg)(X:K.In hp)(G:hp.Ns mainGlobals mg)(Y:yf K=yv w)(h:Mt T S43 b)(t:TbOk T cC P w K mg base):TbOk (T.c "Reader" S43 (aL S43.N.length S43.ps.length b)) cC P w K mg base:=by
 obtain⟨h1,h2⟩:=aG h.c;obtain⟨_,_,d⟩:=Mf (mth Y S43.x _ S43.i h.m) h.bd;obtain⟨k,y⟩:=FZ X G (congrArg (fun y=>y.2.2.2.2.2) Y) d.m;exact t.make c S43.N S43.k d.F d.b k y h1 h2 rfl
theorem law_fn{fa:Addr}(Y:yf K=yv w)(X:K.In hp)(G:hp.Ns mainGlobals mg)(hfa:mg (recOf (top 104)).name=some (.ref fa)):
  ∃fd:FuncData,(∀(s:Shared) (v:Value),BindsTo s fd ⟨[v],[]⟩ [("_law_script",v)])∧∀base:Heap,K.In base→base.Ns mainGlobals mg→FnOk P w K mg base CX0 21 fa fd ["_law_script"] (LF ⟨K,P,w⟩ Dh):=by
 obtain⟨f,od,an,sl,oc,kV,dc,pm,cd,ct,a0,l0,c0,k0⟩:=(fnd Y "law" 104 dk94.m).ex;have e:=hfa.symm.trans (mg_of X G a0);cases e;have F:=zO (st:=top 104) l0 c0 k0;refine⟨fnOf "law" "law" (defArgs (top 104)) (defBody (top 104)) (defScope (top 104)) .none kV dc pm an cd ct,fun s v=>.of_eq rfl,fun base _ _=>?_⟩;have c:CsOk cns blt cC fds P w K mg:=csok X G Y;have hC:Cls K cC:=c.cls rfl;have t:TbOk T0 cC P w K mg base:=TbOk.nil;have t:=cJ c X G Y dk0 t;have t:=cJ c X G Y dk1 t;have t:=cJ c X G Y dk2 t;have t:=cJ c X G Y dk3 t;have t:=cJ c X G Y dk4 t;obtain⟨_,_,db⟩:=Fnd.def X G (fnd Y S7.x S7.i dk7.m) dk7.bd;have t:TbOk T6 cC P w K mg base:=t.def_ db Ki;have t:=cJ c X G Y dk6 t;have t:=cJ c X G Y dk7 t;have t:=cJ c X G Y dk8 t;have t:=cJ c X G Y dk9 t;have t:=cJ c X G Y dk10 t;have t:=cJ c X G Y dk11 t;have t:=cJ c X G Y dk12 t;have t:=cJ c X G Y dk13 t;have t:=cJ c X G Y dk14 t;have t:=cJ c X G Y dk15 t;have t:=Mi c X G Y dk16 (fu:=6) (g:=aH) rfl (fun _=>rfl) t;have t:=Mi c X G Y dk17 (fu:=20) (g:=aJ) rfl (fun _=>rfl) t;have t:=cJ c X G Y dk18 t;have t:=cJ c X G Y dk19 t;have t:=cJ c X G Y dk20 t;have t:=cJ c X G Y dk21 t;have t:=cJ c X G Y dk22 t;have t:=cJ c X G Y dk23 t;have t:=cJ c X G Y dk24 t;have t:=cJ c X G Y dk25 t;have t:=cJ c X G Y dk26 t;have t:=cJ c X G Y dk27 t;have t:=cJ c X G Y dk41 t;have t:=cJ c X G Y dk42 t;have t:=JO c X G Y dk43 t;have t:=yN hC c Y dk44 t;have t:=yN hC c Y dk45 t;have t:=yN hC c Y dk46 t;have t:=cJ c X G Y dk47 t;have t:=yN hC c Y dk48 t;have t:=cJ c X G Y dk49 t;have t:=cJ c X G Y dk50 t;have t:=cJ c X G Y dk51 t;have t:=cJ c X G Y dk52 t;have t:=cJ c X G Y dk53 t;have t:=cJ c X G Y dk54 t;have t:=cJ c X G Y dk55 t;have t:=yN hC c Y dk56 t;have t:=yN hC c Y dk57 t;have t:=cJ c X G Y dk58 t;have t:=cJ c X G Y dk59 t;have t:=cJ c X G Y dk60 t;have t:=cJ c X G Y dk61 t;have t:=cJ c X G Y dk62 t;have t:=cJ c X G Y dk63 t;have t:=yN hC c Y dk64 t;have t:=cJ c X G Y dk65 t;have t:=cJ c X G Y dk66 t;have t:=yN hC c Y dk85 t;have t:=cJ c X G Y dk86 t;have t:=cJ c X G Y dk87 t;have t:=Mi c X G Y dk88 (fu:=5) (g:=bQ) rfl (fun _=>rfl) t;have t:=cJ c X G Y dk89 t;have t:=Mi c X G Y dk90 (fu:=6) (g:=bX) rfl (fun _=>rfl) t;have t:=Mi c X G Y dk91 (fu:=11) (g:=bA) rfl (fun _=>rfl) t;have t:=cJ c X G Y dk92 t;have t:=cJ c X G Y dk93 t;obtain⟨h1,h2⟩:=aG dk94.c;exact rG (t.gt c (W11 20)) F h1 h2
end
end K86
namespace K86
variable {sep sort:Str}{W:Sm'}{c':Nat}{X:List Nat}
open PySem L2 PyProof.Rows
def Ext(st st':Sto):Prop:=∀(l:Nat) c,st[l]?=some c→st'[l]?=some c
def Kp(p:Nat)(st st':Sto):Prop:=∀(l:Nat) c,l≠p→st[l]?=some c→st'[l]?=some c
theorem Ext.refl(st:Sto):Ext st st:=fun _ _ h=>h
theorem Ext.trans{a b c:Sto}(h:Ext a b)(h':Ext b c):Ext a c:=fun l x e=>h' l x (h l x e)
theorem Ext.app(st x:Sto):Ext st (st++x):=fun l c h=>by rw[Z17 (U10.mp h).1];exact h
theorem Kp.refl(p:Nat)(st:Sto):Kp p st st:=fun _ _ _ h=>h
theorem Kp.of{p:Nat}{a b:Sto}(h:Ext a b):Kp p a b:=fun l c _ e=>h l c e
theorem Kp.trans{p:Nat}{a b c:Sto}(h:Kp p a b)(h':Kp p b c):Kp p a c:=fun l x n e=>h' l x n (h l x n e)
theorem Kp.set{p:Nat}{a b:Sto}{c:C}(h:Kp p a b):Kp p a (b.set p c):=fun l x n e=>by rw[W26,if_neg (Ne.symm n)];exact h l x n e
theorem dM{st:Sto}{p:Nat}{c c':C}(h:st[p]?=some c):(st.set p c')[p]?=some c':=by
 have:=(U10.mp h).1;rw[W26,if_pos rfl,if_pos this]
def Sd(p:Nat)(st:Sto):Prop:=∃(a:Int) (gs:List Int),st[p]?=some (.l (.i a::gs.map D.i))∧0≤a∧a<2305843009213693951∧gs.length<1000
structure Av (p:Nat) (st0 st:Sto):Prop where
 sd:Sd p st
 kp:Kp p st0 st
theorem Av.refl{p:Nat}{st:Sto}(h:Sd p st):Av p st st:=⟨h,Kp.refl _ _⟩
theorem Av.trans{p:Nat}{a b c:Sto}(h:Av p a b)(h':Av p b c):Av p a c:=⟨h'.sd,h.kp.trans h'.kp⟩
theorem Mj{st:Sto}{l:Nat}{xs:List D}{x y:D}(h:st[l]?=some (.l (xs++[x]))):qR (.r l) (.i (-1)) y st=some ((),st.set l (.l (xs++[y]))):=by
 have h2:lsc st l=some (xs++[x]):=kD h;have h3:wO (xs++[x]).length (-1)=some xs.length:=by
  unfold wO;rw[if_neg (by decide),if_pos (by simp;lia)];simp
  lia
 unfold qR;dsimp only;rw[h2];dsimp only;rw[h3];simp
section
variable{st:Sto}{p:Nat}
theorem Ml(gs:List Int):gs=[]∨∃hs g,gs=hs++[g]:=by
 cases h:gs.reverse with
 |nil=>left;simpa using h
 |cons g hs=>right;exact⟨hs.reverse,g,by rw[←List.reverse_reverse gs,h];simp⟩
theorem eM{n:Nat}(h:Sd p st)(hn:0<n)(hn2:n<1000000):∃(d:Nat) (st':Sto),aB [.r p,.i (n:Nat)] st=some (.i (d:Nat),st')∧d<n∧Av p st st':=by
 obtain⟨a,gs,hs,h0,h1,hl⟩:=h;have hn':(0:Int) < (n:Nat):=by lia
 rcases Ml gs with rfl|⟨gs,g,rfl⟩
 ·have hs:st[p]?=some (.l [.i a]):=hs;have hm:CMul a 1181783497276652981:=.inl ⟨by lia,by lia⟩;generalize hv:(a*1181783497276652981+12345678910987)%2305843009213693951=v;have hv0:0≤v:=by rw[←hv];exact V44 _ (by decide)
  have hv1:v<2305843009213693951:=by rw[←hv];exact Y40 _ (by decide)
  have hsd:qR (.r p) (.i 0) (.i v) st=some ((),st.set p (.l [.i v])):=AA (n:=0) hs (by simp);have hs2:(st.set p (.l [.i v]))[p]?=some (.l [.i v]):=dM hs;have hk:Kp p st (st.set p (.l [.i v])):=(Kp.refl _ _).set;generalize st.set p (.l [.i v])=st1 at hsd hs2 hk;have hcv:CDiv v 65537:=⟨by decide,by decide⟩;have hx0:0≤v/65537:=Int.ediv_nonneg hv0 (by decide);have hx1:v/65537<2^64:=Int.lt_of_le_of_lt (Int.ediv_le_self _ hv0) (by lia);have hmm:CMul (v/65537) (v/65537):=.inl ⟨by lia,hx1⟩;generalize hy:v/65537*(v/65537)%2147483629=y;have hc7:CDiv y 7:=⟨by decide,by decide⟩;have hd0:=V44 (y/7) (show((n:Nat):Int)≠0 by lia);have hd1:=Y40 (y/7) hn';obtain⟨d,hd⟩:∃d:Nat,y/7%((n:Nat):Int)=(d:Nat):=⟨(y/7%((n:Nat):Int)).toNat,by lia⟩;refine⟨d,st1,?_,by lia,⟨⟨v,[],hs2,hv0,hv1,by simp⟩,hk⟩⟩;rw[←hd];simp[aB,fV,qX hs,gI hs,hm,hv,hsd,gI hs2,hcv,hmm,hy,hc7,hn',hn]
 ·have hs:st[p]?=some (.l ((.i a::gs.map D.i)++[.i g])):=by rw[hs];simp
  simp at hl;generalize hE:D.i a::gs.map D.i=E at hs;have hEl:(E++[D.i g]).length=gs.length+2:=by rw[←hE];simp
  have hcd:CDiv g (n:Nat):=⟨by lia,by lia⟩;have hd0:=V44 g (show((n:Nat):Int)≠0 by lia);have hd1:=Y40 g hn';obtain⟨d,hd⟩:∃d:Nat,g%((n:Nat):Int)=(d:Nat):=⟨(g%((n:Nat):Int)).toNat,by lia⟩;have hsd:qR (.r p) (.i (-1)) (.i (g/(n:Nat))) st=some ((),st.set p (.l (E++[.i (g/(n:Nat))]))):=Mj hs;have hs2:(st.set p (.l (E++[.i (g/(n:Nat))])))[p]?=some (.l (E++[.i (g/(n:Nat))])):=dM hs;have hk:Kp p st (st.set p (.l (E++[.i (g/(n:Nat))]))):=(Kp.refl _ _).set;generalize st.set p (.l (E++[.i (g/(n:Nat))]))=st1 at hsd hs2 hk;have hL:bZ [.r p] st=some (.i ((gs.length+2:Nat):Int),st):=by rw[qX hs,hEl]
  have hlt:(1:Int) < ((gs.length+2:Nat):Int):=by lia
  generalize ((gs.length+2:Nat):Int)=q at hL hlt
  by_cases hz:g/(n:Nat)=0
  ·refine⟨d,st1.set p (.l E),?_,by lia,⟨⟨a,gs,by rw[dM hs2,hE],h0,h1,by lia⟩,hk.set⟩⟩;rw[hz]at hsd hs2;have hpop:iM (.r p) [] st1=some (.i 0,st1.set p (.l E)):=kF hs2;have hck:dO "list" (.r p) st1=some ((),st1):=dJ hs2;rw[←hd];simp[aB,fV,hL,hlt,gI hs,qG,hn',hn,hcd,hsd,gI hs2,hz,hpop,hck]
  ·have hz':(g/((n:Nat):Int)==0)=false:=by simpa using hz
   refine⟨d,st1,?_,by lia,⟨⟨a,gs++[g/(n:Nat)],by rw[hs2,←hE];simp,h0,h1,by simp;lia⟩,hk⟩⟩;rw[←hd];simp[aB,fV,hL,hlt,gI hs,qG,hn',hn,hcd,hsd,gI hs2,hz']
end
section
variable{st:Sto}{env:En}{t:En→M (List D)}
variable{α:Type}{m:M α}
@[simp] theorem z1:n3 (1≤sizeLine) m st=m st:=aF (by rw[Y12];decide)
@[simp] theorem z2:n3 (2≤sizeLine) m st=m st:=aF (by rw[Y12];decide)
@[simp] theorem z3:n3 (3≤sizeLine) m st=m st:=aF (by rw[Y12];decide)
@[simp] theorem z4:n3 (4≤sizeLine) m st=m st:=aF (by rw[Y12];decide)
@[simp] theorem z5:n3 (5≤sizeLine) m st=m st:=aF (by rw[Y12];decide)
@[simp] theorem z6:n3 (6≤sizeLine) m st=m st:=aF (by rw[Y12];decide)
@[simp] theorem z7:n3 (7≤sizeLine) m st=m st:=aF (by rw[Y12];decide)
@[simp] theorem z0:n3 (0≤sizeLine) m st=m st:=aF (V24 _)
end
theorem rng{m:Nat}{st:Sto}(h:m<1000000):lV [.i (m:Nat)] st=some (((List.range' 0 m).map fun j:Nat=>D.i (j:Nat),fun _=>True),st):=by
 rw[hZ,aF (by constructor<;>lia)];have hx:((List.range m).map fun(k:Nat)=>D.i (0+(k:Int)))=(List.range' 0 m).map fun j:Nat=>D.i (j:Nat):=by rw[U36];simp
 show some (_,st)=_;rw[Z16,hx]
theorem len_app(a b:Str):(a++b).length=a.length+b.length:=by
 show(a.cps++b.cps).size=a.cps.size+b.cps.size;exact Array.size_append
theorem pM{c:Sto→Prop}{g:D→En→M En}{tb:Sm'}{J:En→Sto→Prop}(hc:∀st,c st):∀(xs:List D) (env:En) (st:Sto),
  (∀x∈xs,∀env st,J env st→∃env1 env2 st',g x env st=some (env1,st)∧tb env1 st=some ((.nx,env2),st')∧J env2 st')→J env st→∃env' st',eK c g tb xs env st=some ((.nx,env'),st')∧J env' st'
 |[],env,st,_,hJ=>⟨env,st,by show qU c _ st=_;rw[aS (hc st)];rfl,hJ⟩
 |x::xs,env,st,h,hJ=>by
  obtain⟨env1,env2,st1,h1,h2,h3⟩:=h x (by simp) env st hJ;obtain⟨env',st',g1,g2⟩:=pM hc xs env2 st1 (fun y hy=>h y (U11 _ hy)) h3;refine⟨env',st',?_,g2⟩;show qU c _ st=_;rw[aS (hc st)];simp only[hW,h1,mQ,h2];exact g1
theorem rL{c:Sto→Prop}{bd:D→Sto→Option (List D)}{tc:En→M Bool}{te:En→M D}{cap:En}{I:Sto→Prop}{P:D→Prop}:∀(xs acc:List D) (st:Sto),
  (∀x∈xs,∀st,I st→∃ds b,bd x st=some ds∧tc (ds.map some++cap) st=some (b,st)∧(b=true→∃z st',te (ds.map some++cap) st=some (z,st')∧P z∧I st'))→(∀st,I st→c st)→I st→
  ∃zs st',aY c bd tc te cap xs acc st=some (acc++zs,st')∧I st'∧(∀z∈zs,P z)∧zs.length≤xs.length
 |[],acc,st,_,hc,hI=>⟨[],st,by rw[aY,aS (hc st hI)];simp,hI,by simp,W11 _⟩
 |x::xs,acc,st,h,hc,hI=>by
  obtain⟨ds,b,h1,h2,h3⟩:=h x (by simp) st hI;cases b with
  |false=>
   obtain⟨zs,st',g1,g2,g3,g4⟩:=rL xs acc st (fun y hy=>h y (U11 _ hy)) hc hI;refine⟨zs,st',?_,g2,g3,by simp;lia⟩;rw[aY,aS (hc st hI),h1];dsimp only;rw[aR h2,if_neg (by decide)];exact g1
  |true=>
   obtain⟨z,st1,h4,h5,h6⟩:=h3 rfl;obtain⟨zs,st',g1,g2,g3,g4⟩:=rL xs (acc++[z]) st1 (fun y hy=>h y (U11 _ hy)) hc h6;refine⟨z::zs,st',?_,g2,fun w hw=>?_,by simp;lia⟩
   ·rw[aY,aS (hc st hI),h1];dsimp only;rw[aR h2,if_pos rfl,aR h4,g1];simp
   ·rcases Z13.mp hw with rfl|hw
    ·exact h5
    ·exact g3 w hw
theorem Di:∀{zs:List D},(∀z∈zs,∃n:Int,z=.i n)→∃gs:List Int,zs=gs.map D.i
 |[],_=>⟨[],rfl⟩
 |z::zs,h=>by
  obtain⟨n,rfl⟩:=h z (by simp);obtain⟨gs,rfl⟩:=Di fun y hy=>h y (U11 _ hy);exact⟨n::gs,rfl⟩
theorem Tn{ns:List Int}(hl:ns.length≤63):∃p st',eU [.f (ns.map D.i)] []=some (.r p,st')∧Sd p st':=by
 obtain⟨env',st',h1,hst,a,k,c,he,ha0,ha1⟩:=pM (c:=fun _=>True) (g:=gT 2 (gU (gN 2) (gU (gN 3) qV))) (tb:=sA (aT lU (aT aI (aT aI (aT aI (aT qO (eV 1) (eC (.i 7368787))) (aT lU (eV 3) (aT zX (eC (.i 10)) (eC (.i 30))))) (aT qO (eC (.i 13)) (eV 2))) (eC (.i 11))) (eC (.i 2305843009213693951))) (gN 1))
  (J:=fun env st=>st=[]∧∃(a:Int) (k c:Option D),env=[some (.f (ns.map D.i)),some (.i a),k,c,none]∧0≤a∧a<2305843009213693951) (fun _=>trivial) (hV (ns.map D.i)) [some (.f (ns.map D.i)),some (.i 7),none,none,none] [] (by
   rintro x hx env st ⟨rfl,a,k,c,rfl,ha0,ha1⟩;obtain⟨j,hj⟩:=V43 hx;obtain⟨y,hy,rfl⟩:=qT hj;rw[W14]at hy;obtain⟨n,_,rfl⟩:=V13.mp hy;have q1:CMul a 7368787:=.inl ⟨by lia,by lia⟩;have q2:CPow 10 30:=⟨by decide,by decide,by decide⟩;have q3:CMul 13 (j:Nat):=.inl ⟨by decide,by decide⟩;generalize hv:(a*7368787+n%10^30+13*(j:Nat)+11)%2305843009213693951=v;have hv0:0≤v:=by rw[←hv];exact V44 _ (by decide)
   have hv1:v<2305843009213693951:=by rw[←hv];exact Y40 _ (by decide)
   refine⟨[some (.f (ns.map D.i)),some (.i a),some (.i (j:Nat)),some (.i n),none],[some (.f (ns.map D.i)),some (.i v),some (.i (j:Nat)),some (.i n),none],[],by simp,?_,rfl,v,_,_,rfl,hv0,hv1⟩;rw[←hv];simp[aF q1,aF q2,aF q3,-vL,vL (a:=10) (b:=30)])
  ⟨rfl,7,none,none,rfl,by decide,by decide⟩
 subst hst;subst he;have hcl:(L2.cutD (ns.map D.i) none (some 63)).length≤63:=by
  unfold L2.cutD;rw[V22,W22,U12]
  lia
 have hcm:∀x∈L2.cutD (ns.map D.i) none (some 63),∃n:Int,x=.i n:=fun x hx=>by
  unfold L2.cutD at hx;obtain⟨n,_,rfl⟩:=V17.mp (List.mem_of_mem_drop (Z43 hx));exact⟨n,rfl⟩
 generalize hcs:L2.cutD (ns.map D.i) none (some 63)=cs at hcl hcm;have q2:CPow 10 18:=⟨by decide,by decide,by decide⟩;obtain⟨zs,st1,g1,rfl,g3,g4⟩:=rL (c:=fun st=>st[0]?=some (.l cs)) (bd:=bd1) (tc:=eA ES (eV 0) (aT zX (eC (.i 10)) (eC (.i 18)))) (te:=eV 0) (cap:=[]) (I:=fun st=>st=[.l cs]) (P:=fun z=>∃n:Int,z=.i n) cs [] [.l cs] (by
   rintro x hx st rfl;obtain⟨n,rfl⟩:=hcm x hx;exact⟨[.i n],decide ((10:Int)^18≤n),rfl,by simp[aF q2,-vL,vL (a:=10) (b:=18)],fun _=>⟨.i n,_,by simp,⟨n,rfl⟩,rfl⟩⟩) (by rintro st rfl;rfl) rfl
 obtain⟨gs,rfl⟩:=Di g3;simp only[U12]at g4;have hsl:Qz (.f (ns.map D.i)) none (some 63) []=some (.r 0,[.l cs]):=by
  show some (D.r 0,[C.l (L2.cutD (ns.map D.i) none (some 63))])=_;rw[hcs]
 have hen:Cm [.f (ns.map D.i)] []=some ((hV (ns.map D.i),fun _=>True),[]):=rfl;have hit:yZ (.r 0) [.l cs]=some ((cs,fun st=>st[0]?=some (.l cs)),[.l cs]):=rfl;have hsz:cs.length<sizeLine:=by rw[Y12];lia
 have hrv:Cu [.r 1] [.l cs,.l (gs.map D.i),.l [.i a]]=some (.r 3,[.l cs,.l (gs.map D.i),.l [.i a],.l (gs.map D.i).reverse]):=rfl;have had:aI (.r 2) (.r 3) [.l cs,.l (gs.map D.i),.l [.i a],.l (gs.map D.i).reverse]=some (.r 4,[.l cs,.l (gs.map D.i),.l [.i a],.l (gs.map D.i).reverse]++[.l ([.i a]++(gs.map D.i).reverse)]):=eQ rfl rfl (by rw[Y12];simp;lia);refine⟨4,[.l cs,.l (gs.map D.i),.l [.i a],.l (gs.map D.i).reverse]++[.l ([.i a]++(gs.map D.i).reverse)],?_,a,gs.reverse,by simp,ha0,ha1,by simp;lia⟩;rw[W13]at g1;simp only[U18,W13]at had⊢;simp[eU,jQ,hen,h1,hsl,hit,hsz,g1,hrv,had,iD]
theorem rM{c:Sto→Prop}{bd:D→Sto→Option (List D)}{te:En→M D}{cap:En}{I:Sto→Prop}{P:D→Prop}:∀(xs acc:List D) (st:Sto),
  (∀x∈xs,∀st,I st→∃ds z st',bd x st=some ds∧te (ds.map some++cap) st=some (z,st')∧P z∧I st')→(∀st,I st→c st)→I st→
  ∃zs st',aY c bd (fun _=>L2.ret true) te cap xs acc st=some (acc++zs,st')∧I st'∧(∀z∈zs,P z)∧zs.length=xs.length
 |[],acc,st,_,hc,hI=>⟨[],st,by rw[aY,aS (hc st hI)];simp,hI,by simp,rfl⟩
 |x::xs,acc,st,h,hc,hI=>by
  obtain⟨ds,z,st1,h1,h4,h5,h6⟩:=h x (by simp) st hI;obtain⟨zs,st',g1,g2,g3,g4⟩:=rM xs (acc++[z]) st1 (fun y hy=>h y (U11 _ hy)) hc h6;refine⟨z::zs,st',?_,g2,fun w hw=>?_,by simp[g4]⟩
  ·rw[aY,aS (hc st hI),h1];dsimp only;rw[aR (show L2.ret true _=some (true,st) from rfl),if_pos rfl,aR h4,g1];simp
  ·rcases Z13.mp hw with rfl|hw
   ·exact h5
   ·exact g3 w hw
abbrev cp(x:Str):List Nat:=x.cps.toList
theorem aX(a b:Str):cp (a++b)=cp a++cp b:=by
 show(a.cps++b.cps).toList=_;simp
theorem kU{a b:Str}(h:cp a=cp b):a=b:=by
 cases a;cases b;simpa using h
def cat(us:List Str):List Nat:=us.flatMap cp
theorem To(a b:List Str):cat (a++b)=cat a++cat b:=by simp[cat]
theorem zl{n:Nat}(h:n≤100000):n<sizeLine:=by rw[Y12];lia
theorem bM(x:Str):(cp x).length=x.length:=by simp[cp,Str.length]
theorem Dj:∀ts:List Str,cp (Str.join "" ts)=cat ts
 |[]=>rfl
 |[x]=>by simp[Str.join,cat]
 |x::y::r=>by
  have ih:=Dj (y::r);show cp (x++("":Str)++Str.join "" (y::r))=_;rw[aX,aX,ih,show cp ("":Str)=[] by decide];simp[cat]
theorem Dl:∀ts:List Str,(ts.map (·.length)).sum=(cat ts).length
 |[]=>rfl
 |x::r=>by
  have ih:=Dl r;simp only[Z12,List.sum_cons,ih,cat,U26,V12,bM]
theorem Mm{ts:List Str}{s:Str}(h:cat ts=cp s)(hs:s.length≤100000):JoinOk "" ts=true∧Txt.join "" ts=s:=by
 have h1:(ts.map (·.length)).sum=s.length:=by rw[Dl,h,bM]
 constructor
 ·unfold JoinOk;rw[U22];have e:ts.toArray.foldl (fun a p=>a+p.length+("":Str).length) 0=s.length:=by
   rw[StrLaws.joinTotal,h1,show("":Str).length=0 by decide];simp
  rw[e];unfold Builtin.Str.tooLong;simp;have:=zl hs
  lia
 ·show Builtin.Str.glued "" ts=s;rw[StrLaws.glued_eq_join];exact kU (by rw[Dj,h])
theorem nZ:∀ts:List Str,oQ (ts.map D.s)=some ts
 |[]=>rfl
 |t::ts=>by
  rw[Z12];show(oQ (ts.map D.s)).map _=_;rw[nZ ts]
  rfl
def jn(sep:List Nat):List Str→List Nat
 |[]=>[]
 |[x]=>cp x
 |x::y::r=>cp x++(sep++jn sep (y::r))
theorem yO(sep:Str):∀ts:List Str,cp (Str.join sep ts)=jn (cp sep) ts
 |[]=>rfl
 |[x]=>by simp[Str.join,jn]
 |x::y::r=>by
  have ih:=yO sep (y::r);show cp (x++sep++Str.join sep (y::r))=_;rw[aX,aX,ih];simp[jn]
theorem Mn{ts:List Str}{s:Str}(h:jn (cp sep) ts=cp s)(hs:(ts.map (·.length)).sum+ts.length*sep.length≤100000):JoinOk sep ts=true∧Txt.join sep ts=s:=by
 constructor
 ·unfold JoinOk;rw[U22];have e:ts.toArray.foldl (fun a p=>a+p.length+sep.length) 0=(ts.map (·.length)).sum+ts.length*sep.length:=by
   rw[StrLaws.joinTotal]
  rw[e];unfold Builtin.Str.tooLong;simp;have:=zl hs
  lia
 ·show Builtin.Str.glued sep ts=s;rw[StrLaws.glued_eq_join];exact kU (by rw[yO,h])
theorem pN{st:Sto}{l:Nat}{s:Str}{ts:List Str}(hl:st[l]?=some (.l (ts.map D.s)))(h:jn (cp sep) ts=cp s)(hs:(ts.map (·.length)).sum+ts.length*sep.length≤100000):iH (.s sep) [.r l] st=some (.s s,st):=by
 obtain⟨j1,j2⟩:=Mn h hs;show bnd (getL l) _ _=_;rw[aR (dS hl),aR (show opt (oQ (ts.map D.s)) st=some (ts,st) by rw[nZ];rfl),pH j1,j2]
 rfl
abbrev small:Str:="abcdefghijklmnopqrstuvwxyz"
def fG:List Str:=["false","all","some","and","or"]
def iY(w:Str):Bool:=decide (0<w.length)&&decide (w.length≤8)&&(cp w).all (fun c=>decide (c∈cp small))&&!fG.contains w
theorem Sd.ext{p:Nat}{st st':Sto}(h:Sd p st)(x:Ext st st'):Sd p st':=by
 obtain⟨a,gs,h1,h2⟩:=h;exact⟨a,gs,x _ _ h1,h2⟩
theorem Av.ext{p:Nat}{a b c:Sto}(h:Av p a b)(x:Ext b c):Av p a c:=⟨h.sd.ext x,h.kp.trans (Kp.of x)⟩
theorem Sd.lt{p:Nat}{st:Sto}(h:Sd p st):p<st.length:=by
 obtain⟨a,gs,h1,h2⟩:=h;exact(U10.mp h1).1
def yP:List Str:=["x","y","z","xa","ya","zz","xaa","h","in","nat"]
theorem Tp:∀k,k<10→iY (yP.getD k "")=true:=by decide +kernel
theorem BH{xs:List Str}{j:Nat}(h:j<xs.length):atI (xs.map D.s) (j:Nat)=some (.s (xs.getD j "")):=by
 refine fS ?_;rw[W14,W18,U13 h]
 rfl
noncomputable def sg(x:Str)(j:Nat):Str:=⟨#[x.cps.toList.getD j 0]⟩
section
variable{st:Sto}{p:Nat}
theorem vY{z:Str}{j:Nat}(h:j<z.cps.toList.length)(hz:z.length≤1000):jO (.s z) (.i (j:Nat)) st=some (.s (sg z j),st):=by
 have e:Hf st (.s z) (.i (j:Nat))=some (.s (sg z j)):=by
  show(if z.length≤sizeLine then(atI z.cps.toList (j:Nat)).map fun c=>D.s ⟨#[c]⟩ else none)=_;rw[if_pos (V33 (zl (by lia))),fS (U13 h),sg,W18,U13 h]
  rfl
 unfold jO;rw[e]
theorem GA:∀j,j<26→small.cps.toList.getD j 0∈cp small:=by decide +kernel
def JP(z:D):Prop:=∃j,j<26∧z=.s (sg small j)
theorem yQ:∀{zs:List D},(∀z∈zs,JP z)→∃ts:List Str,zs=ts.map D.s∧(∀c∈jn (cp "") ts,c∈cp small)∧(jn (cp "") ts).length=ts.length∧(ts.map (·.length)).sum=ts.length
 |[],_=>⟨[],rfl,by simp[jn],rfl,rfl⟩
 |z::zs,h=>by
  obtain⟨j,hj,rfl⟩:=h z (by simp);obtain⟨ts,rfl,h1,h2,h3⟩:=yQ fun y hy=>h y (U11 _ hy);have hs:cp (sg small j)=[small.cps.toList.getD j 0]:=rfl;have he:cp ""=[]:=rfl;have hl:(sg small j).length=1:=rfl;have hi:=GA j hj;refine⟨sg small j::ts,rfl,?_,?_,by simp[h3,hl];lia⟩
  ·cases ts with
   |nil=>intro c hc;simp only[jn,hs,Y15]at hc;rw[hc];exact hi
   |cons y r=>
    intro c hc;simp only[jn,hs,he,W13,U18,Z13]at hc;rcases hc with rfl|hc
    ·exact hi
    ·exact h1 c hc
  ·cases ts with
   |nil=>rfl
   |cons y r=>
    simp only[jn,hs,he,W13,U18,Z14];rw[he]at h2;rw[h2]
    rfl
theorem sP{q:Option D}{m:Nat}(h:Sd p st):∃zs st',aY (fun _=>True) bd1 (fun _=>L2.ret true) (bL (eV 1) (aM aB (aC (eV 2) (aC (eC (.i 26)) aN)))) [some (.s small),some (.r p)] ((List.range' 0 m).map fun j:Nat=>D.i (j:Nat)) [] st=some ([]++zs,st')∧Av p st st'∧(∀z∈zs,JP z)∧zs.length=m:=by
 obtain⟨zs,st',h1,h2,h3,h4⟩:=rM (c:=fun _=>True) (bd:=bd1) (te:=bL (eV 1) (aM aB (aC (eV 2) (aC (eC (.i 26)) aN)))) (cap:=[some (.s small),some (.r p)]) (I:=fun s=>Av p st s) (P:=JP) ((List.range' 0 m).map fun j:Nat=>D.i (j:Nat)) [] st (by
  intro x hx s a;obtain⟨d,s1,e1,hd,a1⟩:=eM (n:=26) a.sd (by lia) (by lia);have e1':aB [.r p,.i 26] s=some (.i (d:Nat),s1):=e1;exact⟨[x],.s (sg small d),s1,rfl,by simp[e1',vY (z:=small) (j:=d) hd (by decide)],⟨d,hd,rfl⟩,a.trans a1⟩) (fun _ _=>trivial) (.refl h)
 exact⟨zs,st',h1,h2,h3,by simpa using h4⟩
end
section
variable{st:Sto}{p:Nat}
theorem rN:∀ss:List Str,(ss.map D.s).mapM Fl=some (ss.map V.str)
 |[]=>rfl
 |s::ss=>by
  rw[Z12,List.mapM_cons,rN ss]
  rfl
theorem oO(x:Str):∀ss:List Str,wZ (.str x) (ss.map V.str)=ss.contains x
 |[]=>rfl
 |s::ss=>by
  have ih:=oO x ss;unfold wZ at ih⊢;rw[Z12,W38,ih,W39]
  congr 1
  show(s==x)=(x==s);exact BEq.comm
theorem uA{x:Str}{ss:List Str}:inD (.s x) (.t (ss.map D.s)) st=some (.b (ss.contains x),st):=by
 have e:Ci (.s x) (.t (ss.map D.s)) st=some (ss.contains x):=by
  show((Fl (.s x)).bind fun a=>((ss.map D.s).mapM Fl).map fun vs=>wZ a vs)=_;rw[rN];show some (wZ (.str x) (ss.map V.str))=_;rw[oO]
 unfold inD;rw[e]
theorem jV(h:Sd p st):∃w st',bW [.r p] st=some (.s w,st')∧iY w=true∧Av p st st':=by
 obtain⟨d,st1,e1,hd,a1⟩:=eM (n:=2) h (by lia) (by lia);have e1':aB [.r p,.i 2] st=some (.i (d:Nat),st1):=e1;rcases d with _|d
 ·have x1:Ext st1 (st1++[.l (yP.map D.s)]):=Ext.app _ _;obtain⟨k,st2,e2,hk,a2⟩:=eM (n:=10) (a1.ext x1).sd (by lia) (by lia);have e2':aB [.r p,.i 10] (st1++[.l (yP.map D.s)])=some (.i (k:Nat),st2):=e2;have hp:=a1.sd.lt;have hL:st2[st1.length]?=some (.l (yP.map D.s)):=a2.kp _ _ (by lia) (by simp);have hi:jO (.r st1.length) (.i (k:Nat)) st2=some (.s (yP.getD k ""),st2):=by
   rw[gI hL,BH (by show k<10;exact hk)]
   rfl
  refine⟨yP.getD k "",st2,?_,Tp k hk,(a1.ext x1).trans a2⟩;generalize yP.getD k ""=w at hi⊢;simp only[yP,Z12,W21]at e2';have hz:10≤sizeLine:=by rw[Y12];decide
  simp[bW,fW,e1',e2',hi,aF hz]
 ·obtain rfl:d=0:=by lia
  replace e1':aB [.r p,.i 2] st=some (.i 1,st1):=e1
  obtain⟨m,st2,e2,hm,a2⟩:=eM (n:=8) a1.sd (by lia) (by lia);have e2':aB [.r p,.i 8] st1=some (.i (m:Nat),st2):=e2;obtain⟨zs,st3,g1,a3,g3,g4⟩:=sP (m:=1+m) (q:=none) a2.sd;obtain⟨ts,rfl,t1,t2,t3⟩:=yQ g3;rw[U12]at g4;obtain⟨s,hs⟩:∃s:Str,cp s=jn (cp "") ts:=⟨⟨(jn (cp "") ts).toArray⟩,by simp⟩;have hj:iH (.s "") [.r st3.length] (st3++[.l (ts.map D.s)])=some (.s s,st3++[.l (ts.map D.s)]):=pN (by simp) hs.symm (by rw[t3,show("":Str).length=0 from rfl];lia);have hsl:s.length=1+m:=by rw[←bM,hs,t2,g4]
  have hin:=uA (x:=s) (ss:=fG) (st:=st3++[.l (ts.map D.s)]);have hr:lV [.i (1+(m:Nat))] st2=some (((List.range' 0 (1+m)).map fun j:Nat=>D.i (j:Nat),fun _=>True),st2):=by
   have:=rng (m:=1+m) (st:=st2) (by lia);rw[←this];simp
  have hz:((List.range' 0 (1+m)).map fun j:Nat=>D.i (j:Nat)).length<sizeLine:=by rw[Y12];simp;lia
  rw[W13]at g1;simp only[fG,Z12,W21]at hin;have hb:Av p st (st3++[.l (ts.map D.s)]):=((a1.trans a2).trans a3).ext (Ext.app _ _);cases hc:fG.contains s with
  |false=>
   refine⟨s,st3++[.l (ts.map D.s)],?_,?_,hb⟩
   ·simp only[fG]at hc;rw[hc]at hin;generalize ts.map D.s=Z at *;generalize ((List.range' 0 (1+m)).map fun j:Nat=>D.i (j:Nat))=R at *;simp[bW,fW,e1',e2',-hZ,hr,g1,hz,hj,hin,iD]
   ·unfold iY;rw[hc,hsl];simp only[Y11,U17,V19];exact⟨⟨⟨by lia,by lia⟩,fun c hcc=>t1 c (hs ▸ hcc)⟩,rfl⟩
  |true=>
   refine⟨Txt.slice s none (some 1)++("q":Str),st3++[.l (ts.map D.s)],?_,?_,hb⟩
   ·have h1:s.length≤sizeLine:=V33 (zl (by lia));have h2:(Txt.slice s none (some 1)).length+("q":Str).length≤sizeLine:=by
     have:∀x∈fG,(Txt.slice x none (some 1)).length+("q":Str).length≤100:=by decide +kernel
     have:=this s (by simpa using hc);rw[Y12]
     lia
    simp only[fG]at hc;rw[hc]at hin;generalize ts.map D.s=Z at *;generalize ((List.range' 0 (1+m)).map fun j:Nat=>D.i (j:Nat))=R at *;simp[bW,fW,e1',e2',-hZ,hr,g1,hz,hj,hin,iD,aF h1,aF h2]
   ·have:∀x∈fG,iY (Txt.slice x none (some 1)++("q":Str))=true:=by decide +kernel
    exact this s (by simpa using hc)
end
abbrev great:Str:="ABCDEFGHIJKLMNOPQRSTUVWXYZ"
def wR(w:Str):Bool:=match cp w with
 |[]=>false
 |c::r=>decide (c∈cp great)&&decide (r.length≤7)&&r.all (fun c=>decide (c∈cp small))
theorem Mo:∀j,j<26→great.cps.toList.getD j 0∈cp great:=by decide +kernel
section
variable{st:Sto}{p:Nat}
theorem GC{j:Nat}{w:Str}(hj:j<26)(h:(cp w).length≤7)(hw:∀c∈cp w,c∈cp small):wR (sg great j++w)=true:=by
 have e:cp (sg great j++w)=great.cps.toList.getD j 0::cp w:=by rw[aX];rfl
 unfold wR;rw[e];simp only[Y11,U17,V19];exact⟨⟨Mo j hj,h⟩,hw⟩
end
theorem rO(xs:List Nat)(a:Nat):∀k,a+k≤xs.length→((List.range k).map (a+·)).filterMap (fun i=>xs[i]?)=(xs.drop a).take k
 |0,_=>by simp
 |k+1,h=>by
  have ih:=rO xs a k (by lia);rw[U31,Y19,List.filterMap_append,ih];have hk:a+k<xs.length:=by lia
  have e:(xs.drop a).take (k+1)=(xs.drop a).take k++[xs[a+k]]:=by
   rw[List.take_add_one]
   congr 1
   rw[List.getElem?_drop,U13 hk]
   rfl
  rw[e]
  congr 1
  simp[U13 hk]
theorem Mp{a b n:Nat}(ha:a≤n)(hab:a≤b):Builtin.Str.strSliceIndices (some (a:Nat)) (some (b:Nat)) 1 n=(List.range (min b n-a)).map (a+·):=by
 unfold Builtin.Str.strSliceIndices sliceRange;simp only[show(1:Int) > 0 by decide,if_true,show ¬ ((a:Nat):Int)<0 by lia,show ¬ ((b:Nat):Int)<0 by lia,if_false];rw[show max (0:Int) (min ((a:Nat):Int) ((n:Nat):Int))=(a:Nat) by lia,show max (0:Int) (min ((b:Nat):Int) ((n:Nat):Int))=((min b n:Nat):Int) by lia];have hc:(if((a:Nat):Int) < ((min b n:Nat):Int) then(((min b n:Nat):Int)-(a:Nat)+1-1)/1 else 0).toNat=min b n-a:=by
  split<;>lia
 rw[hc]
 apply List.map_congr_left
 intro k _
 lia
theorem mW{tx:Str}{a b:Nat}(ha:a≤tx.length)(hab:a≤b):cp (Txt.slice tx (some (a:Nat)) (some (b:Nat)))=((cp tx).drop a).take (b-a):=by
 have hl:(cp tx).length=tx.length:=bM tx;unfold Txt.slice;rw[Mp ha hab]
 split
 ·rename_i h;simp at h;have h0:a=0∨tx.length=0:=by lia
  rcases h0 with h0|h0
  ·subst h0;rw[Y37,W23 (by lia)]
  ·have:cp tx=[]:=List.eq_nil_of_length_eq_zero (by lia);rw[this];simp
 ·show(List.filterMap _ _).toArray.toList=_;have e:(fun i:Nat=>tx.cps[i]?)=fun i:Nat=>(cp tx)[i]?:=by funext i;simp[cp]
  rw[List.toList_toArray,e,rO _ _ _ (by lia)];have:min b tx.length-a=min (b-a) (tx.length-a):=by lia
  rw[this,←hl,←W22];exact(List.take_eq_take_min ..).symm
theorem mX{st:Sto}{c:Nat}{x:Str}:inD (.s ⟨#[c]⟩) (.s x) st=some (.b (decide (c∈cp x)),st):=by
 have e:Ci (.s ⟨#[c]⟩) (.s x) st=some (decide (c∈cp x)):=by
  show some (!(Builtin.Str.occurrences x ⟨#[c]⟩ 0 x.length 1).isEmpty)=_;rw[StrLaws.found_one]
 unfold inD;rw[e]
theorem Bb{tx:Str}{b:Nat}:Txt.slice tx none (some (b:Nat))=Txt.slice tx (some ((0:Nat):Int)) (some (b:Nat)):=by
 unfold Txt.slice;have:Builtin.Str.strSliceIndices none (some (b:Nat)) 1 tx.length=Builtin.Str.strSliceIndices (some ((0:Nat):Int)) (some (b:Nat)) 1 tx.length:=by
  unfold Builtin.Str.strSliceIndices sliceRange;have h0:max (0:Int) (min 0 ((tx.length:Nat):Int))=0:=by lia
  simp[h0]
 rw[this]
theorem BI{tx:Str}{b:Nat}:cp (Txt.slice tx none (some (b:Nat)))=(cp tx).take b:=by
 rw[Bb,mW (V24 _) (V24 _)];simp
section
variable{st:Sto}{p:Nat}
theorem dR{w:Str}(h:iY w=true):0<w.length∧w.length≤8∧(∀c∈cp w,c∈cp small)∧fG.contains w=false:=by
 unfold iY at h;simp only[Y11,U17,V19,U22]at h;exact⟨h.1.1.1,h.1.1.2,h.1.2,h.2⟩
theorem kW(h:Sd p st):∃w st',dC [.r p] st=some (.s w,st')∧wR w=true∧Av p st st':=by
 obtain⟨w,st1,e1,hw,a1⟩:=jV h;obtain⟨d,st2,e2,hd,a2⟩:=eM (n:=26) a1.sd (by lia) (by lia);have e2':aB [.r p,.i 26] st1=some (.i (d:Nat),st2):=e2;obtain⟨n1,n2,n3,n4⟩:=dR hw;have hc:cp (Txt.slice w none (some 7))=(cp w).take 7:=BI (b:=7);refine⟨sg great d++Txt.slice w none (some 7),st2,?_,GC hd (by rw[hc];simp;lia) (fun c hcc=>n3 c (Z43 (hc ▸ hcc))),a1.trans a2⟩;have h1:w.length≤sizeLine:=V33 (zl (by lia));have h2:(sg great d).length+(Txt.slice w none (some 7)).length≤sizeLine:=by
  rw[←bM (Txt.slice w none (some 7)),hc,show(sg great d).length=1 from rfl,Y12];simp
  lia
 have hi:=vY (st:=st2) (z:=great) (j:=d) hd (by decide);simp[dC,fM,e1,e2',hi,aF h1,aF h2]
end
def iB(sc:List Str)(x:Str):D:=match sc.reverse.findIdx? (·==x) with
 |some k=>.t [.s "bound",.i (k:Nat)]
 |none=>.t [.s "free",.s x]
theorem oA{c:Sto→Prop}{g:D→En→M En}{tb:Sm'}{st:Sto}{X:List Str}{x:Str}{el:Nat→D}{J:En→Prop}(hc:c st)
  (hs:∀(j:Nat) y env,X[j]?=some y→J env→∃env1,g (el j) env st=some (env1,st)∧((y==x)=true→∃env',tb env1 st=some ((.rt (.t [.s "bound",.i (j:Nat)]),env'),st))∧((y==x)=false→∃env',tb env1 st=some ((.nx,env'),st)∧J env')):
  ∀(m i:Nat) (env:En),i+m=X.length→J env→
   (∀k,(X.drop i).findIdx? (·==x)=some k→∃env',eK c g tb ((List.range' i m).map el) env st=some ((.rt (.t [.s "bound",.i ((i+k:Nat):Int)]),env'),st))∧
   ((X.drop i).findIdx? (·==x)=none→∃env',eK c g tb ((List.range' i m).map el) env st=some ((.nx,env'),st)∧J env')
 |0,i,env,h1,hJ=>by
  have hd:X.drop i=[]:=List.drop_eq_nil_of_le (by omega);rw[hd];refine⟨fun k e=>by simp at e,fun _=>⟨env,?_,hJ⟩⟩;rw[List.range'_zero,W21,eK,aS hc]
  rfl
 |m+1,i,env,h1,hJ=>by
  have hi:i<X.length:=by omega
  have hd:X.drop i=X[i]::X.drop (i+1):=V21 hi;obtain⟨env1,q1,q2,q3⟩:=hs i X[i] env (U13 hi) hJ;rw[hd,List.findIdx?_cons,List.range'_succ,Z12,eK,aS hc,aR q1];cases hb:(X[i]==x) with
  |true=>
   obtain⟨env',q4⟩:=q2 hb;refine⟨fun k e=>?_,fun e=>by simp at e⟩;simp at e;subst e;refine⟨env',?_⟩;rw[aR q4]
   rfl
  |false=>
   obtain⟨env',q4,q5⟩:=q3 hb;obtain⟨i1,i2⟩:=oA hc hs m (i+1) env' (by omega) q5;rw[aR q4];refine⟨fun k e=>?_,fun e=>?_⟩
   ·simp only[Z23,if_false,V13]at e;obtain⟨k',e1,rfl⟩:=e;obtain⟨env2,e2⟩:=i1 k' e1;refine⟨env2,?_⟩;rw[show i+(k'+1)=i+1+k' by omega];exact e2
   ·simp only[Z23,if_false,Option.map_eq_none_iff]at e;exact i2 e
section
variable{st:Sto}{p:Nat}
theorem Dm{xs:List Str}{j:Nat}(h:j<xs.length):atI (xs.map D.s) (-1-(j:Nat):Int)=(xs.reverse[j]?).map D.s:=by
 have e:xs.reverse[j]?=some (xs[xs.length-1-j]):=by
  rw[V30 h,U13 (by omega)]
 rw[e];unfold atI wO;rw[U12,if_neg (by omega),if_pos (by omega)];have hn:((-1-(j:Nat):Int)+(xs.length:Nat)).toNat=xs.length-1-j:=by omega
 rw[hn];show(xs.map D.s)[xs.length-1-j]?=some (D.s _);rw[W14,U13 (by omega)]
 rfl
theorem pO{l:Nat}{sc:List Str}{x:Str}(hl:st[l]?=some (.l (sc.map D.s)))(hb:sc.length≤1000):dU [.s x,.r l] st=some (iB sc x,st):=by
 have hlen:bZ [.r l] st=some (.i (sc.length:Nat),st):=by rw[qX hl,U12]
 have hr:=rng (m:=sc.length) (st:=st) (by omega);obtain⟨f1,f2⟩:=oA (c:=fun _=>True) (g:=gN 2) (tb:=sI (eA gZ (bL (eV 1) (aT nH (Fy mP (eC (.i 1))) (eV 2))) (eV 0)) (sR (eT (aC (eC (.s "bound")) (aC (eV 2) aN)))) sN) (st:=st) (X:=sc.reverse) (x:=x) (el:=fun j:Nat=>D.i (j:Nat)) (J:=fun env=>∃e,env=[some (.s x),some (.r l),e]) trivial (by
  rintro j y env hj ⟨e,rfl⟩;have hj':j<sc.length:=by have:=(U10.mp hj).1;simpa using this
  have hi:jO (.r l) (.i (-1-(j:Nat))) st=some (.s y,st):=by
   rw[gI hl,Dm hj',hj]
   rfl
  refine⟨[some (.s x),some (.r l),some (.i (j:Nat))],by simp,fun hy=>?_,fun hy=>?_⟩
  ·exact⟨_,by simp[hi,hy];rfl⟩
  ·exact⟨_,by simp[hi,hy];rfl,_,rfl⟩) sc.length 0 [some (.s x),some (.r l),none] (by simp) ⟨_,rfl⟩
 rw[Y37]at f1 f2;unfold iB;cases hf:sc.reverse.findIdx? (·==x) with
 |none=>
  obtain⟨env',h1,e,rfl⟩:=f2 hf;generalize ((List.range' 0 sc.length).map fun j:Nat=>D.i (j:Nat))=R at h1 hr;simp[dU,gM,hlen,-hZ,hr,h1]
 |some k=>
  obtain⟨env',h1⟩:=f1 k hf;rw[Z38]at h1;generalize ((List.range' 0 sc.length).map fun j:Nat=>D.i (j:Nat))=R at h1 hr;simp[dU,gM,hlen,-hZ,hr,h1]
end
abbrev rP(q:D×Str):D:=.t [q.1,.s q.2]
inductive Tm (sc:List Str):Nat→D→Str→Prop where
 |leaf (n:Nat) (x:Str):iY x=true→Tm sc n (iB sc x) x
 |form0 (n:Nat) (w:Str):wR w=true→Tm sc n (.t [.s "form",.s w,.t []]) w
 |form (n:Nat) (w:Str) (ps:List (D×Str)) (s:Str):wR w=true→0<ps.length→ps.length≤4→(∀q∈ps,Tm sc n q.1 q.2)→cp s=jn (cp ", ") (ps.map (·.2))→Tm sc (n+1) (.t [.s "form",.s w,.t (ps.map (·.1))]) (w++("(":Str)++s++(")":Str))
 |call (n:Nat) (w:Str) (ps:List (D×Str)) (s:Str):iY w=true→ps.length≤4→(∀q∈ps,Tm sc n q.1 q.2)→cp s=jn (cp ", ") (ps.map (·.2))→Tm sc (n+1) (.t [.s "call",.s w,.t (ps.map (·.1))]) (w++("(":Str)++s++(")":Str))
theorem Bc{w:Str}(h:wR w=true):w.length≤8:=by
 rw[←bM];unfold wR at h
 split at h
 ·cases h
 ·rename_i c r e;simp only[Y11,U17]at h;rw[e,Z14];have:=h.1.2
  lia
def tB:Nat→Nat
 |0=>8
 |n+1=>4*tB n+24
theorem mE{b:Nat}:∀ts:List Str,(∀t∈ts,t.length≤b)→(jn (cp ", ") ts).length≤ts.length*(b+2)
 |[],_=>by simp[jn]
 |[x],h=>by
  have:=h x (by simp);simp only[jn,bM,Z14,Y25]
  lia
 |x::y::r,h=>by
  have ih:=mE (y::r) fun t ht=>h t (U11 _ ht);have h1:=h x (by simp);have h2:(cp ", ").length=2:=rfl;simp only[jn,V12,bM,Z14,Nat.add_mul,Nat.one_mul,h2]at ih⊢;have h3:(", ":Str).length=2:=rfl
  lia
theorem Vb(n:Nat):8≤tB n:=by
 cases n with
 |zero=>exact W11 _
 |succ n=>show 8≤4*tB n+24;lia
theorem Tm.len{sc:List Str}{n:Nat}{t:D}{s:Str}(h:Tm sc n t s):s.length≤tB n:=by
 induction h with
 |leaf n x hx=>exact Y14 (dR hx).2.1 (Vb n)
 |form0 n w hw=>exact Y14 (Bc hw) (Vb n)
 |form n w ps s hw h0 h4 _ hs ih=>
  have h1:=mE (b:=tB n) (ps.map (·.2)) (by intro t ht;obtain⟨q,hq,rfl⟩:=V17.mp ht;exact ih q hq);rw[←hs,bM,U12]at h1;have h2:=Bc hw;have h3:ps.length*(tB n+2)≤4*(tB n+2):=W15 _ h4;rw[len_app,len_app,len_app,show("(":Str).length=1 from rfl,show(")":Str).length=1 from rfl];show _≤4*tB n+24
  lia
 |call n w ps s hw h4 _ hs ih=>
  have h1:=mE (b:=tB n) (ps.map (·.2)) (by intro t ht;obtain⟨q,hq,rfl⟩:=V17.mp ht;exact ih q hq);rw[←hs,bM,U12]at h1;have h2:=(dR hw).2.1;have h3:ps.length*(tB n+2)≤4*(tB n+2):=W15 _ h4;rw[len_app,len_app,len_app,show("(":Str).length=1 from rfl,show(")":Str).length=1 from rfl];show _≤4*tB n+24
  lia
section
variable{st:Sto}{p:Nat}
theorem jH{c:Sto→Prop}{te:En→M D}{cap:En}{f:D→D}(hc:c st):∀(xs acc:List D),(∀x∈xs,te ([some x]++cap) st=some (f x,st))→aY c bd1 (fun _=>L2.ret true) te cap xs acc st=some (acc++xs.map f,st)
 |[],acc,_=>by rw[aY,aS hc];simp
 |x::xs,acc,h=>by
  have ih:=jH hc xs (acc++[f x]) fun y hy=>h y (U11 _ hy);rw[aY,aS hc];show(bnd (L2.ret true) fun b=>if b=true then bnd (te ([some x]++cap)) fun z=>aY c bd1 (fun _=>L2.ret true) te cap xs (acc++[z]) else _) st=_;rw[aR (show(L2.ret true:M Bool) st=some (true,st) from rfl),if_pos rfl,aR (h x (by simp)),ih];simp
theorem yR{P:D→Str→Prop}:∀{zs:List D},(∀z∈zs,∃t s,z=.t [t,.s s]∧P t s)→∃ps:List (D×Str),zs=ps.map rP∧∀q∈ps,P q.1 q.2
 |[],_=>⟨[],rfl,by simp⟩
 |z::zs,h=>by
  obtain⟨t,s,rfl,hp⟩:=h z (by simp);obtain⟨ps,rfl,h2⟩:=yR fun y hy=>h y (U11 _ hy);refine⟨(t,s)::ps,rfl,fun q hq=>?_⟩;rcases Z13.mp hq with rfl|hq
  ·exact hp
  ·exact h2 q hq
def CJ(g:List D→M D)(n:Nat):Prop:=∀(p l:Nat) (sc:List Str) (st:Sto),Sd p st→st[l]?=some (.l (sc.map D.s))→l≠p→sc.length≤100→(∀x∈sc,iY x=true)→∃t s st',g [.r p,.i (n:Nat),.r l] st=some (.t [t,.s s],st')∧Tm sc n t s∧Av p st st'
theorem vZ:∀ts:List Str,(ts.map (·.length)).sum≤(jn (cp ", ") ts).length
 |[]=>by simp
 |[x]=>by simp only[jn,bM,Z12,W21,List.sum_cons,List.sum_nil];omega
 |x::y::r=>by
  have ih:=vZ (y::r);simp only[jn,V12,bM,Z12,List.sum_cons]at ih⊢
  omega
theorem at3(st:Sto)(a b c:C):(st++[a]++[b]++[c])[st.length+1+1]?=some c:=by
 rw[show st.length+1+1=(st++[a]++[b]).length by simp];exact Y13
theorem Bd{g:List D→M D}{n k l:Nat}{sc:List Str}(hg:CJ g n)(hn:n≤5)(h:Sd p st)(hl:st[l]?=some (.l (sc.map D.s)))(hlp:l≠p)(hsc:sc.length≤100)(hns:∀x∈sc,iY x=true)(hk:k≤4):
  ∃(ps:List (D×Str)) (s:Str) (st':Sto),aL 5 4 (aU g) [.r p,.i (n:Nat),.r l,.i (k:Nat)] st=some (.t [.t (ps.map (·.1)),.s s],st')∧ps.length=k∧(∀q∈ps,Tm sc n q.1 q.2)∧cp s=jn (cp ", ") (ps.map (·.2))∧Av p st st':=by
 obtain⟨zs,st1,h1,a1,h3,h4⟩:=rM (c:=fun _=>True) (bd:=bd1) (te:=aM g (aC (eV 3) (aC (eV 1) (aC (eV 2) aN)))) (cap:=[some (.i (n:Nat)),some (.r l),some (.r p)]) (I:=fun s=>Av p st s) (P:=fun z=>∃t s,z=.t [t,.s s]∧Tm sc n t s) ((List.range' 0 k).map fun j:Nat=>D.i (j:Nat)) [] st (by
  intro x hx s a;obtain⟨t,u,s1,e1,e2,e3⟩:=hg p l sc s a.sd (a.kp _ _ hlp hl) hlp hsc hns;exact⟨[x],.t [t,.s u],s1,rfl,by simp[e1],⟨t,u,rfl,e2⟩,a.trans e3⟩) (fun _ _=>trivial) (.refl h)
 obtain⟨ps,rfl,hps⟩:=yR h3;simp only[U12,List.length_range']at h4;obtain⟨s,hs⟩:∃s:Str,cp s=jn (cp ", ") (ps.map (·.2)):=⟨⟨(jn (cp ", ") (ps.map (·.2))).toArray⟩,by simp⟩;have hT:tB n≤20000:=by
  have:∀n,n≤5→tB n≤20000:=by decide
  exact this n hn
 have hjl:(jn (cp ", ") (ps.map (·.2))).length≤90000:=by
  have h1:=mE (b:=tB n) (ps.map (·.2)) (by intro t ht;obtain⟨q,hq,rfl⟩:=V17.mp ht;exact(hps q hq).len);rw[U12,h4]at h1;have h3:k*(tB n+2)≤4*(tB n+2):=W15 _ hk
  omega
 have hsum:=vZ (ps.map (·.2));rw[W13]at h1
 let f1:D→D:=fun z=>match z with |.t (a::_)=>a|_=>.no
 let f2:D→D:=fun z=>match z with |.t [_,b]=>b|_=>.no
 have m1:(ps.map rP).map f1=ps.map (·.1):=by rw[V42];rfl
 have m2:(ps.map rP).map f2=(ps.map (·.2)).map D.s:=by rw[V42,V42];rfl
 have c1:∀S:Sto,S[st1.length]?=some (.l (ps.map rP))→aY (fun st=>st[st1.length]?=some (.l (ps.map rP))) bd1 (fun _=>L2.ret true) (bL (eV 0) (eC (.i 0))) [] (ps.map rP) [] S=some (ps.map (·.1),S):=fun S hS=>by
  rw[jH (f:=f1) hS _ _ (by
   intro x hx;obtain⟨q,_,rfl⟩:=V17.mp hx
   rfl),m1,W13]
 have c2:∀S:Sto,S[st1.length]?=some (.l (ps.map rP))→aY (fun st=>st[st1.length]?=some (.l (ps.map rP))) bd1 (fun _=>L2.ret true) (bL (eV 0) (eC (.i 1))) [] (ps.map rP) [] S=some ((ps.map (·.2)).map D.s,S):=fun S hS=>by
  rw[jH (f:=f2) hS _ _ (by
   intro x hx;obtain⟨q,_,rfl⟩:=V17.mp hx
   rfl),m2,W13]
 have hr:=rng (m:=k) (st:=st) (by omega);have hz:((List.range' 0 k).map fun j:Nat=>D.i (j:Nat)).length<sizeLine:=by rw[Y12];simp;omega
 have hz2:(ps.map rP).length<sizeLine:=by rw[Y12];simp;omega
 have hz3:(ps.map (·.1)).length<sizeLine:=by rw[Y12];simp;omega
 have i1:∀S:Sto,S[st1.length]?=some (.l (ps.map rP))→yZ (.r st1.length) S=some ((ps.map rP,fun st=>st[st1.length]?=some (.l (ps.map rP))),S):=fun S hS=>by
  show bnd (getL st1.length) _ S=_;rw[aR (dS hS)]
  rfl
 have q1:(st1++[C.l (ps.map rP)])[st1.length]?=some (.l (ps.map rP)):=by simp
 have q2:(st1++[C.l (ps.map rP)]++[.l (ps.map (·.1))])[st1.length]?=some (.l (ps.map rP)):=by simp
 have hj:iH (.s ", ") [.r (st1.length+1+1)] (st1++[C.l (ps.map rP)]++[.l (ps.map (·.1))]++[.l ((ps.map (·.2)).map D.s)])=some (.s s,st1++[C.l (ps.map rP)]++[.l (ps.map (·.1))]++[.l ((ps.map (·.2)).map D.s)]):=pN (at3 _ _ _ _) hs.symm (by rw[U12,h4,show(", ":Str).length=2 from rfl];omega);refine⟨ps,s,st1++[C.l (ps.map rP)]++[.l (ps.map (·.1))]++[.l ((ps.map (·.2)).map D.s)],?_,h4,hps,hs,((a1.ext (Ext.app _ _)).ext (Ext.app _ _)).ext (Ext.app _ _)⟩;have d1:=c1 _ q1;have d2:=c2 _ q2;have j1:=i1 _ q1;have j2:=i1 _ q2;have ht:xT [.r (st1.length+1)] (st1++[C.l (ps.map rP)]++[.l (ps.map (·.1))])=some (.t (ps.map (·.1)),st1++[C.l (ps.map rP)]++[.l (ps.map (·.1))]):=Kj (by simp);clear c1 c2 i1 m1 m2;generalize ps.map rP=Z at *;generalize ps.map (·.1)=Y at *;generalize (ps.map (·.2)).map D.s=W at *;generalize ((List.range' 0 k).map fun j:Nat=>D.i (j:Nat))=R at *;simp only[W10,U18,W13]at d1 d2 j1 j2 ht hj⊢;simp[aU,-hZ,hr,h1,hz,hz2,hz3,iD,d1,d2,j1,j2,ht,hj]
end
section
variable {l:Nat}{xs:List D}
variable{st:Sto}{p:Nat}
@[simp] theorem int2_t:lT [.b true] st=some (.i 1,st):=rfl
@[simp] theorem int2_f:lT [.b false] st=some (.i 0,st):=rfl
@[simp] theorem ix0{a b:D}:jO (.r st.length) (.i 0) (st++[.l [a,b]])=some (a,st++[.l [a,b]]):=by
 rw[gI (Y13)];rfl
@[simp] theorem ix1{a b:D}:jO (.r st.length) (.i 1) (st++[.l [a,b]])=some (b,st++[.l [a,b]]):=by
 rw[gI (Y13)];rfl
theorem Vc(h:st[l]?=some (.l xs)):lsc st l=some xs:=by
 unfold lsc;rw[h]
theorem ne_nil{l':Nat}(h:st[l]?=some (.l xs))(h':st[l']?=some (.l [])):Of (.r l) (.r l') st=some (.b (!xs.isEmpty),st):=by
 have e:deq st (.r l) (.r l')=some xs.isEmpty:=by
  show((lsc st l).bind fun xs=>(lsc st l').bind fun ys=>Qv xs ys)=_;rw[Vc h,Vc h']
  rfl
 unfold Of;rw[e]
def F:Nat→List D→M D
 |0=>fun _=>bad
 |n+1=>aL 8 3 (aO (aL 5 4 (aU (F n))))
theorem BJ{g:List D→M D}{n:Nat}(hg:∀m,n=m+1→CJ g m)(hn:n≤5):CJ (aL 8 3 (aO (aL 5 4 (aU g)))) n:=by
 intro p l sc st h hl hlp hsc hns;have hM:∃M:Nat,(4≤M∧M≤6∧(n=0→M=4))∧(4:Int)+2*(if 0<n then 1 else 0)=(M:Nat):=by
  by_cases h0:n=0
  ·subst h0;exact⟨4,by lia,by decide⟩
  ·exact⟨6,by lia,by rw[if_pos (by lia)];rfl⟩
 obtain⟨M,⟨hM4,hM6,hM0⟩,hMe⟩:=hM;obtain⟨d,st1,e1,hd,a1⟩:=eM (n:=M) h (by lia) (by lia);have hl1:=a1.kp _ _ hlp hl;have hq:lT [.b (decide (0<n))] st=some (.i (if 0<n then 1 else 0),st):=by
  by_cases h0:0<n
  ·rw[Y33 h0,if_pos h0];rfl
  ·rw[W19 h0,if_neg h0];rfl
 generalize hif:(if 0<n then(1:Int) else 0)=iv at hMe hq;have hml:CMul 2 iv:=.inl ⟨by decide,by decide⟩;have key:d=0∨d=1∨d=2∨d=3∨d=4∨d=5:=by lia
 rcases key with rfl|rfl|rfl|rfl|rfl|rfl
 ·obtain⟨w,st2,e2,hw,a2⟩:=jV a1.sd;have hl2:=a2.kp _ _ hlp hl1;have e3:=pO (x:=w) hl2 (by lia);refine⟨iB sc w,w,st2,?_,.leaf n w hw,a1.trans a2⟩;simp[aO,hq,hml,hMe,e1,e2,e3]
 ·have x1:Ext st1 (st1++[.l []]):=Ext.app _ _;have hl2:=x1 _ _ hl1;have hne:=ne_nil (l:=l) (l':=st1.length) (xs:=sc.map D.s) (st:=st1++[.l []]) hl2 (by simp);cases hsc0:sc with
  |nil=>
   subst hsc0;obtain⟨w,st2,e2,hw,a2⟩:=jV (a1.ext x1).sd;have e3:=pO (x:=w) (a2.kp _ _ hlp hl2) (by simp);refine⟨iB [] w,w,st2,?_,.leaf n w hw,(a1.ext x1).trans a2⟩;simp only[W21,List.isEmpty_nil,Bool.not_true]at hne;simp[aO,hq,hml,hMe,e1,e2,e3,hne]
  |cons c0 cs=>
   rw[←hsc0];have hpos:0<sc.length:=by rw[hsc0];simp
   have hemp:(!(sc.map D.s).isEmpty)=true:=by rw[hsc0];rfl
   rw[hemp]at hne;have hlen:bZ [.r l] (st1++[.l []])=some (.i (sc.length:Nat),st1++[.l []]):=by rw[qX hl2,U12]
   obtain⟨j,st2,e2,hj,a2⟩:=eM (n:=sc.length) (a1.ext x1).sd hpos (by lia);have hl3:=a2.kp _ _ hlp hl2;have hi:jO (.r l) (.i (j:Nat)) st2=some (.s (sc.getD j ""),st2):=by
    rw[gI hl3,BH hj]
    rfl
   have hw:iY (sc.getD j "")=true:=hns _ (by
    rw[W18,U13 hj];exact List.getElem_mem hj)
   have e3:=pO (x:=sc.getD j "") hl3 (by lia);refine⟨iB sc (sc.getD j ""),sc.getD j "",st2,?_,.leaf n _ hw,(a1.ext x1).trans a2⟩;generalize sc.getD j ""=w at *;simp[aO,hq,hml,hMe,e1,e2,e3,hne,hlen,hi]
 ·obtain⟨w,st2,e2,hw,a2⟩:=jV a1.sd;have hl2:=a2.kp _ _ hlp hl1;have e3:=pO (x:=w) hl2 (by lia);refine⟨iB sc w,w,st2,?_,.leaf n w hw,a1.trans a2⟩;simp[aO,hq,hml,hMe,e1,e2,e3]
 ·obtain⟨w,st2,e2,hw,a2⟩:=kW a1.sd;refine⟨.t [.s "form",.s w,.t []],w,st2,?_,.form0 n w hw,a1.trans a2⟩;simp[aO,hq,hml,hMe,e1,e2]
 ·obtain⟨m,rfl⟩:∃m,n=m+1:=⟨n-1,by have:=hM0;lia⟩;rw[if_pos (by lia)]at hif;subst hif;obtain rfl:M=6:=by lia
  have e1':aB [.r p,.i 6] st=some (.i 4,st1):=e1;obtain⟨k0,st2,e2,hk0,a2⟩:=eM (n:=4) a1.sd (by lia) (by lia);have e2':aB [.r p,.i 4] st1=some (.i (k0:Nat),st2):=e2;have hl2:=a2.kp _ _ hlp hl1;obtain⟨ps,s,st3,e3,hk,hps,hs,a3⟩:=Bd (k:=1+k0) (hg m rfl) (by lia) a2.sd hl2 hlp hsc hns (by lia);rw[show(((1+k0:Nat)):Int)=1+(k0:Nat) by simp]at e3;have x3:Ext st3 (st3++[.l [.s "form",.s "call"]]):=Ext.app _ _;obtain⟨w1,st4,e4,hw1,a4⟩:=kW (a3.ext x3).sd;obtain⟨w2,st5,e5,hw2,a5⟩:=jV a4.sd;have x5:Ext st5 (st5++[.l [.s w1,.s w2]]):=Ext.app _ _;have hT:tB (m+1)≤20000:=by
   have:∀n,n≤5→tB n≤20000:=by decide
   exact this _ hn
  have tm:Tm sc (m+1) (.t [.s "form",.s w1,.t (ps.map (·.1))]) (w1++("(":Str)++s++(")":Str)):=.form m w1 ps s hw1 (by lia) (by lia) hps hs;have ln:=tm.len;rw[len_app,len_app,len_app]at ln;have n1:w1.length+("(":Str).length≤sizeLine:=by rw[Y12];lia
  have n2:(w1++("(":Str)).length+s.length≤sizeLine:=by rw[Y12,len_app];lia
  have n3':(w1++("(":Str)++s).length+(")":Str).length≤sizeLine:=by rw[Y12,len_app,len_app];lia
  have z2:2≤sizeLine:=by rw[Y12];decide
  refine⟨_,_,st5++[.l [.s w1,.s w2]],?_,tm,((((a1.trans a2).trans a3).ext x3).trans (a4.trans a5)).ext x5⟩;generalize ps.map (·.1)=Y at *;generalize aL 5 4 (aU g)=ga at e3⊢;simp[aO,hml,e1',e2',e3,e4,e5,aF n1,aF n2,aF n3',aF z2]
 ·obtain⟨m,rfl⟩:∃m,n=m+1:=⟨n-1,by have:=hM0;lia⟩;rw[if_pos (by lia)]at hif;subst hif;obtain rfl:M=6:=by lia
  have e1':aB [.r p,.i 6] st=some (.i 5,st1):=e1;obtain⟨k0,st2,e2,hk0,a2⟩:=eM (n:=5) a1.sd (by lia) (by lia);have e2':aB [.r p,.i 5] st1=some (.i (k0:Nat),st2):=e2;have hl2:=a2.kp _ _ hlp hl1;obtain⟨ps,s,st3,e3,hk,hps,hs,a3⟩:=Bd (k:=k0) (hg m rfl) (by lia) a2.sd hl2 hlp hsc hns (by lia);have x3:Ext st3 (st3++[.l [.s "form",.s "call"]]):=Ext.app _ _;obtain⟨w1,st4,e4,hw1,a4⟩:=kW (a3.ext x3).sd;obtain⟨w2,st5,e5,hw2,a5⟩:=jV a4.sd;have x5:Ext st5 (st5++[.l [.s w1,.s w2]]):=Ext.app _ _;have hT:tB (m+1)≤20000:=by
   have:∀n,n≤5→tB n≤20000:=by decide
   exact this _ hn
  have tm:Tm sc (m+1) (.t [.s "call",.s w2,.t (ps.map (·.1))]) (w2++("(":Str)++s++(")":Str)):=.call m w2 ps s hw2 (by lia) hps hs;have ln:=tm.len;rw[len_app,len_app,len_app]at ln;have n1:w2.length+("(":Str).length≤sizeLine:=by rw[Y12];lia
  have n2:(w2++("(":Str)).length+s.length≤sizeLine:=by rw[Y12,len_app];lia
  have n3':(w2++("(":Str)++s).length+(")":Str).length≤sizeLine:=by rw[Y12,len_app,len_app];lia
  have z2:2≤sizeLine:=by rw[Y12];decide
  refine⟨_,_,st5++[.l [.s w1,.s w2]],?_,tm,((((a1.trans a2).trans a3).ext x3).trans (a4.trans a5)).ext x5⟩;generalize ps.map (·.1)=Y at *;generalize aL 5 4 (aU g)=ga at e3⊢;simp[aO,hml,e1',e2',e3,e4,e5,aF n1,aF n2,aF n3',aF z2]
end
theorem Tq:∀k n,n<k→n≤5→CJ (F k) n
 |0,_,h,_=>by lia
 |k+1,n,h,h5=>BJ (fun m e=>Tq k m (by lia) (by lia)) h5
def jws:List (Str×Str):=[("and"," and "),("or"," or "),("if"," -> ")]
def bws:List Str:=["all","some"]
inductive Stm:List Str→Nat→D→Str→Prop where
 |fal (sc:List Str) (n:Nat):Stm sc n (.t [.s "false"]) "false"
 |same (sc:List Str) (n:Nat) (a b:D) (s u:Str):Tm sc 2 a s→Tm sc 2 b u→Stm sc n (.t [.s "same",a,b]) (s++(" = ":Str)++u)
 |atom (sc:List Str) (n:Nat) (w:Str) (ps:List (D×Str)) (s:Str):iY w=true→ps.length≤4→(∀q∈ps,Tm sc 2 q.1 q.2)→cp s=jn (cp ", ") (ps.map (·.2))→Stm sc n (.t [.s "atom",.s w,.t (ps.map (·.1))]) (w++("(":Str)++s++(")":Str))
 |join (sc:List Str) (n:Nat) (k sg:Str) (A B:D) (s u:Str):(k,sg)∈jws→Stm sc n A s→Stm sc n B u→Stm sc (n+1) (.t [.s k,A,B]) (("(":Str)++s++sg++u++(")":Str))
 |bind (sc:List Str) (n:Nat) (w x K:Str) (A:D) (s:Str):w∈bws→iY x=true→iY K=true→Stm (sc++[x]) n A s→Stm sc (n+1) (.t [.s w,.s K,A]) (w++(" ":Str)++x++(" ":Str)++K++(": ":Str)++s)
def sB:Nat→Nat
 |0=>1100
 |n+1=>2*sB n+40
theorem Dq(n:Nat):1100≤sB n:=by
 cases n with
 |zero=>exact W11 _
 |succ n=>have:=Dq n;show 1100≤2*sB n+40;lia
theorem Stm.len{sc:List Str}{n:Nat}{t:D}{s:Str}(h:Stm sc n t s):s.length≤sB n:=by
 induction h with
 |fal sc n=>exact Y14 (by decide) (Dq n)
 |same sc n a b s u h1 h2=>
  have l1:=h1.len;have l2:=h2.len;have l3:tB 2=248:=rfl;have:=Dq n;rw[len_app,len_app,show(" = ":Str).length=3 from rfl]
  lia
 |atom sc n w ps s hw h4 h hs=>
  have h1:=mE (b:=tB 2) (ps.map (·.2)) (by intro t ht;obtain⟨q,hq,rfl⟩:=V17.mp ht;exact(h q hq).len);rw[←hs,bM,U12]at h1;have h2:=(dR hw).2.1;have h3:ps.length*(tB 2+2)≤4*(tB 2+2):=W15 _ h4;have l3:tB 2=248:=rfl;have:=Dq n;rw[len_app,len_app,len_app,show("(":Str).length=1 from rfl,show(")":Str).length=1 from rfl]
  lia
 |join sc n k sg A B s u hk _ _ ih1 ih2=>
  have hs:∀q∈jws,q.2.length≤5:=by decide
  have:=hs _ hk;rw[len_app,len_app,len_app,len_app,show("(":Str).length=1 from rfl,show(")":Str).length=1 from rfl];show _≤2*sB n+40;dsimp only at this
  lia
 |bind sc n w x K A s hw hx hK _ ih=>
  have hs:∀q∈bws,q.length≤4:=by decide
  have:=hs _ hw;have h1:=(dR hx).2.1;have h2:=(dR hK).2.1;rw[len_app,len_app,len_app,len_app,len_app,len_app,show(" ":Str).length=1 from rfl,show(": ":Str).length=2 from rfl];show _≤2*sB n+40
  lia
section
variable{st:Sto}{p:Nat}
def JQ(g:List D→M D)(n:Nat):Prop:=∀(p l:Nat) (sc:List Str) (st:Sto),Sd p st→st[l]?=some (.l (sc.map D.s))→l≠p→sc.length+n≤100→(∀x∈sc,iY x=true)→∃t s st',g [.r p,.i (n:Nat),.r l] st=some (.t [t,.s s],st')∧Stm sc n t s∧Av p st st'
theorem in17{d:Nat}(h:d<8):inD (.i (d:Nat)) (.t [.i 1,.i 7]) st=some (.b (d==1 || d==7),st):=by
 have:d=0∨d=1∨d=2∨d=3∨d=4∨d=5∨d=6∨d=7:=by lia
 rcases this with rfl|rfl|rfl|rfl|rfl|rfl|rfl|rfl<;>rfl
theorem JR{xs:List D}{k:Nat}{x:D}(h:xs[k]?=some x):jO (.r st.length) (.i (k:Nat)) (st++[.l xs])=some (x,st++[.l xs]):=by
 rw[gI (Y13),fS h]
 rfl
theorem lenj{a b:Str}(h:(a++b).length≤100000):a.length+b.length≤sizeLine:=by rw[len_app]at h;rw[Y12];lia
theorem lenl{a b:Str}(h:(a++b).length≤100000):a.length≤100000:=by rw[len_app]at h;lia
theorem mF:∀n,n≤5→sB n≤100000:=by decide
theorem GD{g:List D→M D}{n:Nat}(hg:∀m,n=m+1→JQ g m)(hn:n≤5):JQ (aL 15 3 (aK g)) n:=by
 intro p l sc st h hl hlp hsc hns;have hM:∃M:Nat,(3≤M∧M≤8∧(n=0→M=3))∧(3:Int)+5*(if 0<n then 1 else 0)=(M:Nat):=by
  by_cases h0:n=0
  ·subst h0;exact⟨3,by lia,by decide⟩
  ·exact⟨8,by lia,by rw[if_pos (by lia)];rfl⟩
 obtain⟨M,⟨hM4,hM6,hM0⟩,hMe⟩:=hM;obtain⟨d,st1,e1,hd,a1⟩:=eM (n:=M) h (by lia) (by lia);have hl1:=a1.kp _ _ hlp hl;have hq:lT [.b (decide (0<n))] st=some (.i (if 0<n then 1 else 0),st):=by
  by_cases h0:0<n
  ·rw[Y33 h0,if_pos h0];rfl
  ·rw[W19 h0,if_neg h0];rfl
 generalize hif:(if 0<n then(1:Int) else 0)=iv at hMe hq;have hml:CMul 5 iv:=.inl ⟨by decide,by decide⟩;have hi17:∀st,inD (.i (d:Nat)) (.t [.i 1,.i 7]) st=some (.b (d==1 || d==7),st):=fun st=>in17 (by lia);have hT:CJ bU 2:=Tq 5 2 (by lia) (by lia);have hT4:CJ fU 2:=Tq 4 2 (by lia) (by lia);have hBn:=mF n hn;have hsame:∃a b s u st',bU [.r p,.i 2,.r l] st1=some (.t [a,.s s],st')∧∃st'',bU [.r p,.i 2,.r l] st'=some (.t [b,.s u],st'')∧Stm sc n (.t [.s "same",a,b]) (s++(" = ":Str)++u)∧Av p st1 st'':=by
  obtain⟨a,s,st2,t1,t2,t3⟩:=hT p l sc st1 a1.sd hl1 hlp (by lia) hns;obtain⟨b,u,st3,u1,u2,u3⟩:=hT p l sc st2 t3.sd (t3.kp _ _ hlp hl1) hlp (by lia) hns;exact⟨a,b,s,u,st2,t1,st3,u1,.same sc n a b s u t2 u2,t3.trans u3⟩
 have hjoin:d=3∨d=4→∃t s st',aL 15 3 (aK g) [.r p,.i (n:Nat),.r l] st=some (.t [t,.s s],st')∧Stm sc n t s∧Av p st st':=by
  intro hd34;obtain⟨m,rfl⟩:∃m,n=m+1:=⟨n-1,by have:=hM0;lia⟩;rw[if_pos (by lia)]at hif;subst hif;obtain rfl:M=8:=by lia
  obtain⟨k,st2,e2,hk,a2⟩:=eM (n:=3) a1.sd (by lia) (by lia);have e2':aB [.r p,.i 3] st1=some (.i (k:Nat),st2):=e2;have hl2:=a2.kp _ _ hlp hl1;obtain⟨A,s,st3,t1,t2,t3⟩:=hg m rfl p l sc st2 a2.sd hl2 hlp (by lia) hns;obtain⟨B,u,st4,u1,u2,u3⟩:=hg m rfl p l sc st3 t3.sd (t3.kp _ _ hlp hl2) hlp (by lia) hns;obtain⟨kw,sg,hm,hx,hy⟩:∃kw sg,(kw,sg)∈jws∧([.s "and",.s "or",.s "if"]:List D)[k]?=some (.s kw)∧([.s " and ",.s " or ",.s " -> "]:List D)[k]?=some (.s sg):=by
   have:k=0∨k=1∨k=2:=by lia
   rcases this with rfl|rfl|rfl
   ·exact⟨"and"," and ",by simp[jws],rfl,rfl⟩
   ·exact⟨"or"," or ",by simp[jws],rfl,rfl⟩
   ·exact⟨"if"," -> ",by simp[jws],rfl,rfl⟩
  have sm:Stm sc (m+1) (.t [.s kw,A,B]) (("(":Str)++s++sg++u++(")":Str)):=.join sc m kw sg A B s u hm t2 u2;have i1:=JR (st:=st4) hx;have i2:=JR (st:=st4++[.l [.s "and",.s "or",.s "if"]]) hy;refine⟨_,_,st4++[.l [.s "and",.s "or",.s "if"]]++[.l [.s " and ",.s " or ",.s " -> "]],?_,sm,(((a1.trans a2).trans (t3.trans u3)).ext (Ext.app _ _)).ext (Ext.app _ _)⟩;have ln:=Y14 sm.len hBn;have n4:=lenj ln;have n3':=lenj (lenl ln);have n2:=lenj (lenl (lenl ln));have n1:=lenj (lenl (lenl (lenl ln)));have hi:=hi17 st1;have z3:3≤sizeLine:=by rw[Y12];decide
  clear hsame;generalize kw=kw at *;simp only[V12,Z14,Y25,Z38,W10,U18,W13]at i1 i2⊢;rcases hd34 with rfl|rfl
  ·have e1':aB [.r p,.i 8] st=some (.i 3,st1):=e1;simp at hi;simp[aK,hml,e1',hi,e2',t1,u1,i1,i2,aF n1,aF n2,aF n3',aF n4,aF z3]
  ·have e1':aB [.r p,.i 8] st=some (.i 4,st1):=e1;simp at hi;simp[aK,hml,e1',hi,e2',t1,u1,i1,i2,aF n1,aF n2,aF n3',aF n4,aF z3]
 have hbind:d=5∨d=6→∃t s st',aL 15 3 (aK g) [.r p,.i (n:Nat),.r l] st=some (.t [t,.s s],st')∧Stm sc n t s∧Av p st st':=by
  intro hd56;obtain⟨m,rfl⟩:∃m,n=m+1:=⟨n-1,by have:=hM0;lia⟩;rw[if_pos (by lia)]at hif;subst hif;obtain rfl:M=8:=by lia
  have x1:Ext st1 (st1++[.l [.s "all",.s "some"]]):=Ext.app _ _;obtain⟨k,st2,e2,hk,a2⟩:=eM (n:=2) (a1.ext x1).sd (by lia) (by lia);have e2':aB [.r p,.i 2] (st1++[.l [.s "all",.s "some"]])=some (.i (k:Nat),st2):=e2;have hp:=a1.sd.lt;have hc2:st2[st1.length]?=some (.l [.s "all",.s "some"]):=a2.kp _ _ (by lia) (by simp);obtain⟨w,hw,hwi⟩:∃w,w∈bws∧jO (.r st1.length) (.i (k:Nat)) st2=some (.s w,st2):=by
   have:k=0∨k=1:=by lia
   rw[gI hc2];rcases this with rfl|rfl
   ·exact⟨"all",by simp[bws],rfl⟩
   ·exact⟨"some",by simp[bws],rfl⟩
  have hl2:=a2.kp _ _ hlp (x1 _ _ hl1);obtain⟨x,st3,e3,hx,a3⟩:=jV a2.sd;obtain⟨K,st4,e4,hK,a4⟩:=jV a3.sd;have hl4:=a4.kp _ _ hlp (a3.kp _ _ hlp hl2);have x5:Ext st4 (st4++[.l [.s x]]++[.l (sc.map D.s++[.s x])]):=(Ext.app _ _).trans (Ext.app _ _);have had:aI (.r l) (.r st4.length) (st4++[.l [.s x]])=some (.r (st4.length+1),st4++[.l [.s x]]++[.l (sc.map D.s++[.s x])]):=by
   rw[eQ (Ext.app st4 [.l [.s x]] _ _ hl4) (Y13) (by rw[Y12];simp;lia)];simp
  have a04:=((a1.ext x1).trans (a2.trans (a3.trans a4))).ext x5;obtain⟨A,s,st5,t1,t2,t3⟩:=hg m rfl p (st4.length+1) (sc++[x]) _ a04.sd (by rw[Y19];exact(by rw[show st4.length+1=(st4++[C.l [.s x]]).length by simp];exact Y13)) (by have:=(a1.ext x1).sd.lt;have:=a4.sd.lt;lia) (by simp;lia) (by
   intro y hy;rcases Z21.mp hy with hy|hy
   ·exact hns y hy
   ·rw[Y15.mp hy];exact hx)
  have sm:Stm sc (m+1) (.t [.s w,.s K,A]) (w++(" ":Str)++x++(" ":Str)++K++(": ":Str)++s):=.bind sc m w x K A s hw hx hK t2;refine⟨_,_,st5,?_,sm,a04.trans t3⟩;have ln:=Y14 sm.len hBn;have n6:=lenj ln;have n5:=lenj (lenl ln);have n4:=lenj (lenl (lenl ln));have n3':=lenj (lenl (lenl (lenl ln)));have n2:=lenj (lenl (lenl (lenl (lenl ln))));have n1:=lenj (lenl (lenl (lenl (lenl (lenl ln)))));have hi:=hi17 st1;have z2:2≤sizeLine:=by rw[Y12];decide
  clear hsame hjoin;simp only[W10,U18,W13]at had t1;rcases hd56 with rfl|rfl
  ·have e1':aB [.r p,.i 8] st=some (.i 5,st1):=e1;simp at hi;simp[aK,hml,e1',hi,e2',hwi,e3,e4,had,t1,aF n1,aF n2,aF n3',aF n4,aF n5,aF n6,aF z2]
  ·have e1':aB [.r p,.i 8] st=some (.i 6,st1):=e1;simp at hi;simp[aK,hml,e1',hi,e2',hwi,e3,e4,had,t1,aF n1,aF n2,aF n3',aF n4,aF n5,aF n6,aF z2]
 have key:d=0∨d=1∨d=2∨d=3∨d=4∨d=5∨d=6∨d=7:=by lia
 rcases key with rfl|rfl|rfl|rfl|rfl|rfl|rfl|rfl
 ·exact⟨.t [.s "false"],"false",st1,by simp[aK,hq,hml,hMe,e1],.fal sc n,a1⟩
 ·obtain⟨a,b,s,u,st2,t1,st3,t2,sm,av⟩:=hsame;refine⟨_,_,st3,?_,sm,a1.trans av⟩;have ln:=Y14 sm.len hBn;have n2:=lenj ln;have n1:=lenj (lenl ln);have hi:=hi17 st1;simp at hi;simp[aK,hq,hml,hMe,e1,hi,t1,t2,aF n1,aF n2]
 ·obtain⟨w,st2,e2,hw,a2⟩:=jV a1.sd;obtain⟨k,st3,e3,hk,a3⟩:=eM (n:=5) a2.sd (by lia) (by lia);have e3':aB [.r p,.i 5] st2=some (.i (k:Nat),st3):=e3;have hl3:=a3.kp _ _ hlp (a2.kp _ _ hlp hl1);obtain⟨ps,s,st4,e4,hk4,hps,hs,a4⟩:=Bd (k:=k) hT4 (by lia) a3.sd hl3 hlp (by lia) hns (by lia);have e4':eE [.r p,.i 2,.r l,.i (k:Nat)] st3=some (.t [.t (ps.map (·.1)),.s s],st4):=e4;have sm:Stm sc n (.t [.s "atom",.s w,.t (ps.map (·.1))]) (w++("(":Str)++s++(")":Str)):=.atom sc n w ps s hw (by lia) hps hs;refine⟨_,_,st4,?_,sm,((a1.trans a2).trans a3).trans a4⟩;have ln:=Y14 sm.len hBn;have n3':=lenj ln;have n2:=lenj (lenl ln);have n1:=lenj (lenl (lenl ln));have hi:=hi17 st1;simp at hi;generalize ps.map (·.1)=Y at *;simp[aK,hq,hml,hMe,e1,hi,e2,e3',e4',aF n1,aF n2,aF n3']
 ·exact hjoin (.inl rfl)
 ·exact hjoin (.inr rfl)
 ·exact hbind (.inl rfl)
 ·exact hbind (.inr rfl)
 ·obtain⟨a,b,s,u,st2,t1,st3,t2,sm,av⟩:=hsame;refine⟨_,_,st3,?_,sm,a1.trans av⟩;have ln:=Y14 sm.len hBn;have n2:=lenj ln;have n1:=lenj (lenl ln);have hi:=hi17 st1;simp at hi;simp[aK,hq,hml,hMe,e1,hi,t1,t2,aF n1,aF n2]
theorem GF:∀k n,n<k→n≤5→JQ (bQ k) n
 |0,_,h,_=>by lia
 |k+1,n,h,h5=>GD (fun m e=>GF k m (by lia) (by lia)) h5
end
inductive Tw (m:Nat):Nat→D→List Str→Prop where
 |bnd (n k:Nat):k<m→Tw m n (.t [.s "bound",.i (k:Nat)]) []
 |fre (n:Nat) (x:Str):iY x=true→Tw m n (.t [.s "free",.s x]) [x]
 |form0 (n:Nat) (w:Str):wR w=true→Tw m n (.t [.s "form",.s w,.t []]) []
 |form (n:Nat) (w:Str) (ps:List (D×List Str)):wR w=true→0<ps.length→ps.length≤4→(∀q∈ps,Tw m n q.1 q.2)→Tw m (n+1) (.t [.s "form",.s w,.t (ps.map (·.1))]) (ps.flatMap (·.2))
 |call (n:Nat) (w:Str) (ps:List (D×List Str)):iY w=true→ps.length≤4→(∀q∈ps,Tw m n q.1 q.2)→Tw m (n+1) (.t [.s "call",.s w,.t (ps.map (·.1))]) (ps.flatMap (·.2))
inductive Sw:Nat→Nat→D→List Str→Prop where
 |fal (m n:Nat):Sw m n (.t [.s "false"]) []
 |same (m n:Nat) (a b:D) (L M:List Str):Tw m 2 a L→Tw m 2 b M→Sw m n (.t [.s "same",a,b]) (L++M)
 |atom (m n:Nat) (w:Str) (ps:List (D×List Str)):iY w=true→ps.length≤4→(∀q∈ps,Tw m 2 q.1 q.2)→Sw m n (.t [.s "atom",.s w,.t (ps.map (·.1))]) (ps.flatMap (·.2))
 |join (m n:Nat) (k sg:Str) (A B:D) (L M:List Str):(k,sg)∈jws→Sw m n A L→Sw m n B M→Sw m (n+1) (.t [.s k,A,B]) (L++M)
 |bind (m n:Nat) (w K:Str) (A:D) (L:List Str):w∈bws→iY K=true→Sw (m+1) n A L→Sw m (n+1) (.t [.s w,.s K,A]) L
theorem mG{α β:Type}{P:α→β→Prop}:∀(ts:List α),(∀t∈ts,∃b,P t b)→∃qs:List (α×β),qs.map (·.1)=ts∧∀q∈qs,P q.1 q.2
 |[],_=>⟨[],rfl,by simp⟩
 |t::ts,h=>by
  obtain⟨b,hb⟩:=h t (by simp);obtain⟨qs,h1,h2⟩:=mG ts fun y hy=>h y (U11 _ hy);refine⟨(t,b)::qs,by simp[h1],fun q hq=>?_⟩;rcases Z13.mp hq with rfl|hq
  ·exact hb
  ·exact h2 q hq
theorem kids{n m:Nat}{ps:List (D×Str)}{sc:List Str}(ih:∀q∈ps,∃L,Tw m n q.1 L):∃qs:List (D×List Str),qs.map (·.1)=ps.map (·.1)∧qs.length=ps.length∧∀q∈qs,Tw m n q.1 q.2:=by
 obtain⟨qs,h1,h2⟩:=mG (P:=fun t L=>Tw m n t L) (ps.map (·.1)) (by
  intro t ht;obtain⟨q,hq,rfl⟩:=V17.mp ht;exact ih q hq)
 exact⟨qs,h1,by have:=congrArg List.length h1;simpa using this,h2⟩
theorem Tm.tw{sc:List Str}{n:Nat}{t:D}{s:Str}(h:Tm sc n t s):∃L,Tw sc.length n t L:=by
 induction h with
 |leaf n x hx=>
  unfold iB
  split
  ·rename_i k e;have:=(Z30.mp e).1;exact⟨[],.bnd n k (by simpa using this)⟩
  ·exact⟨_,.fre n x hx⟩
 |form0 n w hw=>exact⟨_,.form0 n w hw⟩
 |form n w ps s hw h0 h4 _ _ ih=>
  obtain⟨qs,h1,h2,h3⟩:=kids (sc:=sc) ih;rw[←h1];exact⟨_,.form n w qs hw (by lia) (by lia) h3⟩
 |call n w ps s hw h4 _ _ ih=>
  obtain⟨qs,h1,h2,h3⟩:=kids (sc:=sc) ih;rw[←h1];exact⟨_,.call n w qs hw (by lia) h3⟩
theorem Stm.sw{sc:List Str}{n:Nat}{t:D}{s:Str}(h:Stm sc n t s):∃L,Sw sc.length n t L:=by
 induction h with
 |fal sc n=>exact⟨_,.fal _ n⟩
 |same sc n a b s u h1 h2=>
  obtain⟨L,hL⟩:=h1.tw;obtain⟨M,hM⟩:=h2.tw;exact⟨_,.same _ n a b L M hL hM⟩
 |atom sc n w ps s hw h4 h hs=>
  obtain⟨qs,h1,h2,h3⟩:=kids (sc:=sc) fun q hq=>(h q hq).tw;rw[←h1];exact⟨_,.atom _ n w qs hw (by lia) h3⟩
 |join sc n k sg A B s u hk _ _ ih1 ih2=>
  obtain⟨L,hL⟩:=ih1;obtain⟨M,hM⟩:=ih2;exact⟨_,.join _ n k sg A B L M hk hL hM⟩
 |bind sc n w x K A s hw hx hK _ ih=>
  obtain⟨L,hL⟩:=ih;rw[V12]at hL;exact⟨_,.bind _ n w K A L hw hK hL⟩
theorem kX{b:Nat}:∀(ps:List (D×List Str)),(∀q∈ps,q.2.length≤b)→(ps.flatMap (·.2)).length≤ps.length*b
 |[],_=>by simp
 |p::ps,h=>by
  have h1:=kX ps fun q hq=>h q (U11 _ hq);have h2:=h p (by simp);rw[U26,V12,Z14,Nat.add_mul,Nat.one_mul]
  lia
theorem Tw.len{m n:Nat}{t:D}{L:List Str}(h:Tw m n t L):L.length≤4^n:=by
 have hp:∀n,1≤4^n:=fun n=>Nat.one_le_pow _ _ (by decide)
 induction h with
 |bnd n k hk=>simp
 |fre n x hx=>exact hp n
 |form0 n w hw=>simp
 |form n w ps hw h0 h4 _ ih=>
  have:=kX ps ih;have h3:ps.length*4^n≤4*4^n:=W15 _ h4;rw[Nat.pow_succ];lia
 |call n w ps hw h4 _ ih=>
  have:=kX ps ih;have h3:ps.length*4^n≤4*4^n:=W15 _ h4;rw[Nat.pow_succ];lia
theorem Sw.len{m n:Nat}{t:D}{L:List Str}(h:Sw m n t L):L.length≤2^n*64:=by
 have hp:∀n,1≤2^n:=fun n=>Nat.one_le_pow _ _ (by decide)
 induction h with
 |fal m n=>simp
 |same m n a b L M h1 h2=>
  have:=h1.len;have:=h2.len;have:=hp n;rw[V12]
  lia
 |atom m n w ps hw h4 h=>
  have:=kX ps fun q hq=>(h q hq).len;have h3:ps.length*4^2≤4*4^2:=W15 _ h4;have:=hp n
  lia
 |join m n k sg A B L M hk _ _ ih1 ih2=>rw[V12,Nat.pow_succ];lia
 |bind m n w K A L hw hK _ ih=>rw[Nat.pow_succ];lia
def Frs(g:List D→M D)(d:D)(L:List Str):Prop:=∀st,∃l st',g [d] st=some (.r l,st')∧st'[l]?=some (.l (L.map D.s))∧Ext st st'
section
variable{st:Sto}{env:En}
@[simp] theorem isT_t{xs:List D}:bD [.t xs,.ty "tuple"] st=some (.b true,st):=rfl
@[simp] theorem isT_s{x:Str}:bD [.s x,.ty "tuple"] st=some (.b false,st):=by
 show(if("str":String)="tuple" then some (D.b true,st) else if(("str":String),"tuple")∈qQ then some (D.b false,st) else none)=_;rw[if_neg (by decide),if_pos (by decide)]
theorem mH{g:List D→M D}{t:D}:∀(qs:List (D×List Str)) (acc:List Str) (l:Nat) (e2:Option D) (st:Sto),
  (∀q∈qs,(∃xs,q.1=.t xs)∧Frs g q.1 q.2∨(∃x,q.1=.s x)∧q.2=[])→st[l]?=some (.l (acc.map D.s))→acc.length+(qs.flatMap (·.2)).length≤100000→
  ∃l' e' st',eK (fun _=>True) (gN 2) (sI (gE (aM bD (aC (eV 2) (aC (eC (.ty "tuple")) aN)))) (sA (aT aI (eV 1) (aM g (aC (eV 2) aN))) (gN 1)) sN) (qs.map (·.1)) [some t,some (.r l),e2] st=some ((.nx,[some t,some (.r l'),e']),st')∧st'[l']?=some (.l ((acc++qs.flatMap (·.2)).map D.s))∧Ext st st'
 |[],acc,l,e2,st,_,hl,_=>⟨l,e2,st,by rw[W21,eK,aS trivial];rfl,by simpa using hl,.refl _⟩
 |q::qs,acc,l,e2,st,h,hl,hb=>by
  rw[U26,V12]at hb;rcases h q (by simp) with⟨⟨xs,hx⟩,hf⟩|⟨⟨x,hx⟩,hf⟩
  ·obtain⟨l1,st1,f1,f2,f3⟩:=hf st;rw[hx]at f1;have had:=eQ (f3 _ _ hl) f2 (by rw[Y12];simp;lia);obtain⟨l',e',st',g1,g2,g3⟩:=mH (t:=t) qs (acc++q.2) st1.length (some (.t xs)) (st1++[.l (acc.map D.s++q.2.map D.s)]) (fun y hy=>h y (U11 _ hy)) (by rw[Y19];exact Y13) (by rw[V12];lia);refine⟨l',e',st',?_,by rw[g2,U26,W10],(f3.trans (Ext.app _ _)).trans g3⟩;rw[Z12,eK,aS trivial,hx];simp[f1,had,g1]
  ·obtain⟨l',e',st',g1,g2,g3⟩:=mH (t:=t) qs acc l (some (.s x)) st (fun y hy=>h y (U11 _ hy)) hl (by lia);refine⟨l',e',st',?_,by rw[g2,U26,hf];rfl,g3⟩;rw[Z12,eK,aS trivial,hx];simp[g1]
def jI(v:D):List (Key×D):=[(.inr "form",v),(.inr "call",v),(.inr "atom",v)]
theorem iC{g:List D→M D}{h:Str}{b c:D}{qs:List (D×List Str)}(h1:(h=="free")=false)(h2:inD (.s h) (.t [.s "bound",.s "false"])=fun st=>some (.b false,st))
  (hk:(hU (jI (.t [c])) (.inr h)).getD (.t [.t [b,c]])=.t [.t (qs.map (·.1))])(hq:∀q∈qs,(∃xs,q.1=.t xs)∧Frs g q.1 q.2∨(∃x,q.1=.s x)∧q.2=[])(hl:(qs.flatMap (·.2)).length≤100000):
  Frs (aL 3 1 (dF g)) (.t [.s h,b,c]) (qs.flatMap (·.2)):=by
 intro st;have hx:(st++[.l []]++[.d (jI (.t [c]))])[st.length]?=some (.l []):=by simp
 obtain⟨l',e',st',f1,f2,f3⟩:=mH (t:=.t [.s h,b,c]) qs [] st.length none (st++[.l []]++[.d (jI (.t [c]))]) hq hx (by simpa using hl);refine⟨l',st',?_,by simpa using f2,((Ext.app _ _).trans (Ext.app _ _)).trans f3⟩;have hd:Rw [(eC (.s "form"),vK (eV 0) (oS (eC (.i 2))) oN),(eC (.s "call"),vK (eV 0) (oS (eC (.i 2))) oN),(eC (.s "atom"),vK (eV 0) (oS (eC (.i 2))) oN)] [some (.t [.s h,b,c]),some (.r st.length),none] (st++[.l []])=some (.r (st.length+1),st++[.l []]++[.d (jI (.t [c]))]):=by
  have hp:nJ [(eC (.s "form"),vK (eV 0) (oS (eC (.i 2))) oN),(eC (.s "call"),vK (eV 0) (oS (eC (.i 2))) oN),(eC (.s "atom"),vK (eV 0) (oS (eC (.i 2))) oN)] [some (.t [.s h,b,c]),some (.r st.length),none] (st++[.l []]++[.d []])=some ([(.s "form",.t [c]),(.s "call",.t [c]),(.s "atom",.t [c])],st++[.l []]++[.d []]):=rfl;unfold Rw;rw[hp];have hdc:dcc (st++[.l []]++[.d []]) (st++[C.l []]).length=some []:=by
   unfold dcc;rw[Y13]
  dsimp only;rw[hdc];show(if(3:Nat)≤15 then some (D.r (st++[C.l []]).length,List.set (st++[C.l []]++[C.d []]) (st++[C.l []]).length (.d (nK (jI (.t [c]))))) else none)=_;rw[if_pos (by decide),Z35 _ _ (W11 _),Nat.sub_self];have hm:nK (jI (.t [c]))=jI (.t [c]):=rfl;rw[hm];simp
 have hdc:dcc (st++[.l []]++[.d (jI (.t [c]))]) (st.length+1)=some (jI (.t [c])):=by
  unfold dcc;rw[show st.length+1=(st++[C.l []]).length by simp,Y13]
 have hck:dO "dict" (.r (st.length+1)) (st++[.l []]++[.d (jI (.t [c]))])=some ((),st++[.l []]++[.d (jI (.t [c]))]):=Zz (xs:=jI (.t [c])) (by rw[show st.length+1=(st++[C.l []]).length by simp,Y13]);have hg2:xV (.r (st.length+1)) (.s h) (.t [.t [b,c]]) (st++[.l []]++[.d (jI (.t [c]))])=some (.t [.t (qs.map (·.1))],st++[.l []]++[.d (jI (.t [c]))]):=by
  unfold xV;dsimp only;rw[hdc];show some ((hU (jI (.t [c])) (.inr h)).getD (.t [.t [b,c]]),_)=_;rw[hk]
 have hsl:cutD [.s h,b,c] (some 1) none=[b,c]:=rfl;generalize st++[.l []]++[.d (jI (.t [c]))]=S at *;have h2':∀st,inD (.s h) (.t [.s "bound",.s "false"]) st=some (.b false,st):=fun st=>by rw[h2]
 generalize qs.map (·.1)=Y at *;simp[dF,h1,h2',IW,hd,hck,hsl,hg2,f1]
end
theorem Tw.tup{m n:Nat}{t:D}{L:List Str}(h:Tw m n t L):∃xs,t=.t xs:=by cases h<;>exact⟨_,rfl⟩
theorem Sw.tup{m n:Nat}{t:D}{L:List Str}(h:Sw m n t L):∃xs,t=.t xs:=by cases h<;>exact⟨_,rfl⟩
section
variable {x:Str}{n:Nat}{t:D}{L:List Str}
variable{st:Sto}
theorem BK:inD (.s x) (.t [.s "bound",.s "false"]) st=some (.b ((["bound","false"]:List Str).contains x),st):=uA (ss:=["bound","false"])
theorem inBF'(h:(["bound","false"]:List Str).contains x=false):inD (.s x) (.t [.s "bound",.s "false"])=fun st=>some (.b false,st):=by
 funext st
 rw[BK,h]
theorem vfca{v:D}{h:Str}(h1:(h==("form":Str))=false)(h2:(h==("call":Str))=false)(h3:(h==("atom":Str))=false):hU (jI v) (.inr h)=none:=by
 have e1:("form":Str)≠h:=fun e=>by rw[←e]at h1;simp at h1
 have e2:("call":Str)≠h:=fun e=>by rw[←e]at h2;simp at h2
 have e3:("atom":Str)≠h:=fun e=>by rw[←e]at h3;simp at h3
 unfold hU jI;simp[e1,e2,e3]
theorem flat4{ps:List (D×List Str)}(hn:n≤5)(h4:ps.length≤4)(h:∀q∈ps,q.2.length≤4^n):(ps.flatMap (·.2)).length≤100000:=by
 have h1:=kX ps h;have h2:ps.length*4^n≤4*4^n:=W15 _ h4;have h3:4^n≤4^5:=Nat.pow_le_pow_right (by decide) hn
 lia
theorem rQ{m:Nat}(h:Tw m n t L):∀k,n<k→n≤5→Frs (bA k) t L:=by
 induction h with
 |bnd n j hj=>
  intro k hk _ st;obtain⟨k,rfl⟩:∃j,k=j+1:=⟨k-1,by lia⟩;have hi:=BK (st:=st) (x:="bound");have hc:(["bound","false"]:List Str).contains "bound"=true:=by decide
  rw[hc]at hi;refine⟨st.length,st++[.l []],?_,Y13,Ext.app _ _⟩;have q1:(("bound":Str)==("free":Str))=false:=by decide
  simp[bA,dF,hi,q1]
 |fre n x hx=>
  intro k hk _ st;obtain⟨k,rfl⟩:∃j,k=j+1:=⟨k-1,by lia⟩;refine⟨st.length,st++[.l [.s x]],?_,Y13,Ext.app _ _⟩;simp[bA,dF]
 |form0 n w hw=>
  intro k hk _;obtain⟨k,rfl⟩:∃j,k=j+1:=⟨k-1,by lia⟩;exact iC (qs:=[]) (by decide) (inBF' (by decide)) rfl (by simp) (by simp)
 |form n w ps hw h0 h4 hp ih=>
  intro k hk h5;obtain⟨k,rfl⟩:∃j,k=j+1:=⟨k-1,by lia⟩;exact iC (qs:=ps) (by decide) (inBF' (by decide)) rfl (fun q hq=>.inl ⟨(hp q hq).tup,ih q hq k (by lia) (by lia)⟩) (flat4 (show n≤5 by lia) h4 fun q hq=>(hp q hq).len)
 |call n w ps hw h4 hp ih=>
  intro k hk h5;obtain⟨k,rfl⟩:∃j,k=j+1:=⟨k-1,by lia⟩;exact iC (qs:=ps) (by decide) (inBF' (by decide)) rfl (fun q hq=>.inl ⟨(hp q hq).tup,ih q hq k (by lia) (by lia)⟩) (flat4 (show n≤5 by lia) h4 fun q hq=>(hp q hq).len)
theorem Mq{m:Nat}(h:Sw m n t L):∀k,n+3<k→n≤5→Frs (bA k) t L:=by
 have hB:∀n,n≤5→2^n*64≤10000:=by decide
 have hl:=h.len
 induction h with
 |fal m n=>
  intro k hk _ st;obtain⟨k,rfl⟩:∃j,k=j+1:=⟨k-1,by lia⟩;have hi:=BK (st:=st) (x:="false");have hc:(["bound","false"]:List Str).contains "false"=true:=by decide
  rw[hc]at hi;refine⟨st.length,st++[.l []],?_,Y13,Ext.app _ _⟩;have q1:(("false":Str)==("free":Str))=false:=by decide
  simp[bA,dF,hi,q1]
 |same m n a b L M h1 h2=>
  intro k hk h5;obtain⟨k,rfl⟩:∃j,k=j+1:=⟨k-1,by lia⟩;have:=hB n h5;have r:=iC (g:=bA k) (h:="same") (b:=a) (c:=b) (qs:=[(a,L),(b,M)]) (by decide) (inBF' (by decide)) rfl (by
   intro q hq;simp only[Z13,U15,or_false]at hq;rcases hq with rfl|rfl
   ·exact .inl ⟨h1.tup,rQ h1 k (by lia) (by lia)⟩
   ·exact .inl ⟨h2.tup,rQ h2 k (by lia) (by lia)⟩) (by simp at hl⊢;lia)
  simp at r;exact r
 |atom m n w ps hw h4 hp=>
  intro k hk h5;obtain⟨k,rfl⟩:∃j,k=j+1:=⟨k-1,by lia⟩;exact iC (qs:=ps) (by decide) (inBF' (by decide)) rfl (fun q hq=>.inl ⟨(hp q hq).tup,rQ (hp q hq) k (by lia) (by lia)⟩) (flat4 (show 2≤5 by lia) h4 fun q hq=>(hp q hq).len)
 |join m n w sg A B L M hw hA hB' ih1 ih2=>
  intro k hk h5;obtain⟨k,rfl⟩:∃j,k=j+1:=⟨k-1,by lia⟩;have:=hB (n+1) h5;have hc:∀q∈jws,(q.1==("free":Str))=false∧(["bound","false"]:List Str).contains q.1=false∧(q.1==("form":Str))=false∧(q.1==("call":Str))=false∧(q.1==("atom":Str))=false:=by decide
  obtain⟨c1,c2,c3,c4,c5⟩:=hc _ hw;have hv:hU (jI (.t [B])) (.inr w)=none:=vfca c3 c4 c5;have r:=iC (g:=bA k) (h:=w) (b:=A) (c:=B) (qs:=[(A,L),(B,M)]) c1 (inBF' c2) (by rw[hv];rfl) (by
   intro q hq;simp only[Z13,U15,or_false]at hq;rcases hq with rfl|rfl
   ·exact .inl ⟨hA.tup,ih1 hA.len k (by lia) (by lia)⟩
   ·exact .inl ⟨hB'.tup,ih2 hB'.len k (by lia) (by lia)⟩) (by simp at hl⊢;lia)
  simp at r;exact r
 |bind m n w K A L hw hK hA ih=>
  intro k hk h5;obtain⟨k,rfl⟩:∃j,k=j+1:=⟨k-1,by lia⟩;have:=hB (n+1) h5;have hc:∀q∈bws,(q==("free":Str))=false∧(["bound","false"]:List Str).contains q=false∧(q==("form":Str))=false∧(q==("call":Str))=false∧(q==("atom":Str))=false:=by decide
  obtain⟨c1,c2,c3,c4,c5⟩:=hc _ hw;have hv:hU (jI (.t [A])) (.inr w)=none:=vfca c3 c4 c5;have r:=iC (g:=bA k) (h:=w) (b:=.s K) (c:=A) (qs:=[(.s K,[]),(A,L)]) c1 (inBF' c2) (by rw[hv];rfl) (by
   intro q hq;simp only[Z13,U15,or_false]at hq;rcases hq with rfl|rfl
   ·exact .inr ⟨⟨K,rfl⟩,rfl⟩
   ·exact .inl ⟨hA.tup,ih hA.len k (by lia) (by lia)⟩) (by simp at hl⊢;lia)
  simp at r;exact r
end
def lt2(r:Nat):Str:=if r=0 then "" else if(r-1)/26=0 then sg small ((r-1)%26)++("":Str) else sg small ((r-1)/26-1)++(sg small ((r-1)%26)++("":Str))
def nm(n:Nat):Str:=sg "xyz" (n%3)++lt2 (n/3)
def dec(w:Str):Nat:=match cp w with
 |[c]=>c-120
 |[c,a]=>3*(a-97+1)+(c-120)
 |[c,a,b]=>3*((a-97+1)*26+(b-97)+1)+(c-120)
 |_=>0
theorem rR:∀k,k<26→cp (sg small k)=[97+k]:=by decide +kernel
theorem BL:∀k,k<3→cp (sg "xyz" k)=[120+k]:=by decide +kernel
theorem GG{n:Nat}(h:n<2109):cp (nm n)=(120+n%3)::(if n/3=0 then[] else if(n/3-1)/26=0 then[97+(n/3-1)%26] else[97+((n/3-1)/26-1),97+(n/3-1)%26]):=by
 unfold nm lt2;rw[aX,BL _ (by lia)];have he:cp ("":Str)=[]:=rfl
 split
 ·rfl
 ·split
  ·rw[aX,rR _ (by lia),he];rfl
  ·rw[aX,aX,rR _ (by lia),rR _ (by lia),he];rfl
theorem Gx:∀w∈fG,∀k,k<3→(cp w).head?≠some (120+k):=by decide +kernel
theorem rT:∀k,k<26→97+k∈cp small:=by decide +kernel
theorem Dr{n:Nat}(h:n<2109):dec (nm n)=n∧(nm n).length≤3∧iY (nm n)=true:=by
 have hc:=GG h;have hl:0 < (nm n).length∧(nm n).length≤3:=by
  rw[←bM,hc]
  split
  ·simp
  ·split<;>simp
 have hs:∀c∈cp (nm n),c∈cp small:=by
  rw[hc];intro c hx;have h3:=rT (23+n%3) (by lia);rw[show 97+(23+n%3)=120+n%3 by lia]at h3;rcases Z13.mp hx with rfl|hx
  ·exact h3
  ·split at hx
   ·cases hx
   ·split at hx
    ·rw[Y15.mp hx];exact rT _ (by lia)
    ·simp only[Z13,U15,or_false]at hx;rcases hx with rfl|rfl<;>exact rT _ (by lia)
 have hk:fG.contains (nm n)=false:=by
  cases e:fG.contains (nm n) with
  |false=>rfl
  |true=>
   have:=Gx (nm n) (Z19.mp e) (n%3) (by lia);rw[hc]at this;exact absurd rfl this
 refine⟨?_,hl.2,?_⟩
 ·unfold dec;rw[hc]
  by_cases h0:n/3=0
  ·rw[if_pos h0];dsimp only;lia
  ·rw[if_neg h0]
   by_cases h1:(n/3-1)/26=0
   ·rw[if_pos h1];dsimp only;lia
   ·rw[if_neg h1];dsimp only;lia
 ·unfold iY;rw[hk];simp only[Y11,U17,V19];exact⟨⟨⟨hl.1,by lia⟩,hs⟩,rfl⟩
def fresh(T:List Str):Nat:=((List.range 2109).find? fun n=>!T.contains (nm n)).getD 0
def oW(T:List Str):Str:=nm (fresh T)
theorem Gy:((List.range 2109).map nm).Nodup:=by
 rw[List.nodup_iff_pairwise_ne,List.pairwise_map];refine List.Pairwise.imp_of_mem ?_ List.nodup_range;intro a b ha hb hab e;have h1:=(Dr (List.mem_range.mp ha)).1;have h2:=(Dr (List.mem_range.mp hb)).1;rw[e,h2]at h1;exact hab h1.symm
theorem yS:∀{l T:List Str},l.Nodup→(∀w∈l,w∈T)→l.length≤T.length
 |[],T,_,_=>V24 _
 |x::l,T,hn,h=>by
  obtain⟨h1,h2⟩:=Z31.mp hn;have hx:=h x (by simp);have:=yS (T:=T.erase x) h2 fun w hw=>(List.mem_erase_of_ne (fun e:w=x=>h1 (e ▸ hw))).mpr (h w (U11 _ hw));rw[List.length_erase_of_mem hx]at this;have hp:0<T.length:=List.length_pos_of_mem hx;rw[Z14]
  lia
theorem kY{T:List Str}(h:T.length<2109):fresh T<2109∧T.contains (oW T)=false∧∀j,j<fresh T→T.contains (nm j)=true:=by
 unfold oW;unfold fresh;cases hf:(List.range 2109).find? fun n=>!T.contains (nm n) with
 |none=>
  exfalso
  rw[List.find?_eq_none]at hf;have hs:∀w∈(List.range 2109).map nm,w∈T:=by
   intro w hw;obtain⟨n,hn,rfl⟩:=V17.mp hw;have:=hf n hn
   simpa using this
  have:=yS Gy hs;rw[U12,List.length_range]at this
  lia
 |some n=>
  rw[List.find?_range_eq_some]at hf;obtain⟨h1,h2,h3⟩:=hf;refine⟨by simpa using h2,by simpa using h1,fun j hj=>?_⟩;have:=h3 j hj
  simpa using this
theorem Be{T U:List Str}(h:∀x,x∈T ↔ x∈U):oW T=oW U:=by
 unfold oW fresh
 congr 2
 have:∀n,T.contains (nm n)=U.contains (nm n):=fun n=>by rw[Bool.eq_iff_iff,Z19,Z19];exact h _
 simp only[this]
section
variable{st:Sto}{p:Nat}
theorem hY{z:Str}{k:Nat}(h:z.length=k)(hk:k≤1000):bZ [.s z] st=some (.i (k:Nat),st):=by
 subst h;have e:xS st (.s z)=some ((z.length:Nat):Int):=by
  show(if z.length≤sizeLine then some ((z.length:Nat):Int) else none)=_;rw[if_pos (V33 (zl (by lia)))]
 unfold bZ;dsimp only;rw[e]
theorem uB{r:Nat}{n a:D}{E:Str}(hr:r<1000)(hE:E.length≤10):aE (sG tW 2 (eC (.i 1)))
   (aE (sA (aT aI (bL (eC (.s "abcdefghijklmnopqrstuvwxyz")) (aT lU (eV 2) (aM bZ (aC (eC (.s "abcdefghijklmnopqrstuvwxyz")) aN)))) (eV 1)) (gN 1))
   (sA (aT lS (eV 2) (aM bZ (aC (eC (.s "abcdefghijklmnopqrstuvwxyz")) aN))) (gN 2))) [some n,some (.s E),some (.i ((r:Nat)+1))] st=some ((.nx,[some n,some (.s (sg small (r%26)++E)),some (.i ((r/26:Nat):Int))]),st):=by
 have l2:bZ [.s small] st=some (.i 26,st):=hY (k:=26) (by decide) (by decide);have c2:CDiv ((r:Nat):Int) 26:=⟨by decide,by decide⟩;have d3:((r:Nat):Int)%26=((r%26:Nat):Int):=by lia
 have d4:((r:Nat):Int)/26=((r/26:Nat):Int):=by lia
 have x2:jO (.s small) (.i (((r:Nat):Int)%26)) st=some (.s (sg small (r%26)),st):=by rw[d3];exact vY (by rw[show small.cps.toList.length=26 by decide];lia) (by decide)
 have q1:(sg small (r%26)).length+E.length≤sizeLine:=by rw[Y12];show 1+E.length≤_;lia
 have e5:((r:Nat):Int)+1-1=(r:Nat):=by lia
 rw[←d4];simp[tW,l2,e5,x2,aF q1,aF c2]
theorem Bf{n:Nat}(h:n<2109):cH [.i (n:Nat)] st=some (.s (nm n),st):=by
 have l1:bZ [.s "xyz"] st=some (.i 3,st):=hY (k:=3) (by decide) (by decide);have c1:CDiv ((n:Nat):Int) 3:=⟨by decide,by decide⟩;have d1:((n:Nat):Int)/3=((n/3:Nat):Int):=by lia
 have d2:((n:Nat):Int)%3=((n%3:Nat):Int):=by lia
 have x1:jO (.s "xyz") (.i (((n:Nat):Int)%3)) st=some (.s (sg "xyz" (n%3)),st):=by rw[d2];exact vY (by rw[show("xyz":Str).cps.toList.length=3 by decide];lia) (by decide)
 have hlen:(lt2 (n/3)).length≤3:=by
  unfold lt2
  split
  ·decide
  ·split
   ·rw[len_app];show 1+0≤_;decide
   ·rw[len_app,len_app];show 1+(1+0)≤_;decide
 have hw:∃r,oP (eA Oe (eV 2) (eC (.i 0))) (aE (sG tW 2 (eC (.i 1)))
   (aE (sA (aT aI (bL (eC (.s "abcdefghijklmnopqrstuvwxyz")) (aT lU (eV 2) (aM bZ (aC (eC (.s "abcdefghijklmnopqrstuvwxyz")) aN)))) (eV 1)) (gN 1))
   (sA (aT lS (eV 2) (aM bZ (aC (eC (.s "abcdefghijklmnopqrstuvwxyz")) aN))) (gN 2)))) [some (.i (n:Nat)),some (.s ""),some (.i ((n/3:Nat):Int))] st=some ((.nx,[some (.i (n:Nat)),some (.s (lt2 (n/3))),r]),st):=by
  unfold lt2;have hr3:n/3<703:=by lia
  generalize n/3=r at hr3⊢
  by_cases h0:r=0
  ·rw[if_pos h0,h0];exact⟨_,iG (by simp)⟩
  ·rw[if_neg h0];obtain⟨r,rfl⟩:∃q,r=q+1:=⟨r-1,by lia⟩;have t1:=uB (st:=st) (r:=r) (n:=.i (n:Nat)) (a:=.no) (E:="") (by lia) (by decide);have g1:(0:Int) < ((r:Nat):Int)+1:=by lia
   rw[show r+1-1=r by lia]
   by_cases h1:r/26=0
   ·rw[if_pos h1];rw[h1]at t1;exact⟨_,iN (st1:=st) (st2:=st) (by simp[g1]) t1 (iG (by simp))⟩
   ·rw[if_neg h1];obtain⟨q,hq⟩:∃q,r/26=q+1:=⟨r/26-1,by lia⟩;have t2:=uB (st:=st) (r:=q) (n:=.i (n:Nat)) (a:=.no) (E:=sg small (r%26)++("":Str)) (by lia) (by rw[len_app];show 1+0≤_;decide);have g2:(0:Int) < ((q:Nat):Int)+1:=by lia
    have hq0:q/26=0:=by lia
    have hq1:q%26=q:=by lia
    rw[hq0,hq1]at t2;rw[hq,show q+1-1=q by lia];rw[hq]at t1;exact⟨_,iN (st1:=st) (st2:=st) (by simp[g1]) t1 (iN (st1:=st) (st2:=st) (by simp[g2]) t2 (iG (by simp)))⟩
 obtain⟨r,hw⟩:=hw;rw[←d1]at hw;have q2:(sg "xyz" (n%3)).length+(lt2 (n/3)).length≤sizeLine:=by rw[Y12];show 1+_≤_;lia
 unfold nm;generalize lt2 (n/3)=E at hw q2⊢;generalize sg "xyz" (n%3)=G at x1 q2⊢;simp only[cH,kK,sW];generalize oP _ _=W at hw⊢;simp[l1,aF c1,hw,x1,aF q2]
end
section
variable {f:Nat}{L T:List Str}
variable{st:Sto}{p:Nat}
theorem Vd{x:Str}(h:st[f]?=some (.p L)):inD (.s x) (.r f) st=some (.b (L.contains x),st):=by
 have h2:lsc st f=none:=by unfold lsc;rw[h]
 have e:Ci (.s x) (.r f) st=some (L.contains x):=by
  unfold Ci;rw[show eB st (.r f)=none from h2];show pin st f (.s x)=_;unfold pin;rw[h]
 unfold inD;rw[e]
theorem GH{x:Str}(h:st[f]?=some (.l (T.map D.s))):Ci (.s x) (.r f) st=some (T.contains x):=by
 unfold Ci;rw[show eB st (.r f)=some (T.map D.s) from kD h];show(((T.map D.s).mapM Fl).map fun vs=>wZ (.str x) vs)=_;rw[rN];show some (wZ (.str x) (T.map V.str))=_;rw[oO]
theorem Mr{x:Str}(h:st[f]?=some (.l (T.map D.s))):iL (.s x) (.r f) st=some (.b (!T.contains x),st):=by
 unfold iL;rw[GH h]
theorem yT{sc:List Str}{x:Str}:(sc++L).contains x=(sc.contains x || L.contains x):=by
 rw[Bool.eq_iff_iff,Bool.or_eq_true,Z19,Z19,Z19,Z21]
theorem uC{sc L:List Str}{f:Nat}{a:Option D}(hf:st[f]?=some (.p L))(hT:(sc++L).length<2109):∀(m n:Nat),n+m=fresh (sc++L)→oP (Cn (eA inD (aM cH (aC (eV 3) aN)) (eV 1)) (eA inD (aM cH (aC (eV 3) aN)) (eV 2))) (sG kE 3 (eC (.i 1))) [a,some (.t (sc.map D.s)),some (.r f),some (.i (n:Nat))] st=some ((.nx,[a,some (.t (sc.map D.s)),some (.r f),some (.i (fresh (sc++L):Nat))]),st)
 |0,n,e=>by
  obtain⟨f1,f2,f3⟩:=kY hT;unfold oW at f2;rw[Nat.add_zero]at e;rw[←e]at f1 f2⊢;have h2:=Bf (st:=st) f1;rw[yT,W43]at f2;have h3:=uA (st:=st) (x:=nm n) (ss:=sc);have h4:=Vd (x:=nm n) hf;rw[f2.1]at h3;rw[f2.2]at h4;generalize sc.map D.s=X at h3⊢;exact iG (by simp[h2,h3,h4])
 |m+1,n,e=>by
  obtain⟨f1,f2,f3⟩:=kY hT;have h1:=f3 n (by lia);have h2:=Bf (st:=st) (n:=n) (by lia);have ih:=uC (a:=a) hf hT m (n+1) (by lia);rw[yT]at h1;have h3:=uA (st:=st) (x:=nm n) (ss:=sc);have h4:=Vd (x:=nm n) hf;generalize sc.map D.s=X at h3 ih⊢;refine iN (env1:=[a,some (.t X),some (.r f),some (.i ((n+1:Nat):Int))]) (st1:=st) (st2:=st) ?_ (by simp[kE]) ih;cases hc:sc.contains (nm n) with
  |true=>rw[hc]at h3;simp[h2,h3]
  |false=>
   rw[hc,Bool.false_or]at h1;rw[hc]at h3;rw[h1]at h4;simp[h2,h3,h4]
theorem yU{sc:List Str}(hf:st[f]?=some (.p L))(hT:(sc++L).length<2109):iI [.t [.t (sc.map D.s),.r f]] st=some (.s (oW (sc++L)),st):=by
 have h1:=uC (a:=some (.t [.t (sc.map D.s),.r f])) hf hT (fresh (sc++L)) 0 (by lia);have h2:=Bf (st:=st) (kY hT).1;unfold oW;generalize fresh (sc++L)=k at h1 h2⊢;generalize sc.map D.s=X at h1⊢;have h1':oP (Cn (eA inD (aM cH (aC (eV 3) aN)) (eV 1)) (eA inD (aM cH (aC (eV 3) aN)) (eV 2))) (sG kE 3 (eC (.i 1))) [some (.t [.t X,.r f]),some (.t X),some (.r f),some (.i 0)] st=some ((.nx,[some (.t [.t X,.r f]),some (.t X),some (.r f),some (.i (k:Nat))]),st):=h1;simp only[iI,kL,sW];generalize oP _ _=W at h1' ⊢;simp[h1',h2]
def tri(e:Str):List Str:=[("x":Str)++e,("y":Str)++e,("z":Str)++e]
def sgs:List Str:=(List.range 26).map (sg small)
theorem kZ:chars small=sgs.map D.s:=by rfl
theorem rV{c:Sto→Prop}{te:En→M D}{cap:En}{f:Str→Str}(hc:c st)(ss:List Str)(h:∀x∈ss,te ([some (.s x)]++cap) st=some (.s (f x),st)):aY c bd1 (fun _=>L2.ret true) te cap (ss.map D.s) [] st=some ((ss.map f).map D.s,st):=by
 let g:D→D:=fun d=>match d with |.s x=>.s (f x)|_=>.no
 rw[jH (f:=g) hc _ _ (by
  intro x hx;obtain⟨y,hy,rfl⟩:=V17.mp hx;exact h y hy),W13,V42,V42]
 rfl
end
def pairs1(a:Str):List Str:=sgs.map fun b=>a++b
def wA:List Str:=""::(sgs++sgs.flatMap pairs1)
theorem Ds:wA=(List.range 703).map lt2:=by decide +kernel
theorem nm3(r:Nat):tri (lt2 r)=[nm (3*r),nm (3*r+1),nm (3*r+2)]:=by
 unfold nm;rw[show 3*r/3=r by lia,show(3*r+1)/3=r by lia,show(3*r+2)/3=r by lia,show 3*r%3=0 by lia,show(3*r+1)%3=1 by lia,show(3*r+2)%3=2 by lia]
 rfl
theorem Ms:∀k,((List.range k).map lt2).flatMap tri=(List.range (3*k)).map nm
 |0=>rfl
 |k+1=>by
  rw[U31,Y19,List.flatMap_append,Ms k,show 3*(k+1)=3*k+1+1+1 by lia,U31,U31,U31];simp[nm3]
theorem mY:∀e∈sgs,e.length=1:=by decide +kernel
theorem Mu{e:Str}(h:e∈wA):e.length≤2:=by
 rcases Z13.mp h with rfl|h
 ·decide
 ·rcases Z21.mp h with h|h
  ·rw[mY e h];decide
  ·obtain⟨a,ha,h⟩:=U42.mp h;obtain⟨b,hb,rfl⟩:=V17.mp h;rw[len_app,mY a ha,mY b hb]
   decide
section
variable {T:List Str}
variable{st:Sto}
theorem Mv{a b:Str}(h:a.length+b.length≤100):aI (.s a) (.s b) st=some (.s (a++b),st):=by
 simp[aF (show a.length+b.length≤sizeLine by rw[Y12];lia)]
theorem uD{a0 a4 a5:Option D}:∀(es acc:List Str) (l:Nat) (e0:Option D) (st:Sto),(∀e∈es,e.length=1)→acc.length+26*es.length≤2000→st[l]?=some (.l (acc.map D.s))→
  ∃l' e' st',eK (fun _=>True) (gN 3) (sA (aT aI (eV 2) (wQ [3] (iS (eV 1)) bd1 (fun _=>L2.ret true) (aT aI (eV 1) (eV 0)))) (gN 2)) (es.map D.s) [a0,some (.s small),some (.r l),e0,a4,a5] st=some ((.nx,[a0,some (.s small),some (.r l'),e',a4,a5]),st')∧st'[l']?=some (.l ((acc++es.flatMap pairs1).map D.s))∧Ext st st'
 |[],acc,l,e0,st,_,_,hl=>⟨l,e0,st,by rw[W21,eK,aS trivial];rfl,by simpa using hl,Ext.refl _⟩
 |e::es,acc,l,e0,st,he,hn,hl=>by
  have h1:aY (fun _=>True) bd1 (fun _=>L2.ret true) (aT aI (eV 1) (eV 0)) [some (.s e)] (sgs.map D.s) [] st=some ((pairs1 e).map D.s,st):=rV (f:=fun b=>e++b) trivial sgs fun x hx=>by
   have:=Mv (st:=st) (a:=e) (b:=x) (by rw[he e (by simp),mY x hx];decide);simp only[U18,W13,zY,Zv,Zw,mQ,hW,this]
  have hi:yZ (.s small) st=some ((sgs.map D.s,fun _=>True),st):=by rw[←kZ];rfl
  have hz:(sgs.map D.s).length<sizeLine:=by rw[U12,show sgs.length=26 from rfl,Y12];decide
  have hp:(pairs1 e).length=26:=by unfold pairs1;rw[U12];rfl
  simp only[Z14]at hn;have x1:Ext st (st++[C.l ((pairs1 e).map D.s)]):=Ext.app _ _;have h2:aI (.r l) (.r st.length) (st++[C.l ((pairs1 e).map D.s)])=some (.r (st++[C.l ((pairs1 e).map D.s)]).length,(st++[C.l ((pairs1 e).map D.s)])++[C.l (acc.map D.s++(pairs1 e).map D.s)]):=eQ (x1 _ _ hl) (by simp) (by rw[Y12,U12,U12,hp];lia);have x2:Ext st ((st++[C.l ((pairs1 e).map D.s)])++[C.l (acc.map D.s++(pairs1 e).map D.s)]):=x1.trans (Ext.app _ _);have hnew:((st++[C.l ((pairs1 e).map D.s)])++[C.l (acc.map D.s++(pairs1 e).map D.s)])[(st++[C.l ((pairs1 e).map D.s)]).length]?=some (.l ((acc++pairs1 e).map D.s)):=by rw[Y19];exact Y13
  generalize (st++[C.l ((pairs1 e).map D.s)])++[C.l (acc.map D.s++(pairs1 e).map D.s)]=st2 at h2 x2 hnew;generalize (st++[C.l ((pairs1 e).map D.s)]).length=l2 at h2 hnew;obtain⟨l',e',st',g1,g2,g3⟩:=uD (a0:=a0) (a4:=a4) (a5:=a5) es (acc++pairs1 e) l2 (some (.s e)) st2 (fun y hy=>he y (U11 _ hy)) (by rw[V12,hp];lia) hnew;refine⟨l',e',st',?_,by rw[g2,U26,W10],x2.trans g3⟩;rw[Z12,eK,aS trivial];generalize (pairs1 e).map D.s=Y at *;generalize sgs.map D.s=Z at *;simp[hi,hz,iD,h1,h2,g1]
theorem uE{q:Nat}{X:List D}{a0 a1 a2 a3:Option D}:∀(es acc:List Str) (l:Nat) (e0:Option D) (st:Sto),(∀e∈es,e.length≤2)→acc.length+3*es.length≤3000→st[l]?=some (.l (acc.map D.s))→st[q]?=some (.l X)→
  ∃l' e' st',eK (fun st=>st[q]?=some (.l X)) (gN 5) (sA (aT aI (eV 4) (wQ [5] (iS (eC (.s "xyz"))) bd1 (fun _=>L2.ret true) (aT aI (eV 0) (eV 1)))) (gN 4)) (es.map D.s) [a0,a1,a2,a3,some (.r l),e0] st=some ((.nx,[a0,a1,a2,a3,some (.r l'),e']),st')∧st'[l']?=some (.l ((acc++es.flatMap tri).map D.s))∧Ext st st'
 |[],acc,l,e0,st,_,_,hl,hq=>⟨l,e0,st,by rw[W21,eK,aS hq];rfl,by simpa using hl,Ext.refl _⟩
 |e::es,acc,l,e0,st,he,hn,hl,hq=>by
  have h1:aY (fun _=>True) bd1 (fun _=>L2.ret true) (aT aI (eV 0) (eV 1)) [some (.s e)] ((["x","y","z"]:List Str).map D.s) [] st=some ((tri e).map D.s,st):=rV (f:=fun b=>b++e) trivial ["x","y","z"] fun x hx=>by
   have hx1:x.length=1:=by
    have:∀y∈(["x","y","z"]:List Str),y.length=1:=by decide
    exact this x hx
   have:=Mv (st:=st) (a:=x) (b:=e) (by have:=he e (by simp);lia);simp only[U18,W13,zY,Zv,Zw,mQ,hW,this]
  have hi:yZ (.s "xyz") st=some (((["x","y","z"]:List Str).map D.s,fun _=>True),st):=rfl;have hz:((["x","y","z"]:List Str).map D.s).length<sizeLine:=by rw[Y12];decide
  simp only[Z14]at hn;have hp:(tri e).length=3:=rfl;have x1:Ext st (st++[C.l ((tri e).map D.s)]):=Ext.app _ _;have h2:aI (.r l) (.r st.length) (st++[C.l ((tri e).map D.s)])=some (.r (st++[C.l ((tri e).map D.s)]).length,(st++[C.l ((tri e).map D.s)])++[C.l (acc.map D.s++(tri e).map D.s)]):=eQ (x1 _ _ hl) (by simp) (by rw[Y12,U12,U12,hp];lia);have x2:Ext st ((st++[C.l ((tri e).map D.s)])++[C.l (acc.map D.s++(tri e).map D.s)]):=x1.trans (Ext.app _ _);have hnew:((st++[C.l ((tri e).map D.s)])++[C.l (acc.map D.s++(tri e).map D.s)])[(st++[C.l ((tri e).map D.s)]).length]?=some (.l ((acc++tri e).map D.s)):=by rw[Y19];exact Y13
  generalize (st++[C.l ((tri e).map D.s)])++[C.l (acc.map D.s++(tri e).map D.s)]=st2 at h2 x2 hnew;generalize (st++[C.l ((tri e).map D.s)]).length=l2 at h2 hnew;obtain⟨l',e',st',g1,g2,g3⟩:=uE (a0:=a0) (a1:=a1) (a2:=a2) (a3:=a3) es (acc++tri e) l2 (some (.s e)) st2 (fun y hy=>he y (U11 _ hy)) (by rw[V12,hp];lia) hnew (x2 _ _ hq);refine⟨l',e',st',?_,by rw[g2,U26,W10],x2.trans g3⟩;rw[Z12,eK,aS hq];generalize (tri e).map D.s=Y at *;generalize (["x","y","z"]:List Str).map D.s=Z at *;simp[hi,hz,iD,h1,h2,g1]
theorem oB{c:Sto→Prop}{tc:En→M Bool}{te:En→M D}{cap:En}{p:Str→Bool}(hc:c st):∀(ss:List Str) (acc:List D),(∀x∈ss,tc ([some (.s x)]++cap) st=some (p x,st)∧te ([some (.s x)]++cap) st=some (.s x,st))→aY c bd1 tc te cap (ss.map D.s) acc st=some (acc++(ss.filter p).map D.s,st)
 |[],acc,_=>by rw[W21,aY,aS hc];simp
 |x::xs,acc,h=>by
  obtain⟨h1,h2⟩:=h x (by simp);rw[Z12,aY,aS hc];show(bnd (tc ([some (.s x)]++cap)) fun b=>if b=true then bnd (te ([some (.s x)]++cap)) fun z=>aY c bd1 tc te cap (xs.map D.s) (acc++[z]) else aY c bd1 tc te cap (xs.map D.s) acc) st=_;rw[aR h1];cases hp:p x with
  |true=>
   have ih:=oB hc xs (acc++[D.s x]) fun y hy=>h y (U11 _ hy);rw[if_pos rfl,aR h2,ih,List.filter_cons,hp];simp
  |false=>
   have ih:=oB hc xs acc fun y hy=>h y (U11 _ hy);rw[if_neg (by decide),ih,List.filter_cons,hp];simp
theorem Bg(hT:T.length<2109):∃r,((List.range 2109).map nm).filter (fun x=>!T.contains x)=oW T::r:=by
 obtain⟨h1,h2,h3⟩:=kY hT;have e:List.range 2109=List.range (fresh T)++(fresh T::List.range' (fresh T+1) (2109-fresh T-1)):=by
  rw[U36,U36,←List.range'_succ,show 2109-fresh T-1+1=2109-fresh T by lia];have:=List.range'_append (s:=0) (m:=fresh T) (n:=2109-fresh T) (step:=1);simp at this;rw[show fresh T+(2109-fresh T)=2109 by lia]at this;exact this.symm
 rw[e,Y19,List.filter_append,Z12];have h4:((List.range (fresh T)).map nm).filter (fun x=>!T.contains x)=[]:=by
  rw[List.filter_eq_nil_iff];intro a ha;obtain⟨j,hj,rfl⟩:=V17.mp ha;rw[h3 j (List.mem_range.mp hj)]
  decide
 rw[h4,W13,List.filter_cons,if_pos (by show(!T.contains (oW T))=true;rw[h2];rfl)];exact⟨_,rfl⟩
theorem s_fresh{t:Nat}(ht:st[t]?=some (.l (T.map D.s)))(hT:T.length<2109):∃st',gP [.r t] st=some (.s (oW T),st')∧Ext st st':=by
 have x1:Ext st (st++[.l [.s ""]]++[.l (sgs.map D.s)]++[.l (.s ""::sgs.map D.s)]):=((Ext.app _ _).trans (Ext.app _ _)).trans (Ext.app _ _);have had:aI (.r st.length) (.r (st.length+1)) (st++[.l [.s ""]]++[.l (sgs.map D.s)])=some (.r (st.length+1+1),st++[.l [.s ""]]++[.l (sgs.map D.s)]++[.l (.s ""::sgs.map D.s)]):=by
  rw[eQ (xs:=[.s ""]) (ys:=sgs.map D.s) (by simp) (by rw[show st.length+1=(st++[C.l [.s ""]]).length by simp];exact Y13) (by rw[Y12,U12,show sgs.length=26 from rfl];decide)];simp
 have hl2:kH [.s small] (st++[.l [.s ""]])=some (.r (st.length+1),st++[.l [.s ""]]++[.l (sgs.map D.s)]):=by
  rw[←kZ];show n3 (small.cps.size≤sizeLine) (fun st=>some (D.r st.length,st++[.l (rA small)])) (st++[.l [.s ""]])=_;rw[aF (by show small.length≤sizeLine;rw[Y12];decide)];simp only[V12,Z14,Y25]
  rfl
 have hi:∀s,yZ (.s small) s=some ((sgs.map D.s,fun _=>True),s):=fun s=>by rw[←kZ];rfl
 have hc0:(st++[.l [.s ""]]++[.l (sgs.map D.s)]++[.l (.s ""::sgs.map D.s)])[st.length+1+1]?=some (.l ((("":Str)::sgs).map D.s)):=at3 _ _ _ _;generalize st++[.l [.s ""]]++[.l (sgs.map D.s)]++[.l (.s ""::sgs.map D.s)]=S at had x1 hc0;obtain⟨l1,e1,S1,f1,f2,f3⟩:=uD (a0:=some (.r t)) (a4:=none) (a5:=none) sgs (("":Str)::sgs) (st.length+1+1) none S mY (by decide) hc0;have he:(("":Str)::sgs)++sgs.flatMap pairs1=wA:=rfl;rw[he]at f2;have hle:wA.length=703:=by rw[Ds];simp
 have x2:Ext S1 (S1++[.l []]):=Ext.app _ _;obtain⟨l2,e2,S2,g1,g2,g3⟩:=uE (q:=l1) (X:=wA.map D.s) (a0:=some (.r t)) (a1:=some (.s small)) (a2:=some (.r l1)) (a3:=e1) wA [] S1.length none (S1++[.l []]) (fun e h=>Mu h) (by rw[hle];decide) (by simp) (x2 _ _ f2);rw[W13,Ds,Ms]at g2;have ht2:S2[t]?=some (.l (T.map D.s)):=g3 _ _ (x2 _ _ (f3 _ _ (x1 _ _ ht)));obtain⟨r,hr⟩:=Bg hT;have hcf:aY (fun st=>st[l2]?=some (.l (((List.range 2109).map nm).map D.s))) bd1 (eA iL (eV 0) (eV 1)) (eV 0) [some (.r t)] (((List.range 2109).map nm).map D.s) [] S2=some ((oW T::r).map D.s,S2):=by
  rw[oB (p:=fun x=>!T.contains x) g2 _ _ (by
   intro x _;have:=Mr (x:=x) ht2
   constructor
   ·simp only[U18,W13,Zx,zY,Zv,Zw,mQ,hW,this,Zy]
   ·rfl),hr,W13]
 refine⟨S2++[.l ((oW T::r).map D.s)],?_,(((x1.trans f3).trans x2).trans g3).trans (Ext.app _ _)⟩;have i1:yZ (.r l1) (S1++[.l []])=some ((wA.map D.s,fun st=>st[l1]?=some (.l (wA.map D.s))),S1++[.l []]):=Kk (x2 _ _ f2);have i2:yZ (.r l2) S2=some ((((List.range 2109).map nm).map D.s,fun st=>st[l2]?=some (.l (((List.range 2109).map nm).map D.s))),S2):=Kk g2;have hz:(((List.range 2109).map nm).map D.s).length<sizeLine:=by rw[U12,U12,List.length_range,Y12];decide
 have hix:jO (.r S2.length) (.i 0) (S2++[.l ((oW T::r).map D.s)])=some (.s (oW T),S2++[.l ((oW T::r).map D.s)]):=JR (k:=0) rfl;generalize ((List.range 2109).map nm).map D.s=Y at *;generalize wA.map D.s=Z at *;generalize (oW T::r).map D.s=W at *;generalize sgs.map D.s=U at *;simp only[W10,U18,W13]at had hl2;simp[gP,jU,hl2,had,hi,f1,i1,g1,i2,hz,iD,hcf,hix]
end
theorem zm{n:Nat}(h:n≤100000):n≤sizeLine:=V33 (zl h)
section
variable{env:En}{st:Sto}{a b:En→M D}{t:En→M (List D)}{g:List D→M D}{C:Addr}{f:Str}{l:Nat}{fs:List (Str×D)}{d:D}
@[simp] theorem eFl_ap:jJ C f a env st=b3 (a env st) (lQ C f):=rfl
@[simp] theorem sFl_ap:Uy C f a b env st=b3 (b env st) fun y=>bnd (a env) fun x=>bnd (jP C f x y) fun _=>L2.ret (.nx,env):=rfl
@[simp] theorem sFa_ap{o:D→D→M D}:FV C f o a b env st=b3 (a env st) fun x=>bnd (lQ C f x) fun w=>bnd (b env) fun y=>bnd (o w y) fun z=>bnd (jP C f x z) fun _=>L2.ret (.nx,env):=rfl
@[simp] theorem eMt_ap:lH C f g a t env st=b3 (a env st) fun x=>bnd (ofD C f x) fun _=>bnd (t env) fun ds=>g (x::ds):=rfl
@[simp] theorem eM0_ap:Ss C f g a env st=b3 (a env st) fun x=>bnd (ofD C f x) fun _=>g [x]:=rfl
@[simp] theorem eMk_ap:HH C g t env st=b3 (t env st) (Uv C g):=rfl
@[simp] theorem eS0_ap:JA env st=some (.r st.length,st++[.st []]):=rfl
@[simp] theorem eAd_ap:FW a t env st=b3 (a env st) fun x=>bnd (CG x) fun _=>bnd (t env) fun ys=>match ys with |[y]=>CH x y|_=>bad:=rfl
@[simp] theorem sBad_ap:sO env st=none:=rfl
@[simp] theorem iZp_ap:JB t env st=b3 (t env st) Ky:=rfl
@[simp] theorem iEr_ap:JC t env st=b3 (t env st) vM:=rfl
@[simp] theorem iIt_ap:HG a env st=b3 (a env st) Ad:=rfl
@[simp] theorem eRl_ap:CI a b env st=b3 (a env st) fun x=>bnd (b env) fun y=>yB x y:=rfl
@[simp] theorem eCv_ap{tab:List (Str×(List D→M D))}{i:Nat}:AJ tab i t env st=b3 (eV i env st) fun f=>bnd (t env) fun xs=>Cp tab f xs:=rfl
theorem Dt{xs:List D}(h:st[l]?=some (.l xs)):yB (.r l) (.i (-1)) st=some (.r st.length,st++[.l xs.reverse]):=by
 show need _ _ st=_;rw[pH rfl,aR (dS h)]
 rfl
end
def Du(m:M D)(st:Sto)(xs:List D):Prop:=∃l st',m st=some (.r l,st')∧Ext st st'∧st'[l]?=some (.l xs)
def Rows(st:Sto):List Nat→List (List D)→Prop
 |[],[]=>True
 |r::rs,w::ws=>st[r]?=some (.l w)∧Rows st rs ws
 |_,_=>False
theorem Rows.ext{st st':Sto}(h:Ext st st'):∀{rs:List Nat} {ws:List (List D)},Rows st rs ws→Rows st' rs ws
 |[],[],_=>trivial
 |r::rs,w::ws,q=>⟨h _ _ q.1,q.2.ext h⟩
 |[],_::_,q=>q.elim
 |_::_,[],q=>q.elim
theorem Rows.kp{st st':Sto}{p:Nat}(h:Kp p st st'):∀{rs:List Nat} {ws:List (List D)},Rows st rs ws→(∀r∈rs,r≠p)→Rows st' rs ws
 |[],[],_,_=>trivial
 |r::rs,w::ws,q,hn=>⟨h _ _ (hn r (by simp)) q.1,Rows.kp h q.2 fun r' hr=>hn r' (by simp[hr])⟩
 |[],_::_,q,_=>q.elim
 |_::_,[],q,_=>q.elim
theorem Rows.lt{st:Sto}:∀{rs:List Nat} {ws:List (List D)},Rows st rs ws→∀r∈rs,r<st.length
 |[],[],_,r,h=>by simp at h
 |r::rs,w::ws,q,x,h=>by
  rcases Z13.mp h with rfl|h
  ·exact(U10.mp q.1).1
  ·exact Rows.lt q.2 x h
 |[],_::_,q,_,_=>q.elim
 |_::_,[],q,_,_=>q.elim
def cm:Bool→List (List D)→List D
 |_,[]=>[]
 |true,r::rs=>r++cm false rs
 |false,r::rs=>.s ", "::(r++cm false rs)
def tot:List (List D)→Nat
 |[]=>0
 |r::rs=>r.length+1+tot rs
theorem Bh:∀(b:Bool) (rs:List (List D)),(cm b rs).length≤tot rs
 |_,[]=>W11 _
 |true,r::rs=>by have:=Bh false rs;simp[cm,tot];lia
 |false,r::rs=>by have:=Bh false rs;simp[cm,tot];lia
section
variable{st:Sto}
theorem lL{xs ys:List D}(h:ys≠[]):(xs++ys).isEmpty=false:=by
 cases xs with
 |nil=>cases ys with
  |nil=>exact absurd rfl h
  |cons y ys=>rfl
 |cons x xs=>rfl
theorem lA{l lm:Nat}{X:List D}{a0:Option D}(hn:l≠lm):∀(rs:List Nat) (ws:List (List D)) (made:List D) (a2:Option D) (st:Sto),Rows st rs ws→(∀r∈rs,r≠lm)→st[lm]?=some (.l made)→st[l]?=some (.l X)→made.length+tot ws≤100000→(∀w∈ws,w≠[])→
  ∃a2' st',eK (fun st=>st[l]?=some (.l X)) (gN 2) (sE (rX "list" cN (eV 1) (aC (Og (gE (eV 1)) (aT aI (eL (aC (eC (.s ", ")) aN)) (eV 2)) (eV 2)) aN))) (rs.map D.r) [a0,some (.r lm),a2] st=some ((.nx,[a0,some (.r lm),a2']),st')∧st'[lm]?=some (.l (made++cm made.isEmpty ws))∧Kp lm st st'
 |[],[],made,a2,st,_,_,hm,hX,_,_=>⟨a2,st,by rw[W21,eK,aS hX];rfl,by simp[cm,hm],.refl _ _⟩
 |r::rs,w::ws,made,a2,st,q,hr,hm,hX,ht,hw=>by
  have hw0:w≠[]:=hw w (by simp);simp only[tot]at ht
  by_cases hmade:made=[]
  ·subst hmade;have h1:cN (.r lm) [.r r] st=some (.no,st.set lm (.l ([]++w))):=lG hm q.1 (zm (by simp;lia));have h2:(st.set lm (.l ([]++w)))[lm]?=some (.l w):=by rw[dM hm];rfl
   have k2:Kp lm st (st.set lm (.l ([]++w))):=(Kp.refl _ _).set;generalize st.set lm (.l ([]++w))=st1 at h1 h2 k2;obtain⟨a2',st',g1,g2,g3⟩:=lA (a0:=a0) hn rs ws w (some (.r r)) st1 (q.2.kp k2 fun x hx=>hr x (by simp[hx])) (fun x hx=>hr x (by simp[hx])) h2 (k2 _ _ hn hX) (by lia) (fun x hx=>hw x (by simp[hx]));refine⟨a2',st',?_,?_,k2.trans g3⟩
   ·rw[Z12,eK,aS hX];have ht1:kC (.r lm) st=some (false,st):=iO hm;have hck:dO "list" (.r lm) st=some ((),st):=dJ hm;simp[hck,ht1,h1,g1]
   ·rw[g2];have:w.isEmpty=false:=by cases w<;>simp_all
    simp[cm,this]
  ·have hme:made.isEmpty=false:=by cases made<;>simp_all
   have hr0:r<st.length:=(U10.mp q.1).1;have x1:Ext st (st++[.l [.s ", "]]):=Ext.app _ _;have h0:aI (.r st.length) (.r r) (st++[.l [.s ", "]])=some (.r (st++[C.l [.s ", "]]).length,st++[.l [.s ", "]]++[.l ([.s ", "]++w)]):=eQ (by simp) (x1 _ _ q.1) (zm (by simp;lia));have x2:Ext st (st++[.l [.s ", "]]++[.l ([.s ", "]++w)]):=x1.trans (Ext.app _ _);have h3:(st++[.l [.s ", "]]++[.l ([.s ", "]++w)])[(st++[C.l [.s ", "]]).length]?=some (.l ([.s ", "]++w)):=by simp
   generalize st++[.l [.s ", "]]++[.l ([.s ", "]++w)]=st1 at h0 x2 h3;generalize (st++[C.l [.s ", "]]).length=n1 at h0 h3;have h1:cN (.r lm) [.r n1] st1=some (.no,st1.set lm (.l (made++([.s ", "]++w)))):=lG (x2 _ _ hm) h3 (zm (by simp;lia));have h2:(st1.set lm (.l (made++([.s ", "]++w))))[lm]?=some (.l (made++([.s ", "]++w))):=dM (x2 _ _ hm);have k2:Kp lm st (st1.set lm (.l (made++([.s ", "]++w)))):=(Kp.of x2).set;generalize st1.set lm (.l (made++([.s ", "]++w)))=st2 at h1 h2 k2;obtain⟨a2',st',g1,g2,g3⟩:=lA (a0:=a0) hn rs ws _ (some (.r r)) st2 (q.2.kp k2 fun x hx=>hr x (by simp[hx])) (fun x hx=>hr x (by simp[hx])) h2 (k2 _ _ hn hX) (by simp;lia) (fun x hx=>hw x (by simp[hx]));refine⟨a2',st',?_,?_,k2.trans g3⟩
   ·rw[Z12,eK,aS hX];have ht1:kC (.r lm) st=some (true,st):=by rw[iO hm,hme];rfl
    have hck:dO "list" (.r lm) st=some ((),st):=dJ hm;simp[hck,ht1,h0,h1,g1]
   ·rw[g2];have:(made++([D.s ", "]++w)).isEmpty=false:=lL (by simp);rw[this,hme];simp[cm]
 |[],_::_,_,_,_,q,_,_,_,_,_=>q.elim
 |_::_,[],_,_,_,q,_,_,_,_,_=>q.elim
theorem Mw{l:Nat}{rs:List Nat}{ws:List (List D)}(h:st[l]?=some (.l (rs.map D.r)))(hr:Rows st rs ws)(ht:tot ws≤100000)(hw:∀w∈ws,w≠[]):Du (mU [.r l]) st (cm true ws):=by
 have hl:l<st.length:=(U10.mp h).1;have x1:Ext st (st++[.l []]):=Ext.app _ _;have h1:(st++[C.l []])[st.length]?=some (C.l []):=by simp
 obtain⟨a2',st',g1,g2,g3⟩:=lA (l:=l) (lm:=st.length) (X:=rs.map D.r) (a0:=some (.r l)) (by lia) rs ws [] none (st++[.l []]) (hr.ext x1) (fun r hr'=>by have:=hr.lt r hr';lia) h1 (x1 _ _ h) (by simpa using ht) hw;refine⟨st.length,st',?_,fun i c e=>g3 i c (by have:=(U10.mp e).1;lia) (x1 i c e),by simpa using g2⟩;have hi:yZ (.r l) (st++[.l []])=some ((rs.map D.r,fun st=>st[l]?=some (.l (rs.map D.r))),st++[.l []]):=Kk (x1 _ _ h);simp[mU,rJ,hi,g1]
theorem uF{te:En→M D}{cap:En}{f:D→D}{c:Sto→Prop}(hc:∀st,c st):∀(xs:List D) (acc:List D) (st:Sto),(∀x∈xs,∀st,te ([some x]++cap) st=some (.r st.length,st++[.l [f x]]))→
  ∃rs st',aY c bd1 (fun _=>L2.ret true) te cap xs acc st=some (acc++rs.map D.r,st')∧Ext st st'∧Rows st' rs (xs.map fun x=>[f x])
 |[],acc,st,_=>⟨[],st,by rw[aY,aS (hc st)];simp,.refl _,trivial⟩
 |x::xs,acc,st,h=>by
  have e2:=h x (by simp) st;obtain⟨rs,st',g1,g2,g3⟩:=uF hc xs (acc++[.r st.length]) (st++[.l [f x]]) fun y hy=>h y (U11 _ hy);refine⟨st.length::rs,st',?_,(Ext.app _ _).trans g2,⟨g2 _ _ (by simp),g3⟩⟩;rw[aY,aS (hc st)];show(bnd (L2.ret true) fun b=>if b=true then bnd (te ([some x]++cap)) fun z=>aY c bd1 (fun _=>L2.ret true) te cap xs (acc++[z]) else _) st=_;rw[aR (show(L2.ret true:M Bool) st=some (true,st) from rfl),if_pos rfl,aR e2,g1];simp
theorem wB(f:D→D):∀xs:List D,tot (xs.map fun x=>[f x])=2*xs.length
 |[]=>rfl
 |x::xs=>by rw[Z12,tot,wB f xs];simp;lia
theorem oX{w nm:Str}{args:List D}{ar:D}(hl:args.length≤1000)(hn:nm.length≤1000):Du (cV [.t [.s w,.s nm,.t args],ar]) st (.s (nm++("(":Str))::(cm true (args.map fun x=>[.t [.s "term",x,ar]])++[.s ")"])):=by
 have hq:nm.length+("(":Str).length≤sizeLine:=by rw[Y12,show("(":Str).length=1 from rfl];lia
 have x1:Ext st (st++[.l [.s (nm++("(":Str))]]):=Ext.app _ _;obtain⟨rs,st1,g1,g2,g3⟩:=uF (c:=fun _=>True) (te:=eL (aC (eT (aC (eC (.s "term")) (aC (eV 0) (aC (eV 1) aN)))) aN)) (cap:=[some ar]) (f:=fun x=>.t [.s "term",x,ar]) (fun _=>trivial) args [] (st++[.l [.s (nm++("(":Str))]]) (by
  intro x _ st;simp)
 have x2:Ext st1 (st1++[.l (rs.map D.r)]):=Ext.app _ _;obtain⟨l,st2,k1,k2,k3⟩:=Mw (st:=st1++[.l (rs.map D.r)]) (l:=st1.length) (rs:=rs) (by simp) (g3.ext x2) (by rw[wB];lia) (by
  intro w hw;obtain⟨x,_,rfl⟩:=V17.mp hw;simp)
 have hlen:=Bh true (args.map fun x=>[D.t [.s "term",x,ar]]);rw[wB]at hlen;have h0:st2[st.length]?=some (.l [.s (nm++("(":Str))]):=k2 _ _ (x2 _ _ (g2 _ _ (by simp)));have hz:args.length<sizeLine:=by rw[Y12];lia
 generalize cm true (args.map fun x=>[D.t [.s "term",x,ar]])=Y at k3 hlen⊢;have a1:=eQ h0 k3 (by rw[Y12];simp;lia);have x3:Ext st2 (st2++[.l ([.s (nm++("(":Str))]++Y)]):=Ext.app _ _;have a2:aI (.r st2.length) (.r (st2.length+1)) (st2++[.l ([.s (nm++("(":Str))]++Y)]++[.l [.s ")"]])=some (.r (st2.length+1+1),st2++[.l ([.s (nm++("(":Str))]++Y)]++[.l [.s ")"]]++[.l (([.s (nm++("(":Str))]++Y)++[.s ")"])]):=by
  rw[eQ (xs:=[.s (nm++("(":Str))]++Y) (ys:=[.s ")"]) (by simp) (by rw[show st2.length+1=(st2++[C.l ([.s (nm++("(":Str))]++Y)]).length by simp];exact Y13) (by rw[Y12];simp;lia)];simp
 refine⟨st2.length+1+1,st2++[.l ([.s (nm++("(":Str))]++Y)]++[.l [.s ")"]]++[.l (([.s (nm++("(":Str))]++Y)++[.s ")"])],?_,((((x1.trans g2).trans x2).trans k2).trans x3).trans ((Ext.app _ _).trans (Ext.app _ _)),by rw[at3];simp⟩;rw[W13]at g1;simp only[W10,U18,W13]at a1 a2⊢;simp[cV,kJ,aF hq,iD,aF hz,g1,k1,a1,a2]
end
def Rc(W:Sm')(e:En)(st:Sto)(e':En)(st':Sto):Prop:=∀r,W e' st'=some r→W e st=some r
theorem Rc.refl{e:En}{st:Sto}:Rc W e st e st:=fun _ h=>h
theorem Rc.trans{e e' e2:En}{st st' st2:Sto}(h:Rc W e st e' st')(h':Rc W e' st' e2 st2):Rc W e st e2 st2:=fun r q=>h r (h' r q)
def Fr(p q:Nat)(st st':Sto):Prop:=∀(l:Nat) c,l≠p→l≠q→st[l]?=some c→st'[l]?=some c
theorem Fr.refl(p q:Nat)(st:Sto):Fr p q st st:=fun _ _ _ _ h=>h
theorem Fr.trans{p q:Nat}{a b c:Sto}(h:Fr p q a b)(h':Fr p q b c):Fr p q a c:=fun l x n m e=>h' l x n m (h l x n m e)
theorem Fr.kp{p q:Nat}{a b:Sto}(h:Kp p a b):Fr p q a b:=fun l c n _ e=>h l c n e
theorem Fr.kq{p q:Nat}{a b:Sto}(h:Kp q a b):Fr p q a b:=fun l c _ n e=>h l c n e
theorem Kp.set1{p:Nat}{a:Sto}{c:C}:Kp p a (a.set p c):=(Kp.refl _ _).set
def aW:List Str:=["form","call","atom"]
def pW:List Str:=["same","and","or","if"]
def nW:List Str:=["all","some"]
section
variable {x w:Str}{b:Bool}
variable{st:Sto}
theorem Mx{ss:List Str}:inD (.s x) (.k (ss.map D.s)) st=some (.b (ss.contains x),st):=by
 have e:Ci (.s x) (.k (ss.map D.s)) st=some (ss.contains x):=by
  show((Fl (.s x)).bind fun a=>((ss.map D.s).mapM Fl).map fun vs=>wZ a vs)=_;rw[rN];show some (wZ (.str x) (ss.map V.str))=_;rw[oO]
 unfold inD;rw[e]
theorem pP(h:aW.contains x=b):inD (.s x) jL st=some (.b b,st):=by rw[←h];exact Mx (ss:=aW)
theorem wC(h:pW.contains x=b):inD (.s x) jM st=some (.b b,st):=by rw[←h];exact Mx (ss:=pW)
theorem lM(h:nW.contains x=b):inD (.s x) dE st=some (.b b,st):=by rw[←h];exact Mx (ss:=nW)
theorem pQ{x:D}{as:List D}(h:aW.contains w=true):bP [.t [.s w,x,.t as]] st=some (.t as,st):=by
 simp only[bP,fN];simp[pP h]
theorem Dv{a b:D}(h1:aW.contains w=false)(h:pW.contains w=true):bP [.t [.s w,a,b]] st=some (.t [a,b],st):=by
 simp only[bP,fN];simp[pP h1,wC h]
theorem Tr{k a:D}(h1:aW.contains w=false)(h2:pW.contains w=false)(h:nW.contains w=true):bP [.t [.s w,k,a]] st=some (.t [a],st):=by
 simp only[bP,fN];simp[pP h1,wC h2,lM h]
theorem wD{tl:List D}(h1:aW.contains w=false)(h2:pW.contains w=false)(h:nW.contains w=false):bP [.t (.s w::tl)] st=some (.t [],st):=by
 simp only[bP,fN];simp[pP h1,wC h2,lM h]
end
def Dw:Sm':=(aE (sA (Hg "list" iM (eV 2)) (gN 3))
   (aE (sI (eA gZ (bL (eV 3) (eC (.i 0))) (eC (.s "free"))) (sE (FW (eV 1) (aC (bL (eV 3) (eC (.i 1))) aN))) sN)
   (sE (rX "list" cN (eV 2) (aC (aM bP (aC (eV 3) aN)) aN)))))
def GI:Sm':=oP (gE (eV 2)) Dw
def FFs(ds:List D)(L:List Str)(c:Nat):Prop:=ds.length≤c∧∀(lp lf:Nat) (rest:List D) (acc:List Str) (a0 a3:Option D) (st:Sto),lp≠lf→st[lp]?=some (.l (rest++ds))→st[lf]?=some (.st acc)→rest.length+c≤50000→acc.length+L.length<4000→
 ∃acc' a3' st',Rc GI [a0,some (.r lf),some (.r lp),a3] st [a0,some (.r lf),some (.r lp),a3'] st'∧st'[lp]?=some (.l rest)∧st'[lf]?=some (.st acc')∧(∀x,x∈acc' ↔ x∈acc∨x∈L)∧acc'.length≤acc.length+L.length∧Fr lp lf st st'
theorem pR:FFs [] [] 0:=⟨W11 _,fun lp lf rest acc a0 a3 st _ h h' _ _=>⟨acc,a3,st,.refl,by simpa using h,h',by simp,by simp,.refl _ _ _⟩⟩
theorem wF{ds es:List D}{L M:List Str}{c:Nat}(h:FFs ds L c)(h':FFs es M c'):FFs (ds++es) (L++M) (c+c'):=by
 refine⟨by have:=h.1;have:=h'.1;simp;lia,fun lp lf rest acc a0 a3 st hne hs hf hl ha=>?_⟩;have:=h.1;rw[V12]at ha;obtain⟨acc1,b3,st1,g1,g2,g3,g4,g5,g6⟩:=h'.2 lp lf (rest++ds) acc a0 a3 st hne (by rw[hs];simp) hf (by simp;lia) (by lia);obtain⟨acc2,c3,st2,k1,k2,k3,k4,k5,k6⟩:=h.2 lp lf rest acc1 a0 b3 st1 hne g2 g3 (by lia) (by lia);refine⟨acc2,c3,st2,g1.trans k1,k2,k3,fun x=>?_,by rw[V12];lia,g6.trans k6⟩;rw[k4,g4,Z21]
 constructor
 ·rintro ((h|h)|h)
  ·exact .inl h
  ·exact .inr (.inr h)
  ·exact .inr (.inl h)
 ·rintro (h|h|h)
  ·exact .inl (.inl h)
  ·exact .inr h
  ·exact .inl (.inr h)
theorem FFs.le{ds:List D}{L:List Str}{c:Nat}(h:FFs ds L c)(hc:c≤c'):FFs ds L c':=⟨Y14 h.1 hc,fun lp lf rest acc a0 a3 st h1 h2 h3 h4 h5=>h.2 lp lf rest acc a0 a3 st h1 h2 h3 (by lia) h5⟩
theorem fA{w:Str}{tl ds:List D}{L:List Str}{c:Nat}(hw:(w==("free":Str))=false)(hp:∀st,bP [.t (.s w::tl)] st=some (.t ds,st))(h:FFs ds L c):FFs [.t (.s w::tl)] L (c+1):=by
 refine⟨by simp,fun lp lf rest acc a0 a3 st hne hs hf hl ha=>?_⟩;have hc:=h.1;have h1:kC (.r lp) st=some (true,st):=by rw[iO hs,lL (by simp)];rfl
 have h2:dO "list" (.r lp) st=some ((),st):=dJ hs;have h3:iM (.r lp) [] st=some (.t (.s w::tl),st.set lp (.l rest)):=kF hs;have h4:(st.set lp (.l rest))[lp]?=some (.l rest):=dM hs;have k1:Kp lp st (st.set lp (.l rest)):=Kp.set1;generalize st.set lp (.l rest)=st1 at h3 h4 k1;have h5:dO "list" (.r lp) st1=some ((),st1):=dJ h4;have h6:cN (.r lp) [.t ds] st1=some (.no,st1.set lp (.l (rest++ds))):=tS h4 (zm (by lia));have h7:(st1.set lp (.l (rest++ds)))[lp]?=some (.l (rest++ds)):=dM h4;have k2:Kp lp st (st1.set lp (.l (rest++ds))):=k1.set;generalize st1.set lp (.l (rest++ds))=st2 at h6 h7 k2;obtain⟨acc',c3,st3,g1,g2,g3,g4,g5,g6⟩:=h.2 lp lf rest acc a0 (some (.t (.s w::tl))) st2 hne h7 (k2 _ _ hne.symm hf) (by lia) ha;refine⟨acc',c3,st3,Rc.trans (fun r hr=>iN (st1:=st) (st2:=st2) (env1:=[a0,some (.r lf),some (.r lp),some (.t (.s w::tl))]) ?_ ?_ hr) g1,g2,g3,g4,g5,(Fr.kp k2).trans g6⟩
 ·simp[h1]
 ·simp[Dw,h2,h3,hw,h5,hp st1,h6]
theorem My{x:Str}:FFs [.t [.s "free",.s x]] [x] 1:=by
 refine⟨by simp,fun lp lf rest acc a0 a3 st hne hs hf hl ha=>?_⟩;have h1:kC (.r lp) st=some (true,st):=by rw[iO hs,lL (by simp)];rfl
 have h2:dO "list" (.r lp) st=some ((),st):=dJ hs;have h3:iM (.r lp) [] st=some (.t [.s "free",.s x],st.set lp (.l rest)):=kF hs;have h4:(st.set lp (.l rest))[lp]?=some (.l rest):=dM hs;have k1:Kp lp st (st.set lp (.l rest)):=Kp.set1;generalize st.set lp (.l rest)=st1 at h3 h4 k1;have hf1:=k1 _ _ hne.symm hf;have s1:CG (.r lf) st1=some ((),st1):=by unfold CG;dsimp only;rw[hf1]
 have s2:CH (.r lf) (.s x) st1=some (.no,st1.set lf (.st (if x∈acc then acc else acc++[x]))):=by
  unfold CH;dsimp only;rw[hf1];dsimp only;rw[if_pos (by simp at ha;lia)]
 have hf2:(st1.set lf (.st (if x∈acc then acc else acc++[x])))[lf]?=some (.st (if x∈acc then acc else acc++[x])):=dM hf1;have k2:Kp lf st1 (st1.set lf (.st (if x∈acc then acc else acc++[x]))):=Kp.set1;have hm:∀y,y∈(if x∈acc then acc else acc++[x]) ↔ y∈acc∨y∈[x]:=by
  intro y
  split
  ·rename_i hx
   constructor
   ·exact .inl
   ·rintro (h|h)
    ·exact h
    ·rw[Y15.mp h];exact hx
  ·exact Z21
 have hlen:(if x∈acc then acc else acc++[x]).length≤acc.length+1:=by split<;>simp
 generalize (if x∈acc then acc else acc++[x])=acc' at s2 hf2 k2 hm hlen;generalize st1.set lf (.st acc')=st2 at s2 hf2 k2;have h5':=k2 _ _ hne h4;have h5:dO "list" (.r lp) st2=some ((),st2):=dJ h5';have h6:cN (.r lp) [.t []] st2=some (.no,st2.set lp (.l (rest++[]))):=tS h5' (zm (by simp;lia));have h7:(st2.set lp (.l (rest++[])))[lp]?=some (.l (rest++[])):=dM h5';have k3:Kp lp st2 (st2.set lp (.l (rest++[]))):=Kp.set1;generalize st2.set lp (.l (rest++[]))=st3 at h6 h7 k3;refine⟨acc',some (.t [.s "free",.s x]),st3,fun r hr=>iN (st1:=st) (st2:=st3) (env1:=[a0,some (.r lf),some (.r lp),some (.t [.s "free",.s x])]) ?_ ?_ hr,by simpa using h7,k3 _ _ hne.symm hf2,hm,by simpa using hlen,((Fr.kp k1).trans (Fr.kq k2)).trans (Fr.kp k3)⟩
 ·simp[h1]
 ·have hp:=wD (st:=st2) (w:="free") (tl:=[.s x]) (by decide) (by decide) (by decide);simp[Dw,h2,h3,s1,s2,h5,hp,h6]
theorem mZ{n:Nat}{c:Nat}:∀(ps:List (D×List Str)),(∀q∈ps,FFs [q.1] q.2 c)→FFs (ps.map (·.1)) (ps.flatMap (·.2)) (ps.length*c)
 |[],_=>pR.le (by simp)
 |p::ps,h=>by
  have h1:=h p (by simp);have h2:=mZ (n:=n) ps fun q hq=>h q (U11 _ hq);have:=wF h1 h2;rw[Z12,U26,Z14,Nat.add_mul,Nat.one_mul];refine FFs.le this (by lia)
def fC:Nat→Nat
 |0=>1
 |n+1=>4*fC n+1
theorem Bi(n:Nat):1≤fC n:=by
 cases n with
 |zero=>exact W11 _
 |succ n=>show 1≤4*fC n+1;lia
theorem Mz{m n:Nat}{t:D}{L:List Str}(h:Tw m n t L):FFs [t] L (fC n):=by
 induction h with
 |bnd n k hk=>exact(fA (by decide) (fun st=>wD (by decide) (by decide) (by decide)) pR).le (Bi n)
 |fre n x hx=>exact My.le (Bi n)
 |form0 n w hw=>exact(fA (by decide) (fun st=>pQ (by decide)) pR).le (Bi n)
 |form n w ps hw h0 h4 _ ih=>
  refine(fA (by decide) (fun st=>pQ (by decide)) (mZ (n:=n) ps ih)).le ?_;have:ps.length*fC n≤4*fC n:=W15 _ h4;show _≤4*fC n+1
  lia
 |call n w ps hw h4 _ ih=>
  refine(fA (by decide) (fun st=>pQ (by decide)) (mZ (n:=n) ps ih)).le ?_;have:ps.length*fC n≤4*fC n:=W15 _ h4;show _≤4*fC n+1
  lia
def gC:Nat→Nat
 |0=>90
 |n+1=>2*gC n+1
theorem wG(n:Nat):90≤gC n:=by
 cases n with
 |zero=>exact W11 _
 |succ n=>have:=wG n;show 90≤2*gC n+1;lia
theorem GJ{m n:Nat}{t:D}{L:List Str}(h:Sw m n t L):FFs [t] L (gC n):=by
 induction h with
 |fal m n=>exact(fA (by decide) (fun st=>wD (by decide) (by decide) (by decide)) pR).le (by have:=wG n;lia)
 |same m n a b L M h1 h2=>
  refine(fA (by decide) (fun st=>Dv (by decide) (by decide)) (wF (Mz h1) (Mz h2))).le ?_;have:=wG n;have:fC 2=21:=rfl
  lia
 |atom m n w ps hw h4 h=>
  refine(fA (by decide) (fun st=>pQ (by decide)) (mZ (n:=n) ps fun q hq=>Mz (h q hq))).le ?_;have:ps.length*fC 2≤4*fC 2:=W15 _ h4;have:=wG n;have:fC 2=21:=rfl
  lia
 |join m n k sg A B L M hk _ _ ih1 ih2=>
  have hc:∀q∈jws,(q.1==("free":Str))=false∧aW.contains q.1=false∧pW.contains q.1=true:=by decide
  obtain⟨c1,c2,c3⟩:=hc _ hk;refine(fA c1 (fun st=>Dv c2 c3) (wF ih1 ih2)).le ?_;show _≤2*gC n+1
  lia
 |bind m n w K A L hw hK _ ih=>
  have hc:∀q∈bws,(q==("free":Str))=false∧aW.contains q=false∧pW.contains q=false∧nW.contains q=true:=by decide
  obtain⟨c1,c2,c3,c4⟩:=hc _ hw;refine(fA c1 (fun st=>Tr c2 c3 c4) ih).le ?_;show _≤2*gC n+1
  lia
theorem Gz{d:D}{c:Nat}{L:List Str}(h:FFs [d] L c)(hc:c≤50000)(hL:L.length<4000)(st:Sto):∃f st' P,lJ [d] st=some (.r f,st')∧Ext st st'∧st.length≤f∧st'[f]?=some (.p P)∧(∀x,x∈P ↔ x∈L)∧P.length≤L.length:=by
 have x1:Ext st (st++[.st []]):=Ext.app _ _;have x2:Ext (st++[.st []]) (st++[.st []]++[.l [d]]):=Ext.app _ _;have hs:(st++[C.st []]++[.l [d]])[(st++[C.st []]).length]?=some (.l ([]++[d])):=by simp
 have hs0:(st++[C.st []]++[.l [d]])[st.length]?=some (.st []):=by simp
 have hn:(st++[C.st []]).length=st.length+1:=by simp
 rw[hn]at hs;obtain⟨P,a3,st1,g1,g2,g3,g4,g5,g6⟩:=h.2 (st.length+1) st.length [] [] (some d) none _ (by lia) hs hs0 (by simpa using hc) (by simpa using hL);simp only[Y25,Z38]at g5;have t1:kC (.r (st.length+1)) st1=some (false,st1):=iO g2;have hw:=g1 _ (iG (tb:=Dw) (tc:=gE (eV 2)) (st1:=st1) (by simp[t1]));have hso:mR [.r st.length] st1=some (.r st1.length,st1++[.p P]):=by
  show(match st1[st.length]? with |some (.st L)=>if L.length≤5000 then some (D.r st1.length,st1++[C.p L]) else none|_=>none)=_;rw[g3];dsimp only;rw[if_pos (by lia)]
 have hl:st.length≤st1.length:=by have:=(U10.mp g3).1;lia
 refine⟨st1.length,st1++[.p P],P,?_,fun l c e=>Ext.app _ _ l c (g6 l c (by have:=(U10.mp e).1;lia) (by have:=(U10.mp e).1;lia) ((x1.trans x2) l c e)),hl,by simp,fun x=>by rw[g4];simp,g5⟩;have hw':oP (gE (eV 2)) (aE (sA (Hg "list" iM (eV 2)) (gN 3))
   (aE (sI (eA gZ (bL (eV 3) (eC (.i 0))) (eC (.s "free"))) (sE (FW (eV 1) (aC (bL (eV 3) (eC (.i 1))) aN))) sN)
   (sE (rX "list" cN (eV 2) (aC (aM bP (aC (eV 3) aN)) aN))))) [some d,some (.r st.length),some (.r (st.length+1)),none] (st++[.st []]++[.l [d]])=some ((.nx,[some d,some (.r st.length),some (.r (st.length+1)),a3]),st1):=hw
 simp only[lJ,nR,sW];generalize oP _ _=W at hw' ⊢;simp at hw';simp[hw',hso]
theorem Ext.len{st st':Sto}(h:Ext st st'):st.length≤st'.length:=by
 rcases Nat.eq_zero_or_pos st.length with e|e
 ·lia
 ·have:=h (st.length-1) st[st.length-1] (U13 (by lia));have:=(U10.mp this).1
  lia
abbrev PT:List (Str×(List D→M D)):=pick T28.dl 5
def BM:Sm':=(aE (sA (Hg "list" iM (eV 2)) (gN 4))
   (sI (gE (aM bD (aC (eV 4) (aC (eC (.ty "str")) aN)))) (sE (rX "list" eH (eV 3) (aC (eV 4) aN))) (aE (sA (bL (eC mI) (bL (eV 4) (eC (.i 0)))) (gN 5))
   (sE (rX "list" cN (eV 2) (aC (CI (AJ PT 5 (aC (bL (eV 4) (eC (.i 1))) (aC (bL (eV 4) (eC (.i 2))) aN))) (Fy mP (eC (.i 1)))) aN))))))
def KO:Sm':=oP (gE (eV 2)) BM
abbrev Ar:=Option (Nat×List Str)
def GS(G:Ar)(st:Sto):Prop:=∀f P,G=some (f,P)→st[f]?=some (.p P)
def Gd(G:Ar)(lp lt:Nat):Prop:=∀f P,G=some (f,P)→f≠lp∧f≠lt
theorem GS.fr{G:Ar}{lp lt:Nat}{st st':Sto}(h:GS G st)(g:Gd G lp lt)(k:Fr lp lt st st'):GS G st':=fun f P e=>k f _ (g f P e).1 (g f P e).2 (h f P e)
theorem GS.ext{G:Ar}{st st':Sto}(h:GS G st)(k:Ext st st'):GS G st':=fun f P e=>k f _ (h f P e)
def Exs(G:Ar)(xs:List D)(s:List Nat)(c:Nat):Prop:=xs.length≤c∧∀(lp lt:Nat) (a0 a1:Option D) (rest:List D) (ts:List Str) (a4 a5:Option D) (st:Sto),lp≠lt→Gd G lp lt→GS G st→st[lp]?=some (.l (rest++xs.reverse))→st[lt]?=some (.l (ts.map D.s))→rest.length+c≤50000→ts.length+c≤50000→
 ∃us a4' a5' st',Rc KO [a0,a1,some (.r lp),some (.r lt),a4,a5] st [a0,a1,some (.r lp),some (.r lt),a4',a5'] st'∧st'[lp]?=some (.l rest)∧st'[lt]?=some (.l ((ts++us).map D.s))∧cat us=s∧us.length≤c∧Fr lp lt st st'
section
variable {xs:List D}{s:List Nat}{c:Nat}
variable{G:Ar}
theorem Ts:Exs G [] [] 0:=⟨W11 _,fun lp lt a0 a1 rest ts a4 a5 st _ _ _ h h' _ _=>⟨[],a4,a5,st,.refl,by simpa using h,by simpa using h',rfl,W11 _,.refl _ _ _⟩⟩
theorem dX{ys:List D}{s':List Nat}(h:Exs G xs s c)(h':Exs G ys s' c'):Exs G (xs++ys) (s++s') (c+c'):=by
 have hc:=h.1;have hc':=h'.1;refine⟨by simp;lia,fun lp lt a0 a1 rest ts a4 a5 st hne hg hs hp ht h1 h2=>?_⟩;obtain⟨us,b4,b5,st1,g1,g2,g3,g4,g5,g6⟩:=h.2 lp lt a0 a1 (rest++ys.reverse) ts a4 a5 st hne hg hs (by rw[hp];simp) ht (by simp;lia) (by lia);obtain⟨vs,c4,c5,st2,k1,k2,k3,k4,k5,k6⟩:=h'.2 lp lt a0 a1 rest (ts++us) b4 b5 st1 hne hg (hs.fr hg g6) g2 g3 (by lia) (by simp;lia);exact⟨us++vs,c4,c5,st2,g1.trans k1,k2,by rw[k3];simp,by rw[To,g4,k4],by simp;lia,g6.trans k6⟩
theorem eF(h:Exs G xs s c)(hc:c≤c'):Exs G xs s c':=⟨Y14 h.1 hc,fun lp lt a0 a1 rest ts a4 a5 st h1 h2 h3 h4 h5 h6 h7=>by
 obtain⟨us,b4,b5,st1,g1,g2,g3,g4,g5,g6⟩:=h.2 lp lt a0 a1 rest ts a4 a5 st h1 h2 h3 h4 h5 (by lia) (by lia);exact⟨us,b4,b5,st1,g1,g2,g3,g4,by lia,g6⟩⟩
theorem eI(x:Str):Exs G [.s x] (cp x) 1:=by
 refine⟨by simp,fun lp lt a0 a1 rest ts a4 a5 st hne hg hs hp ht h1 h2=>?_⟩;rw[show([D.s x]).reverse=[.s x] from rfl]at hp;have e1:kC (.r lp) st=some (true,st):=by rw[iO hp,lL (by simp)];rfl
 have e2:dO "list" (.r lp) st=some ((),st):=dJ hp;have e3:iM (.r lp) [] st=some (.s x,st.set lp (.l rest)):=kF hp;have e4:(st.set lp (.l rest))[lp]?=some (.l rest):=dM hp;have k1:Kp lp st (st.set lp (.l rest)):=Kp.set1;generalize st.set lp (.l rest)=st1 at e3 e4 k1;have e5:=k1 _ _ hne.symm ht;have e6:dO "list" (.r lt) st1=some ((),st1):=dJ e5;have e7:eH (.r lt) [.s x] st1=some (.no,st1.set lt (.l (ts.map D.s++[.s x]))):=nL e5 (by rw[Y12,U12];lia);have e8:(st1.set lt (.l (ts.map D.s++[.s x])))[lt]?=some (.l (ts.map D.s++[.s x])):=dM e5;have k2:Kp lt st1 (st1.set lt (.l (ts.map D.s++[.s x]))):=Kp.set1;generalize st1.set lt (.l (ts.map D.s++[.s x]))=st2 at e7 e8 k2;refine⟨[x],some (.s x),a5,st2,fun r hr=>iN (st1:=st) (st2:=st2) (env1:=[a0,a1,some (.r lp),some (.r lt),some (.s x),a5]) ?_ ?_ hr,k2 _ _ hne e4,by rw[e8];simp,by simp[cat],W11 _,(Fr.kp k1).trans (Fr.kq k2)⟩
 ·simp[e1]
 ·have e9:bD [.s x,.ty "str"] st1=some (.b true,st1):=rfl;simp[BM,e2,e3,e9,e6,e7]
theorem jW{part ar:D}{fnm:Str}{g:List D→M D}(h1:∀st,jO mI (.s sort) st=some (.fn fnm,st))(h2:PT.lookup fnm=some g)
  (h:∀st,GS G st→Du (g [part,ar]) st xs)(p1:Exs G xs s c):Exs G [.t [.s sort,part,ar]] s (c+1):=by
 refine⟨by simp,fun lp lt a0 a1 rest ts a4 a5 st hne hg hs hp ht b1 b2=>?_⟩;rw[show([D.t [.s sort,part,ar]]).reverse=[.t [.s sort,part,ar]] from rfl]at hp;have e1:kC (.r lp) st=some (true,st):=by rw[iO hp,lL (by simp)];rfl
 have e2:dO "list" (.r lp) st=some ((),st):=dJ hp;have e3:iM (.r lp) [] st=some (.t [.s sort,part,ar],st.set lp (.l rest)):=kF hp;have e4:(st.set lp (.l rest))[lp]?=some (.l rest):=dM hp;have k1:Kp lp st (st.set lp (.l rest)):=Kp.set1;generalize st.set lp (.l rest)=st1 at e3 e4 k1;obtain⟨l,st2,e5,x2,e6⟩:=h st1 (hs.fr hg (Fr.kp k1));have e7:=x2 _ _ e4;have e8:dO "list" (.r lp) st2=some ((),st2):=dJ e7;have hc:=p1.1;have e9:yB (.r l) (.i (-1)) st2=some (.r st2.length,st2++[C.l xs.reverse]):=Dt e6;have x3:Ext st2 (st2++[C.l xs.reverse]):=Ext.app _ _;have f1:cN (.r lp) [.r st2.length] (st2++[C.l xs.reverse])=some (.no,(st2++[C.l xs.reverse]).set lp (.l (rest++xs.reverse))):=lG (x3 _ _ e7) (by simp) (zm (by simp;lia));have f2:((st2++[C.l xs.reverse]).set lp (.l (rest++xs.reverse)))[lp]?=some (.l (rest++xs.reverse)):=dM (x3 _ _ e7);have k3:Kp lp st ((st2++[C.l xs.reverse]).set lp (.l (rest++xs.reverse))):=(k1.trans (Kp.of (x2.trans x3))).set;have e8':dO "list" (.r lp) st1=some ((),st1):=dJ e4;generalize (st2++[C.l xs.reverse]).set lp (.l (rest++xs.reverse))=st3 at f1 f2 k3;obtain⟨us,c4,c5,st4,g1,g2,g3,g4,g5,g6⟩:=p1.2 lp lt a0 a1 rest ts (some (.t [.s sort,part,ar])) (some (.fn fnm)) st3 hne hg (hs.fr hg (Fr.kp k3)) f2 (k3 _ _ hne.symm ht) (by lia) (by lia);refine⟨us,c4,c5,st4,Rc.trans (fun r hr=>iN (st1:=st) (st2:=st3) (env1:=[a0,a1,some (.r lp),some (.r lt),some (.t [.s sort,part,ar]),some (.fn fnm)]) ?_ ?_ hr) g1,g2,g3,g4,by lia,(Fr.kp k3).trans g6⟩
 ·simp[e1]
 ·have f3:bD [.t [.s sort,part,ar],.ty "str"] st1=some (.b false,st1):=by
   show(if "tuple"="str" then some (D.b true,st1) else if("tuple","str")∈qQ then some (D.b false,st1) else none)=_;rw[if_neg (by decide),if_pos (by decide)]
  have f4:Cp PT (.fn fnm) [part,ar] st1=some (.r l,st2):=by
   show(match PT.lookup fnm with |some g=>g [part,ar]|none=>bad) st1=_;rw[h2];exact e5
  simp only[BM];generalize PT=TT at f4⊢;simp[e2,e3,f3,h1,f4,e9,e8,e8',f1]
end
theorem Dx:PT.lookup ("term_pieces":Str)=some bV:=by kernel_rfl
theorem fB:PT.lookup ("statement_pieces":Str)=some bG:=by kernel_rfl
theorem px{kvs:List (Key×D)}{x:Str}{d:D}(h:hU kvs (.inr x)=some d)(st:Sto):jO (.dc kvs) (.s x) st=some (d,st):=by
 have e:Hf st (.dc kvs) (.s x)=some d:=h;unfold jO;rw[e]
theorem yV{t:En→M (List D)}{env:En}{st:Sto}{xs:List D}(h:t env st=some (xs,st))(hl:xs.length≤1000):Du (eL t env) st xs:=by
 refine⟨st.length,st++[.l xs],?_,Ext.app _ _,by simp⟩;rw[FJ,h,mQ,Rz,aF (zm (by lia)),Rx]
theorem Du.eq{m m':M D}{st:Sto}{xs:List D}(h:Du m st xs)(e:m' st=m st):Du m' st xs:=by
 obtain⟨l,st1,e1,r⟩:=h;exact⟨l,st1,by rw[e,e1],r⟩
section
variable {sc:List Str}
variable{G:Ar}
theorem Bj{ar:D}{c:Nat}:∀(qs:List (D×Str)),(∀q∈qs,Exs G [.t [.s "term",q.1,ar]] (cp q.2) c)→Exs G (cm true ((qs.map (·.1)).map fun x=>[.t [.s "term",x,ar]])) (jn (cp ", ") (qs.map (·.2))) (qs.length*(c+1))
 |[],_=>eF Ts (by simp)
 |[q],h=>by
  have h1:=h q (by simp);simp only[Z12,W21,cm,jn,U19];exact eF h1 (by simp)
 |q::q2::r,h=>by
  have h1:=h q (by simp);have ih:=Bj (ar:=ar) (q2::r) fun y hy=>h y (U11 _ hy);have e:=dX h1 (dX (eI (G:=G) ", ") ih);refine eF e ?_;simp only[Z14,Nat.add_mul,Nat.one_mul]
  lia
theorem wH{c:Sto→Prop}{te:En→M D}{cap:En}{st0:Sto}(hc:∀st,c st):∀(qs:List (D×Str)) (acc:List D) (st:Sto),Ext st0 st→(∀q∈qs,∀s,Ext st0 s→∃s',te ([some q.1]++cap) s=some (.s q.2,s')∧Ext s s')→
  ∃st',aY c bd1 (fun _=>L2.ret true) te cap (qs.map (·.1)) acc st=some (acc++(qs.map (·.2)).map D.s,st')∧Ext st st'
 |[],acc,st,_,_=>⟨st,by rw[W21,aY,aS (hc st)];simp,.refl _⟩
 |q::qs,acc,st,x0,h=>by
  obtain⟨s1,e1,x1⟩:=h q (by simp) st x0;obtain⟨st',g1,g2⟩:=wH hc qs (acc++[.s q.2]) s1 (x0.trans x1) fun y hy=>h y (U11 _ hy);refine⟨st',?_,x1.trans g2⟩;rw[Z12,aY,aS (hc st)];show(bnd (L2.ret true) fun b=>if b=true then bnd (te ([some q.1]++cap)) fun z=>aY c bd1 (fun _=>L2.ret true) te cap (qs.map (·.1)) (acc++[z]) else _) st=_;rw[aR (show(L2.ret true:M Bool) st=some (true,st) from rfl),if_pos rfl,aR e1,g1];simp
def JS(G:Ar)(sc:List Str)(ar:D):Prop:=(∃f P,G=some (f,P)∧ar=.t [.t (sc.map D.s),.r f])∨(sc=[]∧ar=dA)
def tC:Nat→Nat
 |0=>2
 |n+1=>4*(tC n+1)+3
theorem GK(n:Nat):2≤tC n:=by
 cases n with
 |zero=>exact W11 _
 |succ n=>show 2≤4*(tC n+1)+3;lia
def Na(sc:List Str)(n:Nat)(t:D)(s:Str):Prop:=∀k st l,n<k→st[l]?=some (.l (sc.reverse.map D.s))→∃st',aH k [t,.r l] st=some (.s s,st')∧Ext st st'
structure Shw (G:Ar) (sc:List Str) (n:Nat) (t:D) (s:Str):Prop where
 tm:Tm sc n t s
 fair:Na sc n t s
 ex:∀ar,JS G sc ar→Exs G [.t [.s "term",t,ar]] (cp s) (tC n)
theorem v1:(("form":Str)==("free":Str))=false:=by decide
theorem v2:(("form":Str)==("bound":Str))=false:=by decide
theorem v3:(("call":Str)==("free":Str))=false:=by decide
theorem v4:(("call":Str)==("bound":Str))=false:=by decide
theorem v5:(("call":Str)==("form":Str))=false:=by decide
theorem v6:(("bound":Str)==("free":Str))=false:=by decide
theorem Nb{k:Nat}(hnd:sc.Nodup)(hk:k<sc.length):iB sc (sc.reverse.getD k "")=.t [.s "bound",.i (k:Nat)]:=by
 have hk':k<sc.reverse.length:=by simpa using hk
 have hg:sc.reverse.getD k ""=sc.reverse[k]:=by rw[W18,U13 hk'];rfl
 unfold iB;have:sc.reverse.findIdx? (·==sc.reverse.getD k "")=some k:=by
  rw[Z30];refine⟨hk',by rw[hg];simp,fun j hj=>?_⟩;rw[hg];have hn:sc.reverse.Nodup:=(W41 sc).symm.nodup hnd;have:=(List.pairwise_iff_getElem.mp (List.nodup_iff_pairwise_ne.mp hn)) j k (by lia) hk' hj
  simpa using this
 rw[this]
theorem Nc{x:Str}(h:x∉sc):iB sc x=.t [.s "free",.s x]:=by
 unfold iB;have:sc.reverse.findIdx? (·==x)=none:=by
  rw[List.findIdx?_eq_none_iff];intro y hy;have:y≠x:=fun e=>h (by rw[←e];simpa using hy)
  simpa using this
 rw[this]
theorem wI{t ar:D}{x:Str}(h:∀st,bV [t,ar] st=eL (aC (eC (.s x)) aN) [] st)(n:Nat):Exs G [.t [.s "term",t,ar]] (cp x) (tC n):=
 eF (jW (px (by kernel_rfl)) Dx (fun st _=>Du.eq (yV (xs:=[.s x]) (by simp) (by simp)) (h st)) (eI x)) (GK n)
theorem Dy{t ar:D}{w h:Str}{qs:List (D×Str)}{s:Str}{n:Nat}(ht:∀st,bV [t,ar] st=cV [.t [.s h,.s w,.t (qs.map (·.1))],ar] st)(h4:qs.length≤4)(hw:w.length≤8)(hs:cp s=jn (cp ", ") (qs.map (·.2)))(ih:∀q∈qs,Exs G [.t [.s "term",q.1,ar]] (cp q.2) (tC n)):
  Exs G [.t [.s "term",t,ar]] (cp (w++("(":Str)++s++(")":Str))) (tC (n+1)):=by
 have e:=dX (eI (G:=G) (w++("(":Str))) (dX (Bj qs ih) (eI (G:=G) ")"));rw[←hs,←aX,←aX,show w++("(":Str)++(s++(")":Str))=w++("(":Str)++s++(")":Str) from kU (by simp only[aX,W10])]at e;refine eF (jW (px (by kernel_rfl)) Dx (fun st _=>Du.eq (oX (w:=h) (nm:=w) (args:=qs.map (·.1)) (by simp;lia) (by lia)) (ht st)) e) ?_;have:qs.length*(tC n+1)≤4*(tC n+1):=W15 _ h4;show _≤4*(tC n+1)+3
 lia
theorem uG{w h:Str}{qs:List (D×Str)}{s:Str}{n:Nat}(hh:(h="form"∧qs≠[])∨h="call")(hn:n<5)(h4:qs.length≤4)(hw:w.length≤8)(hs:cp s=jn (cp ", ") (qs.map (·.2)))(hl:∀q∈qs,q.2.length≤tB n)(ih:∀q∈qs,Na sc n q.1 q.2):
  Na sc (n+1) (.t [.s h,.s w,.t (qs.map (·.1))]) (w++("(":Str)++s++(")":Str)):=by
 intro k st l hk hc;obtain⟨k,rfl⟩:∃j,k=j+1:=⟨k-1,by lia⟩;obtain⟨st1,g1,g2⟩:=wH (c:=fun _=>True) (te:=aM (aH k) (aC (eV 0) (aC (eV 1) aN))) (cap:=[some (.r l)]) (st0:=st) (fun _=>trivial) qs [] st (.refl _) (by
  intro q hq s x;obtain⟨s',e1,e2⟩:=ih q hq k s l (by lia) (x _ _ hc);exact⟨s',by simp[e1],e2⟩)
 have hB:∀n,n<5→tB n≤20000:=by decide
 have hBn:=hB n hn;have hjl:(jn (cp ", ") (qs.map (·.2))).length≤90000:=by
  have h1:=mE (b:=tB n) (qs.map (·.2)) (by intro t ht;obtain⟨q,hq,rfl⟩:=V17.mp ht;exact hl q hq);rw[U12]at h1;have h3:qs.length*(tB n+2)≤4*(tB n+2):=W15 _ h4
  lia
 have hsum:=vZ (qs.map (·.2));have hsl:s.length≤90000:=by rw[←bM,hs];exact hjl
 have hj:iH (.s ", ") [.r st1.length] (st1++[.l ((qs.map (·.2)).map D.s)])=some (.s s,st1++[.l ((qs.map (·.2)).map D.s)]):=pN (by simp) hs.symm (by rw[U12,show(", ":Str).length=2 from rfl];lia);refine⟨st1++[.l ((qs.map (·.2)).map D.s)],?_,g2.trans (Ext.app _ _)⟩;have n1:w.length+("(":Str).length≤sizeLine:=by rw[Y12,show("(":Str).length=1 from rfl];lia
 have n2:(w++("(":Str)).length+s.length≤sizeLine:=by rw[Y12,len_app,show("(":Str).length=1 from rfl];lia
 have n3':(w++("(":Str)++s).length+(")":Str).length≤sizeLine:=by rw[Y12,len_app,len_app,show("(":Str).length=1 from rfl,show(")":Str).length=1 from rfl];lia
 have hz:(qs.map (·.1)).length<sizeLine:=by rw[Y12];simp;lia
 rw[W13]at g1;have hne:h="form"→∀st,gZ (.t (qs.map (·.1))) (.t []) st=some (.b false,st):=by
  intro e st;rcases hh with⟨_,hq⟩|hq
  ·cases qs with
   |nil=>exact absurd rfl hq
   |cons a b=>rfl
  ·rw[e]at hq;exact absurd hq (by decide)
 generalize (qs.map (·.2)).map D.s=Z at *;generalize qs.map (·.1)=Y at *;show aL 2 2 (bH (aH k)) _ st=_;generalize aH k=F at g1⊢;rcases hh with⟨rfl,_⟩|rfl
 ·simp[bH,v1,v2,hne rfl,iD,aF hz,g1,hj,aF n1,aF n2,aF n3']
 ·simp[bH,v3,v4,v5,iD,aF hz,g1,hj,aF n1,aF n2,aF n3']
end
section
variable {sc:List Str}{n:Nat}
variable{G:Ar}
theorem Nd{ps:List (D×List Str)}(ih:∀q∈ps,∃s,Shw G sc n q.1 s):∃qs:List (D×Str),qs.map (·.1)=ps.map (·.1)∧qs.length=ps.length∧∀q∈qs,Shw G sc n q.1 q.2:=by
 obtain⟨qs,h1,h2⟩:=mG (P:=fun t s=>Shw G sc n t s) (ps.map (·.1)) (by
  intro t ht;obtain⟨q,hq,rfl⟩:=V17.mp ht;exact ih q hq)
 exact⟨qs,h1,by have:=congrArg List.length h1;simpa using this,h2⟩
theorem pS{m:Nat}{t:D}{L:List Str}(h:Tw m n t L)(hm:sc.length=m)(hnd:sc.Nodup)(hsc:∀x∈sc,iY x=true):n≤5→(∀x∈L,x∉sc)→∃s,Shw G sc n t s:=by
 induction h with
 |bnd n k hk=>
  intro hn hd;have hk':k<sc.length:=by lia
  have hr:k<sc.reverse.length:=by simpa using hk'
  have hg:sc.reverse[k]?=some (sc.reverse.getD k ""):=by rw[W18,U13 hr];rfl
  have hx:iY (sc.reverse.getD k "")=true:=hsc _ (by
   rw[W18,U13 hr];have:=List.getElem_mem hr
   simpa using this)
  refine⟨sc.reverse.getD k "",?_,?_,?_⟩
  ·rw[←Nb hnd hk'];exact .leaf n _ hx
  ·intro j st l hj hl;obtain⟨j,rfl⟩:∃i,j=i+1:=⟨j-1,by lia⟩;have hi:jO (.r l) (.i (k:Nat)) st=some (.s (sc.reverse.getD k ""),st):=by
    rw[gI hl,BH hr]
    rfl
   refine⟨st,?_,.refl _⟩;generalize sc.reverse.getD k ""=x at *;simp[aH,bH,v6,hi]
  ·intro ar har;rcases har with⟨f,P,_,rfl⟩|⟨hz,_⟩
   ·have hi:atI (sc.map D.s) (-1-(k:Nat):Int)=some (.s (sc.reverse.getD k "")):=by
     rw[Dm hk',hg]
     rfl
    refine wI (fun st=>?_) n;generalize sc.reverse.getD k ""=x at *;simp[bV,cW,v6,hi]
   ·rw[hz]at hk';simp at hk'
 |fre n x hx=>
  intro hn hd;have hx':x∉sc:=hd x (by simp);refine⟨x,by rw[←Nc hx'];exact .leaf n _ hx,?_,?_⟩
  ·intro j st l hj hl;obtain⟨j,rfl⟩:∃i,j=i+1:=⟨j-1,by lia⟩;exact⟨st,by simp[aH,bH],.refl _⟩
  ·intro ar har;refine wI (fun st=>?_) n;simp[bV,cW]
 |form0 n w hw=>
  intro hn hd;refine⟨w,.form0 n w hw,?_,?_⟩
  ·intro j st l hj hl;obtain⟨j,rfl⟩:∃i,j=i+1:=⟨j-1,by lia⟩;have he:∀st,gZ (.t []) (.t []) st=some (.b true,st):=fun _=>rfl;exact⟨st,by simp[aH,bH,v1,v2,he],.refl _⟩
  ·intro ar har;refine wI (fun st=>?_) n;simp[bV,cW,v1,v2]
 |form n w ps hw h0 h4 _ ih=>
  intro hn hd;obtain⟨qs,h1,h2,h3⟩:=Nd (G:=G) (sc:=sc) (n:=n) (ps:=ps) fun q hq=>ih q hq (by lia) fun x hx=>hd x (U42.mpr ⟨q,hq,hx⟩);rw[←h1];obtain⟨s,hs⟩:∃s:Str,cp s=jn (cp ", ") (qs.map (·.2)):=⟨⟨(jn (cp ", ") (qs.map (·.2))).toArray⟩,by simp⟩;have hwl:=Bc hw;refine⟨_,.form n w qs s hw (by lia) (by lia) (fun q hq=>(h3 q hq).tm) hs,uG (.inl ⟨rfl,fun e=>by rw[e]at h2;simp at h2;lia⟩) (by lia) (by lia) hwl hs (fun q hq=>(h3 q hq).tm.len) (fun q hq=>(h3 q hq).fair),fun ar har=>Dy (h:="form") (fun st=>?_) (by lia) hwl hs fun q hq=>(h3 q hq).ex ar har⟩;have hz:(((qs.length:Nat):Int)==0)=false:=V28.mpr (by lia);have hl:bZ [.t (qs.map (·.1))] st=some (.i (qs.length:Nat),st):=by rw[zZ,U12]
  generalize qs.map (·.1)=Y at *;simp[bV,cW,v1,v2,-zZ,hl,hz];cases cV [.t [.s "form",.s w,.t Y],ar] st<;>rfl
 |call n w ps hw h4 _ ih=>
  intro hn hd;obtain⟨qs,h1,h2,h3⟩:=Nd (G:=G) (sc:=sc) (n:=n) (ps:=ps) fun q hq=>ih q hq (by lia) fun x hx=>hd x (U42.mpr ⟨q,hq,hx⟩);rw[←h1];obtain⟨s,hs⟩:∃s:Str,cp s=jn (cp ", ") (qs.map (·.2)):=⟨⟨(jn (cp ", ") (qs.map (·.2))).toArray⟩,by simp⟩;have hwl:=(dR hw).2.1;refine⟨_,.call n w qs s hw (by lia) (fun q hq=>(h3 q hq).tm) hs,uG (.inr rfl) (by lia) (by lia) hwl hs (fun q hq=>(h3 q hq).tm.len) (fun q hq=>(h3 q hq).fair),fun ar har=>Dy (h:="call") (fun st=>?_) (by lia) hwl hs fun q hq=>(h3 q hq).ex ar har⟩;generalize qs.map (·.1)=Y at *;simp[bV,cW,v3,v4,v5];cases cV [.t [.s "call",.s w,.t Y],ar] st<;>rfl
end
section
variable{st:Sto}
theorem rW{A:D}{sc P:List Str}{f:Nat}(hf:st[f]?=some (.p P))(hT:(sc++P).length<2109):dP [A,.t [.t (sc.map D.s),.r f]] st=some (.t [.s (oW (sc++P)),.t [.s "statement",A,.t [.t ((sc++[oW (sc++P)]).map D.s),.r f]]],st):=by
 have h1:=yU hf hT;have h3:(sc.map D.s).length+1≤sizeLine:=by
  rw[V12]at hT;rw[U12,Y12];lia
 rw[Y19];generalize oW (sc++P)=x at *;generalize sc.map D.s=X at h1 h3⊢;simp[dP,iA,h1,aF h3]
def jK:List (Key×D):=[(.inr "and",.s " and "),(.inr "or",.s " or "),(.inr "if",.s " -> ")]
theorem Tt{env:En}:Rw [(eC (.s "and"),eC (.s " and ")),(eC (.s "or"),eC (.s " or ")),(eC (.s "if"),eC (.s " -> "))] env st=some (.r st.length,st++[.d jK]):=by
 have hp:nJ [(eC (.s "and"),eC (.s " and ")),(eC (.s "or"),eC (.s " or ")),(eC (.s "if"),eC (.s " -> "))] env (st++[.d []])=some ([(.s "and",.s " and "),(.s "or",.s " or "),(.s "if",.s " -> ")],st++[.d []]):=rfl;unfold Rw;rw[hp];have hdc:dcc (st++[.d []]) st.length=some []:=by
  unfold dcc;rw[Y13]
 dsimp only;rw[hdc];show(if(3:Nat)≤15 then some (D.r st.length,List.set (st++[C.d []]) st.length (.d (nK jK))) else none)=_;rw[if_pos (by decide),Z35 _ _ (W11 _),Nat.sub_self];have hm:nK jK=jK:=rfl;rw[hm];simp
theorem Tu{k sg:Str}(h:(k,sg)∈jws):jO (.r st.length) (.s k) (st++[.d jK])=some (.s sg,st++[.d jK]):=by
 have hv:∀q∈jws,hU jK (.inr q.1)=some (.s q.2):=by
  intro q hq;simp only[jws,Z13,U15,or_false]at hq;rcases hq with rfl|rfl|rfl<;>rfl
 have hdc:dcc (st++[.d jK]) st.length=some jK:=by
  unfold dcc;rw[Y13]
 have e:Hf (st++[.d jK]) (.r st.length) (.s k)=some (.s sg):=by
  show(dcc (st++[.d jK]) st.length).bind _=_;rw[hdc];exact hv _ h
 unfold jO;rw[e]
end
def Dz(F:List Str)(sc:List Str)(n:Nat)(A:D)(s:Str):Prop:=∀k st l lf,n<k→st[l]?=some (.l (sc.reverse.map D.s))→st[lf]?=some (.l (F.map D.s))→∃st',bX k [A,.r l,.r lf] st=some (.s s,st')∧Ext st st'
def sC:Nat→Nat
 |0=>300
 |n+1=>2*sC n+10
theorem Ea(n:Nat):300≤sC n:=by
 cases n with
 |zero=>exact W11 _
 |succ n=>have:=Ea n;show 300≤2*sC n+10;lia
structure ShS (f:Nat) (P F:List Str) (sc:List Str) (n:Nat) (A:D) (s:Str):Prop where
 sm:Stm sc n A s
 fair:Dz F sc n A s
 ex:Exs (some (f,P)) [.t [.s "statement",A,.t [.t (sc.map D.s),.r f]]] (cp s) (sC n)
theorem u1:(("atom":Str)==("false":Str))=false:=by decide
theorem u2:(("atom":Str)==("same":Str))=false:=by decide
theorem u3:(("same":Str)==("false":Str))=false:=by decide
theorem u4:(("same":Str)==("atom":Str))=false:=by decide
theorem GL:∀q∈jws,(q.1==("false":Str))=false∧(q.1==("same":Str))=false∧(q.1==("atom":Str))=false∧(["and","or","if"]:List Str).contains q.1=true∧nW.contains q.1=false:=by decide
theorem GO:∀q∈bws,(q==("false":Str))=false∧(q==("same":Str))=false∧(q==("atom":Str))=false∧(["and","or","if"]:List Str).contains q=false∧nW.contains q=true∧q.length≤4:=by decide
theorem Tv:∀q∈jws,hU (match iZ with |.dc kvs=>kvs|_=>[]) (.inr q.1)=some (.s q.2):=by
 intro q hq;simp only[jws,Z13,U15,or_false]at hq;rcases hq with rfl|rfl|rfl<;>kernel_rfl
section
variable{f:Nat}{P F:List Str}
theorem Eb(hPF:∀x,x∈P ↔ x∈F)(hP:P.length≤1100)(hF:F.length≤1100){m n:Nat}{A:D}{L:List Str}(h:Sw m n A L):∀sc:List Str,sc.length=m→sc.Nodup→(∀x∈sc,iY x=true)→sc.length+n≤10→n≤5→(∀x∈L,x∈F)→(∀x∈F,x∉sc)→∃s,ShS f P F sc n A s:=by
 induction h with
 |fal m n=>
  intro sc hm hnd hsc hl hn hLF hd;refine⟨"false",.fal sc n,?_,?_⟩
  ·intro k st l lf hk _ _;obtain⟨k,rfl⟩:∃i,k=i+1:=⟨k-1,by lia⟩;exact⟨st,by simp[bX,cI],.refl _⟩
  ·refine eF (jW (px (by kernel_rfl)) fB (fun st _=>Du.eq (yV (t:=aC (eC (.s "false")) aN) (env:=[]) (xs:=[.s "false"]) (by simp) (by simp)) (by simp[bG,bF])) (eI "false")) (by have:=Ea n;lia)
 |same m n a b L M h1 h2=>
  intro sc hm hnd hsc hl hn hLF hd;obtain⟨s,hs⟩:=pS (G:=some (f,P)) h1 hm hnd hsc (by lia) fun x hx=>hd x (hLF x (by simp[hx]));obtain⟨u,hu⟩:=pS (G:=some (f,P)) h2 hm hnd hsc (by lia) fun x hx=>hd x (hLF x (by simp[hx]));have sm:Stm sc n (.t [.s "same",a,b]) (s++(" = ":Str)++u):=.same sc n a b s u hs.tm hu.tm;refine⟨_,sm,?_,?_⟩
  ·intro k st l lf hk hcl hcf;obtain⟨k,rfl⟩:∃i,k=i+1:=⟨k-1,by lia⟩;obtain⟨st1,e1,x1⟩:=hs.fair 6 st l (by lia) hcl;obtain⟨st2,e2,x2⟩:=hu.fair 6 st1 l (by lia) (x1 _ _ hcl);have ln:=Y14 sm.len (mF n hn);have n2:=lenj ln;have n1:=lenj (lenl ln);exact⟨st2,by simp[bX,cI,u3,e1,e2,aF n1,aF n2],x1.trans x2⟩
  ·have har:JS (some (f,P)) sc (.t [.t (sc.map D.s),.r f]):=.inl ⟨f,P,rfl,rfl⟩;have e:=dX (hs.ex _ har) (dX (eI (G:=some (f,P)) " = ") (hu.ex _ har));rw[←aX,←aX,show s++((" = ":Str)++u)=s++(" = ":Str)++u from kU (by simp only[aX,W10])]at e;refine eF (jW (px (by kernel_rfl)) fB (fun st _=>Du.eq (yV (t:=aC (eC (.t [.s "term",a,.t [.t (sc.map D.s),.r f]])) (aC (eC (.s " = ")) (aC (eC (.t [.s "term",b,.t [.t (sc.map D.s),.r f]])) aN))) (env:=[]) (xs:=[.t [.s "term",a,.t [.t (sc.map D.s),.r f]],.s " = ",.t [.s "term",b,.t [.t (sc.map D.s),.r f]]]) (by simp) (by simp)) (by simp[bG,bF,u3,u4])) e) ?_;have:=Ea n;have:tC 2=67:=rfl
   lia
 |atom m n w ps hw h4 h=>
  intro sc hm hnd hsc hl hn hLF hd;obtain⟨qs,h1,h2,h3⟩:=Nd (G:=some (f,P)) (sc:=sc) (n:=2) (ps:=ps) fun q hq=>pS (h q hq) hm hnd hsc (by lia) fun x hx=>hd x (hLF x (U42.mpr ⟨q,hq,hx⟩));rw[←h1];obtain⟨s,hs⟩:∃s:Str,cp s=jn (cp ", ") (qs.map (·.2)):=⟨⟨(jn (cp ", ") (qs.map (·.2))).toArray⟩,by simp⟩;have hwl:=(dR hw).2.1;have sm:Stm sc n (.t [.s "atom",.s w,.t (qs.map (·.1))]) (w++("(":Str)++s++(")":Str)):=.atom sc n w qs s hw (by lia) (fun q hq=>(h3 q hq).tm) hs;refine⟨_,sm,?_,?_⟩
  ·intro k st l lf hk hcl hcf;obtain⟨k,rfl⟩:∃i,k=i+1:=⟨k-1,by lia⟩;obtain⟨st1,g1,g2⟩:=wH (c:=fun _=>True) (te:=aM (aH 6) (aC (eV 0) (aC (eV 1) aN))) (cap:=[some (.r l)]) (st0:=st) (fun _=>trivial) qs [] st (.refl _) (by
    intro q hq s x;obtain⟨s',e1,e2⟩:=(h3 q hq).fair 6 s l (by lia) (x _ _ hcl);exact⟨s',by simp[e1],e2⟩)
   have hjl:(jn (cp ", ") (qs.map (·.2))).length≤90000:=by
    have h1:=mE (b:=tB 2) (qs.map (·.2)) (by intro t ht;obtain⟨q,hq,rfl⟩:=V17.mp ht;exact(h3 q hq).tm.len);rw[U12]at h1;have hh:qs.length*(tB 2+2)≤4*(tB 2+2):=W15 _ (by lia);have:tB 2=248:=rfl
    lia
   have hsum:=vZ (qs.map (·.2));have hj:iH (.s ", ") [.r st1.length] (st1++[.l ((qs.map (·.2)).map D.s)])=some (.s s,st1++[.l ((qs.map (·.2)).map D.s)]):=pN (by simp) hs.symm (by rw[U12,show(", ":Str).length=2 from rfl];lia);have ln:=Y14 sm.len (mF n hn);have n3':=lenj ln;have n2:=lenj (lenl ln);have n1:=lenj (lenl (lenl ln));have hz:(qs.map (·.1)).length<sizeLine:=by rw[Y12];simp;lia
   refine⟨st1++[.l ((qs.map (·.2)).map D.s)],?_,g2.trans (Ext.app _ _)⟩;rw[W13]at g1;generalize (qs.map (·.2)).map D.s=Z at *;generalize qs.map (·.1)=Y at *;show aL 5 3 (cI (bX k)) _ st=_;simp[cI,u1,u2,iD,aF hz,g1,hj,aF n1,aF n2,aF n3']
  ·have har:JS (some (f,P)) sc (.t [.t (sc.map D.s),.r f]):=.inl ⟨f,P,rfl,rfl⟩;have e:=dX (eI (G:=some (f,P)) (w++("(":Str))) (dX (Bj qs fun q hq=>(h3 q hq).ex _ har) (eI (G:=some (f,P)) ")"));rw[←hs,←aX,←aX,show w++("(":Str)++(s++(")":Str))=w++("(":Str)++s++(")":Str) from kU (by simp only[aX,W10])]at e;refine eF (jW (px (by kernel_rfl)) fB (fun st _=>Du.eq (oX (w:="atom") (nm:=w) (args:=qs.map (·.1)) (by simp;lia) (by lia)) (by
    generalize qs.map (·.1)=Y;simp[bG,bF,u1];cases cV [.t [.s "atom",.s w,.t Y],.t [.t (sc.map D.s),.r f]] st<;>rfl)) e) ?_
   have:=Ea n;have h67:tC 2=67:=rfl;have:qs.length*(tC 2+1)≤4*(tC 2+1):=W15 _ (by lia)
   lia
 |join m n w sg A B L M hw _ _ ih1 ih2=>
  intro sc hm hnd hsc hl hn hLF hd;obtain⟨s,hs⟩:=ih1 sc hm hnd hsc (by lia) (by lia) (fun x hx=>hLF x (by simp[hx])) hd;obtain⟨u,hu⟩:=ih2 sc hm hnd hsc (by lia) (by lia) (fun x hx=>hLF x (by simp[hx])) hd;have sm:Stm sc (n+1) (.t [.s w,A,B]) (("(":Str)++s++sg++u++(")":Str)):=.join sc n w sg A B s u hw hs.sm hu.sm;obtain⟨j1,j2,j3,j4,j5⟩:=GL _ hw;refine⟨_,sm,?_,?_⟩
  ·intro k st l lf hk hcl hcf;obtain⟨k,rfl⟩:∃i,k=i+1:=⟨k-1,by lia⟩;have hdd:=Tt (st:=st) (env:=[some (.t [.s w,A,B]),some (.r l),some (.r lf),none,none]);have hii:=Tu (st:=st) hw;have x0:Ext st (st++[.d jK]):=Ext.app _ _;generalize st++[.d jK]=st0 at hdd hii x0;obtain⟨st1,e1,x1⟩:=hs.fair k st0 l lf (by lia) (x0 _ _ hcl) (x0 _ _ hcf);obtain⟨st2,e2,x2⟩:=hu.fair k st1 l lf (by lia) (x1 _ _ (x0 _ _ hcl)) (x1 _ _ (x0 _ _ hcf));have hin:inD (.s w) (.t [.s "and",.s "or",.s "if"]) st=some (.b true,st):=by rw[←j4];exact uA (ss:=["and","or","if"])
   have ln:=Y14 sm.len (mF (n+1) hn);have n4:=lenj ln;have n3':=lenj (lenl ln);have n2:=lenj (lenl (lenl ln));have n1:=lenj (lenl (lenl (lenl ln)));refine⟨st2,?_,(x0.trans x1).trans x2⟩;show aL 5 3 (cI (bX k)) _ st=_;simp[cI,j1,j2,j3,hin,hdd,hii,e1,e2,aF n1,aF n2,aF n3',aF n4]
  ·have e:=dX (eI (G:=some (f,P)) "(") (dX hs.ex (dX (eI (G:=some (f,P)) sg) (dX hu.ex (eI (G:=some (f,P)) ")"))));rw[←aX,←aX,←aX,←aX,show("(":Str)++(s++(sg++(u++(")":Str))))=("(":Str)++s++sg++u++(")":Str) from kU (by simp only[aX,W10])]at e;have hb:∀st:Sto,inD (.s w) dE st=some (.b false,st):=fun st=>lM j5;have hj:∀st:Sto,jO iZ (.s w) st=some (.s sg,st):=px (Tv _ hw);refine eF (jW (px (by kernel_rfl)) fB (fun st _=>Du.eq (yV (t:=aC (eC (.s "(")) (aC (eC (.t [.s "statement",A,.t [.t (sc.map D.s),.r f]])) (aC (eC (.s sg)) (aC (eC (.t [.s "statement",B,.t [.t (sc.map D.s),.r f]])) (aC (eC (.s ")")) aN))))) (env:=[]) (xs:=[.s "(",.t [.s "statement",A,.t [.t (sc.map D.s),.r f]],.s sg,.t [.s "statement",B,.t [.t (sc.map D.s),.r f]],.s ")"]) (by simp) (by simp)) (by simp[bG,bF,j1,j2,j3,hb,hj])) e) ?_;show _≤2*sC n+10
   lia
 |bind m n w K A L hw hK _ ih=>
  intro sc hm hnd hsc hl hn hLF hd;have hT:(sc++P).length<2109:=by rw[V12];lia
  obtain⟨fr1,fr2,fr3⟩:=kY hT;have hxs:oW (sc++P)∉sc++P:=fun hm=>by rw[←Z19,fr2]at hm;cases hm
  have hxl:=(Dr fr1).2.1;have hxn:=(Dr fr1).2.2;have hx2:oW (sc.reverse++F)=oW (sc++P):=Be fun x=>by simp only[Z21,List.mem_reverse,hPF]
  have hbp:∀st:Sto,st[f]?=some (.p P)→dP [A,.t [.t (sc.map D.s),.r f]] st=_:=fun st hf=>rW (A:=A) hf hT;change (oW (sc++P)).length≤3 at hxl;change iY (oW (sc++P))=true at hxn;generalize oW (sc++P)=x at *;rw[Z21,not_or]at hxs;obtain⟨s,hs⟩:=ih (sc++[x]) (by simp;lia) (by
    rw[V41];refine⟨hnd,by simp,?_⟩;intro a ha b hb;rw[Y15.mp hb];intro e;exact hxs.1 (e ▸ ha)) (by
    intro y hy;rcases Z21.mp hy with hy|hy
    ·exact hsc y hy
    ·rw[Y15.mp hy];exact hxn) (by simp;lia) (by lia) hLF (by
    intro y hy hy2;rcases Z21.mp hy2 with hy2|hy2
    ·exact hd y hy hy2
    ·rw[Y15.mp hy2]at hy;exact hxs.2 ((hPF x).mpr hy))
  have sm:Stm sc (n+1) (.t [.s w,.s K,A]) (w++(" ":Str)++x++(" ":Str)++K++(": ":Str)++s):=.bind sc n w x K A s hw hxn hK hs.sm;obtain⟨j1,j2,j3,j4,j5,j6⟩:=GO _ hw;have ln:=Y14 sm.len (mF (n+1) hn);have n6:=lenj ln;have n5:=lenj (lenl ln);have n4:=lenj (lenl (lenl ln));have n3':=lenj (lenl (lenl (lenl ln)));have n2:=lenj (lenl (lenl (lenl (lenl ln))));have n1:=lenj (lenl (lenl (lenl (lenl (lenl ln)))));refine⟨_,sm,?_,?_⟩
  ·intro k st l lf hk hcl hcf;obtain⟨k,rfl⟩:∃i,k=i+1:=⟨k-1,by lia⟩;have hin:inD (.s w) (.t [.s "and",.s "or",.s "if"]) st=some (.b false,st):=by rw[←j4];exact uA (ss:=["and","or","if"])
   have a1:=eQ hcl hcf (by rw[Y12];simp;lia);have x1:Ext st (st++[.l (sc.reverse.map D.s++F.map D.s)]):=Ext.app _ _;obtain⟨st2,e2,x2⟩:=s_fresh (st:=st++[.l (sc.reverse.map D.s++F.map D.s)]) (t:=st.length) (T:=sc.reverse++F) (by rw[Y19];exact Y13) (by simp;lia);rw[hx2]at e2;have hcl2:=x2 _ _ (x1 _ _ hcl);have hcf2:=x2 _ _ (x1 _ _ hcf);have x3:Ext st2 (st2++[.l [.s x]]++[.l (.s x::sc.reverse.map D.s)]):=(Ext.app _ _).trans (Ext.app _ _);have a2:aI (.r st2.length) (.r l) (st2++[.l [.s x]])=some (.r (st2.length+1),st2++[.l [.s x]]++[.l (.s x::sc.reverse.map D.s)]):=by
    rw[eQ (xs:=[.s x]) (ys:=sc.reverse.map D.s) (by simp) (Ext.app _ _ _ _ hcl2) (by rw[Y12];simp;lia)];simp
   have hc3:(st2++[.l [.s x]]++[.l (.s x::sc.reverse.map D.s)])[st2.length+1]?=some (.l ((sc++[x]).reverse.map D.s)):=by
    rw[List.reverse_append];show _=some (C.l (.s x::sc.reverse.map D.s));rw[show st2.length+1=(st2++[C.l [.s x]]).length by simp];exact Y13
   obtain⟨st4,e4,x4⟩:=hs.fair k _ (st2.length+1) lf (by lia) hc3 (x3 _ _ hcf2);refine⟨st4,?_,((x1.trans x2).trans x3).trans x4⟩;show aL 5 3 (cI (bX k)) _ st=_;generalize sc.reverse.map D.s=X at *;generalize F.map D.s=Y at *;simp only[W10,U18,W13]at a2 e4;simp[cI,j1,j2,j3,hin,a1,e2,a2,e4,aF n1,aF n2,aF n3',aF n4,aF n5,aF n6]
  ·have e:=dX (eI (G:=some (f,P)) (w++(" ":Str)++x++(" ":Str)++K++(": ":Str))) hs.ex;rw[←aX]at e;have hb:∀st:Sto,inD (.s w) dE st=some (.b true,st):=fun st=>lM j5;refine eF (jW (px (by kernel_rfl)) fB (fun st gs=>Du.eq (yV (t:=aC (eC (.s (w++(" ":Str)++x++(" ":Str)++K++(": ":Str)))) (aC (eC (.t [.s "statement",A,.t [.t ((sc++[x]).map D.s),.r f]])) aN)) (env:=[]) (xs:=[.s (w++(" ":Str)++x++(" ":Str)++K++(": ":Str)),.t [.s "statement",A,.t [.t ((sc++[x]).map D.s),.r f]]]) (by simp) (by simp)) (by
    have h1:=hbp st (gs f P rfl);generalize (sc++[x]).map D.s=X at *;generalize sc.map D.s=Y at *;simp[bG,bF,j1,j2,j3,hb,h1,aF n1,aF n2,aF n3',aF n4,aF n5])) e) ?_
   show _≤2*sC n+10
   lia
end
theorem uH{G:Ar}{d ar:D}{c:Nat}{s:Str}{st st1:Sto}(e1:cU [.s sort,d] st=some (.t [.s sort,d,ar],st1))(x1:Ext st st1)(hG:GS G st1)(hE:Exs G [.t [.s sort,d,ar]] (cp s) c)(hc:c≤50000)(hs:s.length≤100000):∃st',jE [.s sort,d] st=some (.s s,st')∧Ext st st':=by
 have x2:Ext st1 (st1++[.l [.t [.s sort,d,ar]]]):=Ext.app _ _;have x3:Ext (st1++[.l [.t [.s sort,d,ar]]]) (st1++[.l [.t [.s sort,d,ar]]]++[.l []]):=Ext.app _ _;have h1:(st1++[C.l [.t [.s sort,d,ar]]]++[.l []])[st1.length]?=some (.l ([]++[D.t [.s sort,d,ar]].reverse)):=by simp
 have h2:(st1++[C.l [.t [.s sort,d,ar]]]++[.l []])[st1.length+1]?=some (.l (([]:List Str).map D.s)):=by simp
 obtain⟨us,a4,a5,st2,g1,g2,g3,g4,g5,g6⟩:=hE.2 st1.length (st1.length+1) (some (.s sort)) (some d) [] [] none none _ (by lia) (fun f P e=>by
  have:=(U10.mp (hG f P e)).1
  lia) (hG.ext (x2.trans x3)) h1 h2 (by simpa using hc) (by simpa using hc)
 have t1:kC (.r st1.length) st2=some (false,st2):=iO g2;have hw:=g1 _ (iG (tb:=BM) (tc:=gE (eV 2)) (st1:=st2) (by simp[t1]));obtain⟨j1,j2⟩:=Mm g4 hs;rw[W13]at g3;have hj:iH (.s "") [.r (st1.length+1)] st2=some (.s s,st2):=by
  show bnd (getL (st1.length+1)) _ _=_;rw[aR (dS g3),aR (show opt (oQ (us.map D.s)) st2=some (us,st2) by rw[nZ];rfl),pH j1,j2]
  rfl
 refine⟨st2,?_,fun l x e=>g6 l x (by have:=(U10.mp e).1;have:=x1.len;lia) (by have:=(U10.mp e).1;have:=x1.len;lia) ((x1.trans (x2.trans x3)) l x e)⟩;have hw':oP (gE (eV 2)) BM [some (.s sort),some d,some (.r st1.length),some (.r (st1.length+1)),none,none] (st1++[.l [.t [.s sort,d,ar]]]++[.l []])=some ((.nx,[some (.s sort),some d,some (.r st1.length),some (.r (st1.length+1)),a4,a5]),st2):=hw;have hb:nU=aE (sA (eL (aC (aM cU (aC (eV 0) (aC (eV 1) aN))) aN)) (gN 2)) (aE (sA (eL aN) (gN 3)) (aE (sW (gE (eV 2)) BM) (sR (rX "str" iH (eC (.s "")) (aC (eV 3) aN))))):=rfl;simp only[jE,hb,sW];generalize oP _ BM=W at hw' ⊢;simp at hw';simp[e1,hw',hj]
theorem BN:∀n,n≤5→tC n≤50000:=by decide
theorem BO:∀n,n≤5→sC n≤50000:=by decide
theorem Nf:∀n,n≤5→tB n≤100000:=by decide
theorem yW{n:Nat}{t:D}{s:Str}(h:Shw none [] n t s)(hn:n≤5)(st:Sto):∃st',fX [t] st=some (.s s,st')∧Ext st st':=by
 have e1:cU [.s "term",t] st=some (.t [.s "term",t,dA],st):=by
  simp[cU,gO,show(("term":Str)==("statement":Str))=false by decide,show(("term":Str)==("body":Str))=false by decide]
 obtain⟨st',e,x⟩:=uH (G:=none) e1 (.refl _) (fun f P e=>by cases e) (h.ex dA (.inr ⟨rfl,rfl⟩)) (BN n hn) (Y14 h.tm.len (Nf n hn));exact⟨st',by simp[fX,kM,e],x⟩
theorem Ng{F sc:List Str}{n:Nat}{A:D}{s u:Str}(h:Dz F [] n A s)(h':Dz F [] n A u):s=u:=by
 obtain⟨s1,e1,_⟩:=h (n+1) [.l [],.l (F.map D.s)] 0 1 (by lia) rfl rfl;obtain⟨s2,e2,_⟩:=h' (n+1) [.l [],.l (F.map D.s)] 0 1 (by lia) rfl rfl;rw[e1]at e2;cases e2
 rfl
theorem oC{n:Nat}{A:D}{L:List Str}(h:Sw 0 n A L)(hn:n≤4):∃s,Stm [] n A s∧Dz L [] n A s∧∀st,∃st',bR [A] st=some (.s s,st')∧Ext st st':=by
 have hL:L.length≤1024:=by
  have h1:=h.len;have:∀n,n≤4→2^n*64≤1024:=by decide
  have:=this n hn
  lia
 obtain⟨s,hs⟩:=Eb (f:=0) (P:=L) (F:=L) (fun _=>Iff.rfl) (by lia) (by lia) h [] rfl (by simp) (by simp) (by simp;lia) (by lia) (fun _ h=>h) (by simp);refine⟨s,hs.sm,hs.fair,fun st=>?_⟩;have hg:∀n,n≤4→gC n≤50000:=by decide
 obtain⟨f,st1,P,e,x,lf,q,hP1,hP2⟩:=Gz (GJ h) (hg n hn) (by lia) st;obtain⟨u,hu⟩:=Eb (f:=f) (P:=P) (F:=L) hP1 (by lia) (by lia) h [] rfl (by simp) (by simp) (by simp;lia) (by lia) (fun _ h=>h) (by simp);obtain rfl:=Ng (sc:=[]) hs.fair hu.fair;have e1:cU [.s "statement",A] st=some (.t [.s "statement",A,.t [.t [],.r f]],st1):=by
  simp[cU,gO,e]
 obtain⟨st',e2,x2⟩:=uH (G:=some (f,P)) e1 x (fun f' P' e=>by cases e;exact q) hu.ex (BO n (by lia)) (Y14 hs.sm.len (mF n (by lia)));exact⟨st',by simp[bR,fP,e2],x2⟩
structure RA where
 r:Nat
 n:Nat
 m:Nat
 p:Nat
def HM(A:RA)(tx:Str)(a:Nat):List (Str×D):=[("text",.s tx),("at",.i (a:Nat)),("names",.r A.n),("made",.r A.m),("pending",.r A.p)]
def Ha(A:RA)(tx:Str)(a:Nat):C:=.o cC (HM A tx a)
structure Rd (A:RA) (tx:Str) (a:Nat) (ns ms ps:List D) (st:Sto):Prop where
 o:st[A.r]?=some (Ha A tx a)
 n:st[A.n]?=some (.l ns)
 m:st[A.m]?=some (.l ms)
 p:st[A.p]?=some (.l ps)
 nm:A.n≠A.m
 np:A.n≠A.p
 mp:A.m≠A.p
 al:a≤tx.length
 tl:tx.length≤100000
def Fq(A:RA)(st st':Sto):Prop:=∀(l:Nat) c,l≠A.r→l≠A.n→l≠A.m→l≠A.p→st[l]?=some c→st'[l]?=some c
theorem Fq.refl(A:RA)(st:Sto):Fq A st st:=fun _ _ _ _ _ _ h=>h
theorem Fq.trans{A:RA}{a b c:Sto}(h:Fq A a b)(h':Fq A b c):Fq A a c:=fun l x n1 n2 n3 n4 e=>h' l x n1 n2 n3 n4 (h l x n1 n2 n3 n4 e)
theorem Fq.of{A:RA}{a b:Sto}(h:Ext a b):Fq A a b:=fun l c _ _ _ _ e=>h l c e
section
variable{A:RA}{tx:Str}{a:Nat}{ns ms ps:List D}{st st':Sto}
theorem Rd.rn(h:Rd A tx a ns ms ps st):A.r≠A.n:=fun e=>by have:=h.o;rw[e,h.n]at this;cases this
theorem Rd.rm(h:Rd A tx a ns ms ps st):A.r≠A.m:=fun e=>by have:=h.o;rw[e,h.m]at this;cases this
theorem Rd.rp(h:Rd A tx a ns ms ps st):A.r≠A.p:=fun e=>by have:=h.o;rw[e,h.p]at this;cases this
theorem Rd.ext(h:Rd A tx a ns ms ps st)(x:Ext st st'):Rd A tx a ns ms ps st':=⟨x _ _ h.o,x _ _ h.n,x _ _ h.m,x _ _ h.p,h.nm,h.np,h.mp,h.al,h.tl⟩
theorem dZ{l k:Nat}{c:C}(h:l≠k):(st.set k c)[l]?=st[l]?:=by rw[W26,if_neg (Ne.symm h)]
theorem Rd.setp{ps':List D}(h:Rd A tx a ns ms ps st):Rd A tx a ns ms ps' (st.set A.p (.l ps'))∧Fq A st (st.set A.p (.l ps')):=
 ⟨⟨by rw[dZ h.rp];exact h.o,by rw[dZ h.np];exact h.n,by rw[dZ h.mp];exact h.m,dM h.p,h.nm,h.np,h.mp,h.al,h.tl⟩,fun l c _ _ _ n e=>by rw[dZ n];exact e⟩
theorem Rd.setm{ms':List D}(h:Rd A tx a ns ms ps st):Rd A tx a ns ms' ps (st.set A.m (.l ms'))∧Fq A st (st.set A.m (.l ms')):=
 ⟨⟨by rw[dZ h.rm];exact h.o,by rw[dZ h.nm];exact h.n,dM h.m,by rw[dZ h.mp.symm];exact h.p,h.nm,h.np,h.mp,h.al,h.tl⟩,fun l c _ _ n _ e=>by rw[dZ n];exact e⟩
theorem Rd.setn{ns':List D}(h:Rd A tx a ns ms ps st):Rd A tx a ns' ms ps (st.set A.n (.l ns'))∧Fq A st (st.set A.n (.l ns')):=
 ⟨⟨by rw[dZ h.rn];exact h.o,dM h.n,by rw[dZ h.nm.symm];exact h.m,by rw[dZ h.np.symm];exact h.p,h.nm,h.np,h.mp,h.al,h.tl⟩,fun l c _ n _ _ e=>by rw[dZ n];exact e⟩
theorem Rd.seta{b:Nat}(h:Rd A tx a ns ms ps st)(hb:b≤tx.length):Rd A tx b ns ms ps (st.set A.r (Ha A tx b))∧Fq A st (st.set A.r (Ha A tx b)):=
 ⟨⟨dM h.o,by rw[dZ h.rn.symm];exact h.n,by rw[dZ h.rm.symm];exact h.m,by rw[dZ h.rp.symm];exact h.p,h.nm,h.np,h.mp,hb,h.tl⟩,fun l c n _ _ _ e=>by rw[dZ n];exact e⟩
theorem Rd.text(h:Rd A tx a ns ms ps st):lQ cC "text" (.r A.r) st=some (.s tx,st):=qZ h.o (by kernel_rfl)
theorem Rd.at_(h:Rd A tx a ns ms ps st):lQ cC "at" (.r A.r) st=some (.i (a:Nat),st):=qZ h.o (by kernel_rfl)
theorem Rd.names(h:Rd A tx a ns ms ps st):lQ cC "names" (.r A.r) st=some (.r A.n,st):=qZ h.o (by kernel_rfl)
theorem Rd.made(h:Rd A tx a ns ms ps st):lQ cC "made" (.r A.r) st=some (.r A.m,st):=qZ h.o (by kernel_rfl)
theorem Rd.pend(h:Rd A tx a ns ms ps st):lQ cC "pending" (.r A.r) st=some (.r A.p,st):=qZ h.o (by kernel_rfl)
end
section
variable {l:Nat}{p w:Str}{tl:List Nat}
variable{A:RA}{tx:Str}{a:Nat}{ns ms ps:List D}{st st':Sto}
theorem oY{C:Addr}{mt:Str}{fs:List (Str×D)}(h:st[l]?=some (.o C fs))(hf:fs.lookup mt=none):ofD C mt (.r l) st=some ((),st):=by
 unfold ofD;dsimp only;rw[h];dsimp only;rw[if_pos rfl,hf]
theorem Rd.o_sees(h:Rd A tx a ns ms ps st):ofD cC "sees" (.r A.r) st=some ((),st):=oY h.o (by kernel_rfl)
theorem Rd.o_skip(h:Rd A tx a ns ms ps st):ofD cC "skip" (.r A.r) st=some ((),st):=oY h.o (by kernel_rfl)
theorem Rd.o_run(h:Rd A tx a ns ms ps st):ofD cC "run_of" (.r A.r) st=some ((),st):=oY h.o (by kernel_rfl)
theorem Rd.o_letters(h:Rd A tx a ns ms ps st):ofD cC "letters" (.r A.r) st=some ((),st):=oY h.o (by kernel_rfl)
theorem Rd.o_next(h:Rd A tx a ns ms ps st):ofD cC "next_name" (.r A.r) st=some ((),st):=oY h.o (by kernel_rfl)
theorem Rd.o_later(h:Rd A tx a ns ms ps st):ofD cC "later" (.r A.r) st=some ((),st):=oY h.o (by kernel_rfl)
theorem Rd.o_make(h:Rd A tx a ns ms ps st):ofD cC "make" (.r A.r) st=some ((),st):=oY h.o (by kernel_rfl)
theorem Rd.o_end(h:Rd A tx a ns ms ps st):ofD cC "end" (.r A.r) st=some ((),st):=oY h.o (by kernel_rfl)
theorem Rd.put(h:Rd A tx a ns ms ps st){b:Nat}:jP cC "at" (.r A.r) (.i (b:Nat)) st=some ((),st.set A.r (Ha A tx b)):=by
 have e:lP "at" (.i (b:Nat)) (HM A tx a)=HM A tx b:=by kernel_rfl
 have:=Kl (f:="at") (y:=.i (b:Nat)) h.o (by show 5<1000;decide);rw[e]at this;exact this
theorem Nh(h:Rd A tx a ns ms ps st)(hp:p.length≤1000):cF [.r A.r,.s p] st=some (.b (decide (((cp tx).drop a).take p.length=cp p)),st):=by
 have h1:tx.length≤sizeLine:=zm h.tl;have h2:p.length≤sizeLine:=zm (by lia);have h3:bZ [.s p] st=some (.i (p.length:Nat),st):=L2.hY h2;have h4:cp (Txt.slice tx (some ((a:Nat):Int)) (some (((a:Nat):Int)+(p.length:Nat))))=((cp tx).drop a).take p.length:=by
  have:=mW (tx:=tx) (a:=a) (b:=a+p.length) h.al (by lia);rw[show a+p.length-a=p.length by lia]at this;rw[←this]
  push_cast
  rfl
 have h5:(Txt.slice tx (some ((a:Nat):Int)) (some (((a:Nat):Int)+(p.length:Nat)))==p)=decide (((cp tx).drop a).take p.length=cp p):=by
  rw[←h4]
  by_cases e:Txt.slice tx (some ((a:Nat):Int)) (some (((a:Nat):Int)+(p.length:Nat)))=p
  ·rw[e];simp
  ·rw[W19 fun q=>e (kU q)]
   simpa using e
 generalize decide (((cp tx).drop a).take p.length=cp p)=B at h5⊢;simp[cF,vU,h.text,h.at_,h3,aF h1,h5]
theorem gD(h:Rd A tx a ns ms ps st)(hd:(cp tx).drop a=cp p++tl)(hp:p.length≤1000):cF [.r A.r,.s p] st=some (.b true,st):=by
 rw[Nh h hp,hd,Y33];rw[←bM p,List.take_left]
theorem fD(h:Rd A tx a ns ms ps st)(hd:((cp tx).drop a).take p.length≠cp p)(hp:p.length≤1000):cF [.r A.r,.s p] st=some (.b false,st):=by
 rw[Nh h hp,W19 hd]
theorem GQ{u:List Nat}(h:a≤tx.length)(hd:(cp tx).drop a=u++tl):a+u.length≤tx.length:=by
 have:=congrArg List.length hd;rw[W22,bM,V12]at this
 lia
theorem eJ{u:List Nat}(hd:(cp tx).drop a=u++tl):(cp tx).drop (a+u.length)=tl:=by
 rw[←V37,hd,List.drop_left]
theorem dI(h:Rd A tx a ns ms ps st)(hd:(cp tx).drop a=cp p++tl)(hp:p.length≤1000):∃st',eW [.r A.r,.s p] st=some (.no,st')∧Rd A tx (a+(cp p).length) ns ms ps st'∧Fq A st st':=by
 have hb:=GQ h.al hd;obtain⟨k1,k2⟩:=h.seta hb;refine⟨_,?_,k1,k2⟩;have h1:=gD h hd hp;have h3:bZ [.s p] st=some (.i (p.length:Nat),st):=L2.hY (zm (by lia));have h4:jP cC "at" (.r A.r) (.i (((a:Nat):Int)+(p.length:Nat))) st=some ((),st.set A.r (Ha A tx (a+(cp p).length))):=by
  rw[bM,←h.put]
  push_cast
  rfl
 simp[eW,vV,h.o_sees,h1,h.at_,h3,kE,h4]
theorem yX{signs:Str}{tl:List Nat}{w0:Option D}(ht:∀c,tl.head?=some c→c∉cp signs):∀(u:List Nat) (a:Nat) (st:Sto),Rd A tx a ns ms ps st→(cp tx).drop a=u++tl→(∀c∈u,c∈cp signs)→
  ∃st',oP (Ru (eA Yr (jJ cC "at" (eV 0)) (aM bZ (aC (jJ cC "text" (eV 0)) aN))) (eA inD (bL (jJ cC "text" (eV 0)) (jJ cC "at" (eV 0))) (eV 1))) (FV cC "at" kE (eV 0) (eC (.i 1))) [some (.r A.r),some (.s signs),w0] st=some ((.nx,[some (.r A.r),some (.s signs),w0]),st')∧Rd A tx (a+u.length) ns ms ps st'∧Fq A st st'
 |[],a,st,h,hd,hu=>by
  have h1:tx.length≤sizeLine:=zm h.tl;have h3:bZ [.s tx] st=some (.i (tx.length:Nat),st):=L2.hY h1;refine⟨st,iG ?_,by simpa using h,.refl _ _⟩;cases tl with
  |nil=>
   have hl:=congrArg List.length hd;rw[W22,bM]at hl;have hlt:¬ ((a:Nat):Int) < (tx.length:Nat):=by simp at hl;lia
   simp[h.at_,h.text,h3,hlt]
  |cons c tl=>
   have hl:=congrArg List.length hd;rw[W22,bM]at hl;have hlt:a<tx.length:=by simp at hl;lia
   have hg:(cp tx)[a]?=some c:=by
    have:=congrArg List.head? hd;rw[List.head?_drop]at this
    simpa using this
   have hx:jO (.s tx) (.i (a:Nat)) st=some (.s ⟨#[c]⟩,st):=by
    have e:Hf st (.s tx) (.i (a:Nat))=some (.s ⟨#[c]⟩):=by
     show(if tx.length≤sizeLine then(atI tx.cps.toList (a:Nat)).map fun c=>D.s ⟨#[c]⟩ else none)=_;rw[if_pos h1,fS hg]
     rfl
    unfold jO;rw[e]
   have hn:decide (c∈cp signs)=false:=W19 (ht c rfl);have hi:=mX (st:=st) (c:=c) (x:=signs);rw[hn]at hi;simp[h.at_,h.text,h3,hlt,hx,hi]
 |c::u,a,st,h,hd,hu=>by
  have h1:tx.length≤sizeLine:=zm h.tl;have h3:bZ [.s tx] st=some (.i (tx.length:Nat),st):=L2.hY h1;have hl:=congrArg List.length hd;rw[W22,bM]at hl;have hlt:a<tx.length:=by simp at hl;lia
  have hg:(cp tx)[a]?=some c:=by
   have:=congrArg List.head? hd;rw[List.head?_drop]at this
   simpa using this
  have hx:jO (.s tx) (.i (a:Nat)) st=some (.s ⟨#[c]⟩,st):=by
   have e:Hf st (.s tx) (.i (a:Nat))=some (.s ⟨#[c]⟩):=by
    show(if tx.length≤sizeLine then(atI tx.cps.toList (a:Nat)).map fun c=>D.s ⟨#[c]⟩ else none)=_;rw[if_pos h1,fS hg]
    rfl
   unfold jO;rw[e]
  have hi:=mX (st:=st) (c:=c) (x:=signs);rw[Y33 (hu c (by simp))]at hi;obtain⟨k1,k2⟩:=h.seta (b:=a+1) (by lia);have h4:jP cC "at" (.r A.r) (.i (((a:Nat):Int)+1)) st=some ((),st.set A.r (Ha A tx (a+1))):=by
   rw[←h.put]
   push_cast
   rfl
  have hd1:(cp tx).drop (a+1)=u++tl:=by
   rw[←V37,hd];simp
  generalize st.set A.r (Ha A tx (a+1))=st1 at h4 k1 k2;obtain⟨st2,g1,g2,g3⟩:=yX ht u (a+1) st1 k1 hd1 fun x hx=>hu x (by simp[hx]);refine⟨st2,iN (st1:=st) (st2:=st1) (env1:=[some (.r A.r),some (.s signs),w0]) ?_ ?_ g1,by rw[Z14,show a+(u.length+1)=a+1+u.length by lia];exact g2,k2.trans g3⟩
  ·simp[h.at_,h.text,h3,hlt,hx,hi]
  ·simp[h.at_,kE,h4]
theorem Ni{signs:Str}(h:Rd A tx a ns ms ps st)(hd:(cp tx).drop a=cp w++tl)(hw:∀c∈cp w,c∈cp signs)(ht:∀c,tl.head?=some c→c∉cp signs):∃st',mV [.r A.r,.s signs] st=some (.s w,st')∧Rd A tx (a+(cp w).length) ns ms ps st'∧Fq A st st':=by
 obtain⟨st1,g1,g2,g3⟩:=yX (w0:=some (.i (a:Nat))) ht (cp w) a st h hd hw;have h1:tx.length≤sizeLine:=zm h.tl;refine⟨st1,?_,g2,g3⟩;have h4:Txt.slice tx (some ((a:Nat):Int)) (some ((a+(cp w).length:Nat):Int))=w:=by
  apply kU
  rw[mW h.al (by lia),hd,show a+(cp w).length-a=(cp w).length by lia,List.take_left]
 have g4:=g2.at_;generalize ((a+(cp w).length:Nat):Int)=q at h4 g4;simp only[mV,nV,sW];generalize oP _ _=W at g1⊢;simp[h.at_,g1,g2.text,g4,aF h1,h4]
abbrev LET:Str:="abcdefghijklmnopqrstuvwxyzABCDEFGHIJKLMNOPQRSTUVWXYZ"
theorem eP(h:Rd A tx a ns ms ps st)(hd:(cp tx).drop a=cp w++tl)(hw:∀c∈cp w,c∈cp LET)(ht:∀c,tl.head?=some c→c∉cp LET):∃st',gV [.r A.r] st=some (.s w,st')∧Rd A tx (a+(cp w).length) ns ms ps st'∧Fq A st st':=by
 obtain⟨st1,g1,g2,g3⟩:=Ni h hd hw ht;exact⟨st1,by simp[gV,mD,h.o_run,g1],g2,g3⟩
theorem wJ{rows:List D}(h:Rd A tx a ns ms ps st)(hl:st[l]?=some (.l rows))(hb:ps.length+rows.length≤100000):∃st',cX [.r A.r,.r l] st=some (.no,st')∧Rd A tx a ns ms (ps++rows.reverse) st'∧Fq A st st':=by
 have x1:Ext st (st++[C.l rows.reverse]):=Ext.app _ _;have h1:=h.ext x1;have e1:yB (.r l) (.i (-1)) st=some (.r st.length,st++[.l rows.reverse]):=Dt hl;have e2:cN (.r A.p) [.r st.length] (st++[C.l rows.reverse])=some (.no,(st++[C.l rows.reverse]).set A.p (.l (ps++rows.reverse))):=lG h1.p (by simp) (zm (by simp;lia));have e3:dO "list" (.r A.p) st=some ((),st):=dJ h.p;obtain⟨k1,k2⟩:=h1.setp (ps':=ps++rows.reverse);refine⟨_,?_,k1,(Fq.of x1).trans k2⟩;simp[cX,rK,h.pend,e3,e1,e2]
theorem Bk{ds hd:List D}(h:Rd A tx a ns (ms++ds) ps st)(hb:ms.length+ds.length+hd.length+1≤100000):∃st',lZ [.r A.r,.t hd,.i (ds.length:Nat)] st=some (.no,st')∧Rd A tx a ns (ms++[.t (hd++ds)]) ps st'∧Fq A st st':=by
 have e0:bZ [.r A.m] st=some (.i ((ms++ds).length:Nat),st):=qX h.m;have e1:(((ms++ds).length:Nat):Int)-((ds.length:Nat):Int)=(ms.length:Nat):=by simp
 have hc:L2.cutD (ms++ds) (some ((ms.length:Nat):Int)) none=ds:=by
  have h1:HT.dY (ms++ds).length 0 (some ((ms.length:Nat):Int))=ms.length:=by simp[HT.dY];lia
  have h2:HT.dY (ms++ds).length (ms++ds).length none=(ms++ds).length:=by simp[HT.dY]
  unfold L2.cutD;rw[h1,h2,List.drop_left];simp
 have e2:Qz (.r A.m) (some ((ms.length:Nat):Int)) none st=some (.r st.length,st++[.l ds]):=by rw[FK h.m,hc]
 have x1:Ext st (st++[.l ds]):=Ext.app _ _;have e3:xT [.r st.length] (st++[.l ds])=some (.t ds,st++[.l ds]):=Kj (by simp);have q1:hd.length+ds.length≤sizeLine:=zm (by lia);have x2:Ext st (st++[C.l ds]++[C.l [D.t (hd++ds)]]):=x1.trans (Ext.app _ _);have h2:=h.ext x2;have hm:A.m<st.length:=(U10.mp h.m).1;have e4:Cq (.r A.m) (some ((ms.length:Nat):Int)) (.r (st.length+1)) (st++[C.l ds]++[C.l [D.t (hd++ds)]])=some ((),(st++[C.l ds]++[C.l [D.t (hd++ds)]]).set A.m (.l (ms++[.t (hd++ds)]))):=by
  have hn:(st++[C.l ds]++[.l [.t (hd++ds)]])[st.length+1]?=some (.l [.t (hd++ds)]):=by simp
  unfold Cq;dsimp only;rw[h2.m,hn];dsimp only;rw[if_pos ⟨by lia,by lia,by simp;lia,zm (by simp;lia)⟩];simp
 obtain⟨k1,k2⟩:=h2.setm (ms':=ms++[.t (hd++ds)]);refine⟨_,?_,k1,(Fq.of x2).trans k2⟩;rw[W10]at e4⊢;generalize (((ms++ds).length:Nat):Int)=n0 at e0 e1;generalize (((ms.length:Nat)):Int)=q at e1 e2 e4;generalize (((ds.length:Nat)):Int)=k0 at e1⊢;have e5:lQ cC "made" (.r A.r) (st++[.l ds,.l [.t (hd++ds)]])=some (.r A.m,st++[.l ds,.l [.t (hd++ds)]]):=by
  have:=h2.made
  simpa using this
 simp at e4;simp[lZ,vW,h.made,e0,e1,e2,e3,aF q1,HF,e5,e4]
end
section
variable {w:Str}
variable{st:Sto}
theorem oE:∀bs:List Bool,kG (bs.map D.b)=some bs
 |[]=>rfl
 |t::ts=>by
  rw[Z12];show(kG (ts.map D.b)).map _=_;rw[oE ts]
  rfl
theorem oZ(hw:∀c∈cp w,c∈cp small)(hl:w.length≤1000):∃st',gA [.s w] st=some (.b true,st')∧Ext st st':=by
 have h1:aY (fun _=>True) bd1 (fun _=>L2.ret true) (aT inD (eV 0) (eC (.s small))) [] (chars w) [] st=some ([]++(chars w).map (fun _=>D.b true),st):=by
  refine jH trivial _ _ fun x hx=>?_;unfold chars at hx;obtain⟨c,hc,rfl⟩:=V17.mp hx;have hi:=mX (st:=st) (c:=c) (x:=small);rw[Y33 (hw c hc)]at hi;simp[hi]
 have hcl:(chars w).length=w.length:=by simp[chars,Str.length]
 have h2:(chars w).map (fun _=>D.b true)=(List.replicate w.length true).map D.b:=by
  rw[←hcl];generalize chars w=X
  induction X with
  |nil=>rfl
  |cons x xs ih=>simp[ih,List.replicate_succ]
 rw[W13,h2]at h1;refine⟨st++[.l ((List.replicate w.length true).map D.b)],?_,Ext.app _ _⟩;have h3:Ga [.r st.length] (st++[.l ((List.replicate w.length true).map D.b)])=some (.b true,st++[.l ((List.replicate w.length true).map D.b)]):=by
  show bnd (getL st.length) _ _=_;rw[aR (dS (xs:=(List.replicate w.length true).map D.b) (by simp)),aR (show opt (kG _) _=_ by rw[oE];rfl)];show some (D.b _,_)=_
  congr 3
  simp
 have h4:yZ (.s w) st=some ((chars w,fun _=>True),st):=rfl;have hz:(chars w).length<sizeLine:=by rw[hcl,Y12];lia
 have h5:∀env:En,iD [] env=[]:=fun _=>rfl;generalize (List.replicate w.length true).map D.b=Y at h1 h3⊢;generalize chars w=X at h1 h4 hz;simp[gA,kS,h4,h5,aF hz,h1,h3]
theorem oF(h:iY w=true):∃st',jF [.s w] st=some (.b true,st')∧Ext st st':=by
 unfold iY at h;simp only[Y11,U17,V19,U22]at h;obtain⟨⟨⟨h1,h2⟩,h3⟩,h4⟩:=h;obtain⟨st1,e1,x1⟩:=oZ (st:=st) h3 (by lia);refine⟨st1,?_,x1⟩;have h5:bZ [.s w] st=some (.i (w.length:Nat),st):=L2.hY (zm (by lia));have h6:bD [.s w,.ty "str"] st=some (.b true,st):=rfl;have h7:(0:Int) < (w.length:Nat):=by lia
 have h8:((w.length:Nat):Int)≤8:=by lia
 have h9:iL (.s w) gK st1=some (.b true,st1):=by
  have e:Ci (.s w) gK st1=some false:=by
   show((Fl (.s w)).bind fun a=>((fG.map D.s).mapM Fl).map fun vs=>wZ a vs)=_;rw[rN];show some (wZ (.str w) (fG.map V.str))=_;rw[oO,h4]
  unfold iL;rw[e]
  rfl
 generalize ((w.length:Nat):Int)=q at h5 h7 h8;simp[jF,nX,cQ,dH,h6,h5,h7,h8,e1,h9]
theorem ixh{c:Nat}(h:(cp w).head?=some c)(hl:w.length≤1000):jO (.s w) (.i 0) st=some (.s ⟨#[c]⟩,st):=by
 have e:Hf st (.s w) (.i 0)=some (.s ⟨#[c]⟩):=by
  show(if w.length≤sizeLine then(atI w.cps.toList 0).map fun c=>D.s ⟨#[c]⟩ else none)=_;rw[if_pos (zm (by lia))];cases q:w.cps.toList with
  |nil=>simp[q]at h
  |cons x xs=>simp[q]at h;subst h;simp
 unfold jO;rw[e]
theorem lN(h:iY w=true):cM [.s w] st=some (.b false,st):=by
 unfold iY at h;simp only[Y11,U17,V19,U22]at h;obtain⟨⟨⟨h1,h2⟩,h3⟩,h4⟩:=h;have h5:bZ [.s w] st=some (.i (w.length:Nat),st):=L2.hY (zm (by lia));have h6:bD [.s w,.ty "str"] st=some (.b true,st):=rfl;have h7:(0:Int) < (w.length:Nat):=by lia
 have h8:((w.length:Nat):Int)≤8:=by lia
 obtain⟨c,r,hc⟩:∃c r,cp w=c::r:=by
  cases q:cp w with
  |nil=>rw[←bM,q]at h1;simp at h1
  |cons c r=>exact⟨c,r,rfl⟩
 have h9:jO (.s w) (.i 0) st=some (.s ⟨#[c]⟩,st):=ixh (by rw[hc];rfl) (by lia);have hg:c∉cp great:=by
  have hs:=h3 c (by rw[hc];simp);have:∀c∈cp small,c∉cp great:=by decide +kernel
  exact this c hs
 have hi:=mX (st:=st) (c:=c) (x:=great);rw[W19 hg]at hi;generalize ((w.length:Nat):Int)=q at h5 h7 h8;simp[cM,eZ,cQ,dH,h6,h5,h7,h8,h9,hi]
theorem Bl{tx:Str}{a:Nat}:Txt.slice tx (some (a:Nat)) none=Txt.slice tx (some (a:Nat)) (some (tx.length:Nat)):=by
 unfold Txt.slice;have:Builtin.Str.strSliceIndices (some (a:Nat)) none 1 tx.length=Builtin.Str.strSliceIndices (some (a:Nat)) (some (tx.length:Nat)) 1 tx.length:=by
  unfold Builtin.Str.strSliceIndices sliceRange;have h0:max (0:Int) (min ((tx.length:Nat):Int) ((tx.length:Nat):Int))=(tx.length:Nat):=by lia
  have h1:¬ ((tx.length:Nat):Int)<0:=by lia
  simp[h0,h1]
 rw[this]
theorem nA(h:wR w=true):∃c r,cp w=c::r∧c∈cp great∧r.length≤7∧∀x∈r,x∈cp small:=by
 unfold wR at h
 split at h
 ·cases h
 ·rename_i c r e;simp only[Y11,U17,V19]at h;exact⟨c,r,e,h.1.1,h.1.2,h.2⟩
theorem wK(h:wR w=true):∃st',cM [.s w] st=some (.b true,st')∧Ext st st':=by
 obtain⟨c,r,hc,hg,hr,hs⟩:=nA h;have hl:w.length=r.length+1:=by rw[←bM,hc];simp
 have hsl:cp (Txt.slice w (some 1) none)=r:=by
  have:=Bl (tx:=w) (a:=1);have e:Txt.slice w (some 1) none=Txt.slice w (some ((1:Nat):Int)) (some (w.length:Nat)):=this;rw[e,mW (by lia) (by lia),hc,List.drop_succ_cons,Y37,W23 (by lia)]
 obtain⟨st1,e1,x1⟩:=oZ (st:=st) (w:=Txt.slice w (some 1) none) (by rw[hsl];exact hs) (by rw[←bM,hsl];lia);refine⟨st1,?_,x1⟩;have h5:bZ [.s w] st=some (.i (w.length:Nat),st):=L2.hY (zm (by lia));have h6:bD [.s w,.ty "str"] st=some (.b true,st):=rfl;have h7:(0:Int) < (w.length:Nat):=by lia
 have h8:((w.length:Nat):Int)≤8:=by lia
 have hq:w.length≤sizeLine:=zm (by lia);have h9:jO (.s w) (.i 0) st=some (.s ⟨#[c]⟩,st):=ixh (by rw[hc];rfl) (by lia);have hi:=mX (st:=st) (c:=c) (x:=great);rw[Y33 hg]at hi;generalize ((w.length:Nat):Int)=q at h5 h7 h8;simp[cM,eZ,cQ,dH,h6,h5,h7,h8,h9,hi,aF hq,e1]
end
section
variable {w:Str}
variable{A:RA}{tx:Str}{a:Nat}{ns ms ps:List D}{st st':Sto}
theorem uI:∀c∈cp small,c∈cp LET:=by decide +kernel
theorem oG(h:iY w=true):∀c∈cp w,c∈cp LET:=by
 unfold iY at h;simp only[Y11,U17,V19,U22]at h;exact fun c hc=>uI c (h.1.2 c hc)
theorem uJ{tl:List Nat}(h:Rd A tx a ns ms ps st)(hd:(cp tx).drop a=cp w++tl)(hw:iY w=true)(ht:∀c,tl.head?=some c→c∉cp LET):∃st',gB [.r A.r] st=some (.s w,st')∧Rd A tx (a+(cp w).length) ns ms ps st'∧Fq A st st':=by
 obtain⟨st1,g1,g2,g3⟩:=eP h hd (oG hw) ht;obtain⟨st2,e1,x1⟩:=oF (st:=st1) hw;exact⟨st2,by simp[gB,jT,h.o_letters,g1,e1],g2.ext x1,g3.trans (.of x1)⟩
theorem wL(h:wR w=true):∀c∈cp w,c∈cp LET:=by
 obtain⟨c,r,hc,hg,hr,hs⟩:=nA h;have:∀c∈cp great,c∈cp LET:=by decide +kernel
 rw[hc];intro x hx;rcases Z13.mp hx with rfl|hx
 ·exact this _ hg
 ·exact uI _ (hs x hx)
theorem Hb{l:Nat}{sc:List Str}{x:Str}(hl:st[l]?=some (.l (sc.map D.s))):gW [.r l,.s x] st=some (iB sc x,st):=by
 have hrl:(sc.map D.s).reverse.length=sc.length:=by simp
 have hel:∀j y,sc.reverse[j]?=some y→(sc.map D.s).reverse.getD j .no=.s y:=fun j y h=>by
  rw[←List.map_reverse,W18,W14,h]
  rfl
 obtain⟨f1,f2⟩:=oA (c:=fun st=>st[l]?=some (.l (sc.map D.s))) (g:=gT 2 (gU (gN 2) (gU (gN 3) qV))) (tb:=sI (eA gZ (eV 3) (eV 1)) (sR (eT (aC (eC (.s "bound")) (aC (eV 2) aN)))) sN) (st:=st) (X:=sc.reverse) (x:=x) (el:=fun j:Nat=>D.t [.i (j:Nat),(sc.map D.s).reverse.getD j .no]) (J:=fun env=>∃e f,env=[some (.r l),some (.s x),e,f]) hl (by
  rintro j y env hj ⟨e,f,rfl⟩;rw[hel j y hj];refine⟨[some (.r l),some (.s x),some (.i (j:Nat)),some (.s y)],by simp,fun hy=>?_,fun hy=>?_⟩
  ·exact⟨_,by simp[hy];rfl⟩
  ·exact⟨[some (.r l),some (.s x),some (.i (j:Nat)),some (.s y)],by simp[hy],_,_,rfl⟩) sc.length 0 [some (.r l),some (.s x),none,none] (by simp) ⟨_,_,rfl⟩
 rw[Y37]at f1 f2;have h2:vM [.r l] st=some ((hV (sc.map D.s).reverse,fun st=>st[l]?=some (.l (sc.map D.s))),st):=by
  show bnd (getL l) _ st=_;rw[aR (dS hl)]
  rfl
 have h3:hV (sc.map D.s).reverse=(List.range' 0 sc.length).map fun(j:Nat)=>D.t [.i (j:Nat),(sc.map D.s).reverse.getD j .no]:=by
  unfold hV;rw[hrl,U36]
 rw[h3]at h2;unfold iB;cases hf:sc.reverse.findIdx? (·==x) with
 |none=>
  obtain⟨env',h1,e,f,rfl⟩:=f2 hf;generalize ((List.range' 0 sc.length).map fun(j:Nat)=>D.t [.i (j:Nat),(sc.map D.s).reverse.getD j .no])=Y at h1 h2;simp[gW,lK,h2,h1]
 |some k=>
  obtain⟨env',h1⟩:=f1 k hf;rw[Z38]at h1;generalize ((List.range' 0 sc.length).map fun(j:Nat)=>D.t [.i (j:Nat),(sc.map D.s).reverse.getD j .no])=Y at h1 h2;simp[gW,lK,h2,h1]
end
def CK:Sm':=(aE (sA (Hg "list" iM (jJ cC "pending" (eV 3))) (gN 4))
   (aE (sA (bL (eC pE) (bL (eV 4) (eC (.i 0)))) (gN 5))
   (sE (AJ (pick T86.dl 5) 5 (aC (eV 3) (aC (eV 4) aN))))))
def KP:Sm':=oP (gE (jJ cC "pending" (eV 3))) CK
def okc(c:Nat):Bool:=!decide (c∈cp LET)&&!decide (c∈cp "0123456789")&&c != 40
def wM:List Nat→Bool
 |[]=>true
 |c::r=>if c=32 then r.head? != some 61 else okc c
def GR:List Nat→Bool
 |[]=>false
 |c::r=>if c=32 then r.head? != some 61&&!r.isEmpty else okc c
theorem BP{p:List Nat}(h:GR p=true):wM (p++X)=true:=by
 match p,h with
 |c::r,h=>
  rw[GR]at h;show wM (c::(r++X))=true;rw[wM]
  by_cases hc:c=32
  ·rw[if_pos hc]at h⊢;cases r with
   |nil=>simp at h
   |cons d r=>simpa using h
  ·rw[if_neg hc]at h⊢;exact h
theorem Nj{tl:List Nat}(h:wM tl=true):∀c,tl.head?=some c→c∉cp LET:=by
 intro c hc
 match tl,hc with
 |c::r,hc=>
  cases hc;rw[wM]at h
  by_cases h0:c=32
  ·subst h0;decide +kernel
  ·rw[if_neg h0]at h;unfold okc at h;simp only[Y11,U22,Z40]at h;exact h.1.1
theorem BQ{tl:List Nat}(h:wM tl=true):tl.take 1≠[40]:=by
 intro hc
 match tl,hc with
 |c::r,hc=>
  simp at hc;subst hc;rw[wM]at h;rw[if_neg (by decide)]at h
  revert h
  decide +kernel
theorem GU{tl:List Nat}(h:wM tl=true):tl.take 3≠[32,61,32]:=by
 intro hc
 match tl,hc with
 |c::d::r,hc=>
  simp at hc;obtain⟨rfl,rfl,_⟩:=hc;rw[wM]at h;rw[if_pos rfl]at h
  revert h
  simp
def Rn(b:Bool)(ps:List D)(n m:List D)(s:List Nat)(n' m':List D)(c:Nat):Prop:=ps.length≤c∧m.length≤c∧∀(A:RA) (tx:Str) (a:Nat) (tl:List Nat) (rest ms:List D) (a0 a1 a2 a4 a5:Option D) (st:Sto),
 Rd A tx a n (ms++m) (rest++ps.reverse) st→(cp tx).drop a=s++tl→(b=true→wM tl=true)→rest.length+c≤50000→ms.length+c≤50000→
 ∃a4' a5' st',Rc KP [a0,a1,a2,some (.r A.r),a4,a5] st [a0,a1,a2,some (.r A.r),a4',a5'] st'∧Rd A tx (a+s.length) n' (ms++m') rest st'∧Fq A st st'
theorem Rn.mono{b:Bool}{ps n m:List D}{s:List Nat}{n' m':List D}{c:Nat}(h:Rn b ps n m s n' m' c)(hc:c≤c'):Rn b ps n m s n' m' c':=⟨by have:=h.1;lia,by have:=h.2.1;lia,fun A tx a tl rest ms a0 a1 a2 a4 a5 st h1 h2 h3 h4 h5=>h.2.2 A tx a tl rest ms a0 a1 a2 a4 a5 st h1 h2 h3 (by lia) (by lia)⟩
theorem GV{b:Bool}{n m:List D}:Rn b [] n m [] n m m.length:=⟨V24 _,W11 _,fun A tx a tl rest ms a0 a1 a2 a4 a5 st h _ _ _ _=>⟨a4,a5,st,.refl,by simpa using h,.refl _ _⟩⟩
theorem dG{b:Bool}{rw' qs q0 n m:List D}{fnm:Str}{g:List D→M D}{s1 s2:List Nat}{n1 m1 n2 m2:List D}{c:Nat}(h1:∀st,jO pE (.s sort) st=some (.fn fnm,st))(h2:(pick T86.dl 5).lookup fnm=some g)(hm:m.length≤c+1)
  (h:∀(A:RA) (tx:Str) (a:Nat) (tl:List Nat) (rest ms:List D) (st:Sto),Rd A tx a n (ms++m) rest st→(cp tx).drop a=s1++(s2++tl)→(b=true→wM tl=true)→rest.length+qs.length≤60000→ms.length+m.length≤60000→∃v st',g [.r A.r,.t (.s sort::rw')] st=some (v,st')∧Rd A tx (a+s1.length) n1 (ms++m1) (rest++qs.reverse) st'∧Fq A st st')
  (h':Rn b (qs++q0) n1 m1 s2 n2 m2 c):Rn b (.t (.s sort::rw')::q0) n m (s1++s2) n2 m2 (c+1):=by
 have hc:=h'.1;rw[V12]at hc;refine⟨by simp;lia,hm,fun A tx a tl rest ms a0 a1 a2 a4 a5 st k1 k2 k3 k4 k5=>?_⟩;have kp:st[A.p]?=some (.l (rest++q0.reverse++[.t (.s sort::rw')])):=by rw[k1.p];simp
 have e1:kC (.r A.p) st=some (true,st):=by rw[iO kp,lL (by simp)];rfl
 have e2:dO "list" (.r A.p) st=some ((),st):=dJ kp;have e3:iM (.r A.p) [] st=some (.t (.s sort::rw'),st.set A.p (.l (rest++q0.reverse))):=kF kp;obtain⟨q1,q2⟩:=k1.setp (ps':=rest++q0.reverse);generalize st.set A.p (.l (rest++q0.reverse))=st1 at e3 q1 q2;obtain⟨v,st2,e4,q3,q4⟩:=h A tx a tl (rest++q0.reverse) ms st1 q1 (by rw[k2,W10]) k3 (by simp;lia) (by lia);rw[W10,←List.reverse_append]at q3;obtain⟨c4,c5,st3,g1,g2,g3⟩:=h'.2.2 A tx (a+s1.length) tl rest ms a0 a1 a2 (some (.t (.s sort::rw'))) (some (.fn fnm)) st2 q3 (eJ (u:=s1) (by rw[k2,W10])) k3 (by lia) (by lia);refine⟨c4,c5,st3,Rc.trans (fun r hr=>iN (st1:=st) (st2:=st2) (env1:=[a0,a1,a2,some (.r A.r),some (.t (.s sort::rw')),some (.fn fnm)]) ?_ ?_ hr) g1,by rw[V12,←Nat.add_assoc];exact g2,(q2.trans q4).trans g3⟩
 ·simp[k1.pend,e1]
 ·have f4:Cp (pick T86.dl 5) (.fn fnm) [.r A.r,.t (.s sort::rw')] st1=some (v,st2):=by
   show(match (pick T86.dl 5).lookup fnm with |some g=>g [.r A.r,.t (.s sort::rw')]|none=>bad) st1=_;rw[h2];exact e4
  simp only[CK];generalize pick T86.dl 5=TT at f4⊢;simp[k1.pend,e2,e3,h1,f4]
abbrev tR(s:Str):D:=.t [.s s]
abbrev JT(p:Str):D:=.t [.s "text",.s p]
abbrev Ec(hd:List D)(k:Nat):D:=.t [.s "make",.t hd,.i (k:Nat)]
abbrev Nk(sort close:Str):D:=.t [.s "list",.s sort,.s close]
abbrev Ed(sort close:Str)(k:Nat):D:=.t [.s "more",.s sort,.s close,.i (k:Nat)]
section
variable {ds:List D}{close:Str}
variable{b:Bool}{q0 n m:List D}{s2:List Nat}{n2 m2:List D}{c:Nat}
theorem BR{p:Str}(hp:p.length≤1000)(h':Rn b q0 n m s2 n2 m2 c):Rn b (JT p::q0) n m (cp p++s2) n2 m2 (c+1):=by
 refine dG (qs:=[]) (px (by kernel_rfl)) (show(pick T86.dl 5).lookup ("read_text":Str)=some kP by kernel_rfl) (by have:=h'.2.1;lia) (fun A tx a tl rest ms st h1 h2 _ _ _=>?_) h';obtain⟨st',e,q1,q2⟩:=dI (p:=p) h1 h2 hp;exact⟨.no,st',by simp[kP,kO,h1.o_skip,e],by simpa using q1,q2⟩
theorem Nl{hd:List D}(hh:hd.length≤1000)(hc:m.length+ds.length≤c+1)(h':Rn b q0 n (m++[.t (hd++ds)]) s2 n2 m2 c):Rn b (Ec hd ds.length::q0) n (m++ds) s2 n2 m2 (c+1):=by
 refine dG (s1:=[]) (qs:=[]) (px (by kernel_rfl)) (show(pick T86.dl 5).lookup ("read_make":Str)=some kR by kernel_rfl) (by simp;lia) (fun A tx a tl rest ms st h1 h2 _ _ hb=>?_) h';obtain⟨st',e,q1,q2⟩:=Bk (ms:=ms++m) (ds:=ds) (hd:=hd) (by rw[W10];exact h1) (by simp at hb⊢;lia);refine⟨.no,st',?_,by simpa using q1,q2⟩;generalize ((ds.length:Nat):Int)=k0 at e⊢;simp[kR,kQ,h1.o_make,e]
theorem Bm(hp:close.length≤1000)(hc:m.length≤c+1)(h':Rn b q0 n (m++[.t []]) s2 n2 m2 c):Rn b (Nk sort close::q0) n m (cp close++s2) n2 m2 (c+1):=by
 refine dG (qs:=[]) (px (by kernel_rfl)) (show(pick T86.dl 5).lookup ("read_list":Str)=some fY by kernel_rfl) hc (fun A tx a tl rest ms st h1 h2 _ _ hb=>?_) h';have e0:=gD (p:=close) h1 h2 hp;obtain⟨st1,e1,q1,q2⟩:=dI (p:=close) h1 h2 hp;obtain⟨st2,e2,q3,q4⟩:=Bk (ms:=ms++m) (ds:=[]) (hd:=[]) (by rw[U19];exact q1) (by simp at hb⊢;lia);have e2':lZ [.r A.r,.t [],.i 0] st1=some (.no,st2):=e2;refine⟨.no,st2,?_,by simpa using q3,q2.trans q4⟩;simp[fY,iJ,h1.o_sees,h1.o_skip,e0,e1,q1.o_make,e2']
theorem Hc(hp:close.length≤1000)(hs:∀tl,(s2++tl).take close.length≠cp close)(h':Rn b (tR sort::Ed sort close 1::q0) n m s2 n2 m2 c):Rn b (Nk sort close::q0) n m s2 n2 m2 (c+1):=by
 refine dG (s1:=[]) (qs:=[tR sort,Ed sort close 1]) (px (by kernel_rfl)) (show(pick T86.dl 5).lookup ("read_list":Str)=some fY by kernel_rfl) (by have:=h'.2.1;lia) (fun A tx a tl rest ms st h1 h2 _ hb _=>?_) h';have e0:=fD (p:=close) h1 (by rw[h2];exact hs tl) hp;have x1:Ext st (st++[.l [tR sort,Ed sort close 1]]):=Ext.app _ _;obtain⟨st1,e1,q1,q2⟩:=wJ (l:=st.length) (rows:=[tR sort,Ed sort close 1]) (h1.ext x1) (by simp) (by simp at hb⊢;lia);have e1':cX [.r A.r,.r st.length] (st++[.l [.t [.s sort],.t [.s "more",.s sort,.s close,.i 1]]])=some (.no,st1):=e1;refine⟨.no,st1,?_,by simpa using q1,(Fq.of x1).trans q2⟩;simp[fY,iJ,h1.o_sees,e0,h1.o_later,e1']
theorem Bn(hp:close.length≤1000)(hc:m.length+ds.length≤c+1)(h':Rn b q0 n (m++[.t ds]) s2 n2 m2 c):Rn b (Ed sort close ds.length::q0) n (m++ds) (cp close++s2) n2 m2 (c+1):=by
 refine dG (qs:=[]) (px (by kernel_rfl)) (show(pick T86.dl 5).lookup ("read_more":Str)=some fZ by kernel_rfl) (by simp;lia) (fun A tx a tl rest ms st h1 h2 _ _ hb=>?_) h';have e0:=gD (p:=close) h1 h2 hp;obtain⟨st1,e1,q1,q2⟩:=dI (p:=close) h1 h2 hp;obtain⟨st2,e2,q3,q4⟩:=Bk (ms:=ms++m) (ds:=ds) (hd:=[]) (by rw[W10];exact q1) (by simp at hb⊢;lia);refine⟨.no,st2,?_,by simpa using q3,q2.trans q4⟩;generalize ((ds.length:Nat):Int)=k0 at e2⊢;simp[fZ,iK,h1.o_sees,h1.o_skip,e0,e1,q1.o_make,e2]
theorem Hd{k:Nat}(hp:close.length≤1000)(hs:∀tl,(cp ", "++(s2++tl)).take close.length≠cp close)(h':Rn b (tR sort::Ed sort close (k+1)::q0) n m s2 n2 m2 c):Rn b (Ed sort close k::q0) n m (cp ", "++s2) n2 m2 (c+1):=by
 refine dG (qs:=[tR sort,Ed sort close (k+1)]) (px (by kernel_rfl)) (show(pick T86.dl 5).lookup ("read_more":Str)=some fZ by kernel_rfl) (by have:=h'.2.1;lia) (fun A tx a tl rest ms st h1 h2 _ hb _=>?_) h';have e0:=fD (p:=close) h1 (by rw[h2];exact hs tl) hp;obtain⟨st0,e2,q3,q4⟩:=dI (p:=", ") h1 h2 (by decide);have x1:Ext st0 (st0++[.l [tR sort,Ed sort close (k+1)]]):=Ext.app _ _;obtain⟨st1,e1,q1,q2⟩:=wJ (l:=st0.length) (rows:=[tR sort,Ed sort close (k+1)]) (q3.ext x1) (by simp) (by simp at hb⊢;lia);have e1':cX [.r A.r,.r st0.length] (st0++[.l [.t [.s sort],.t [.s "more",.s sort,.s close,.i (((k:Nat):Int)+1)]]])=some (.no,st1):=e1;refine⟨.no,st1,?_,by simpa using q1,(q4.trans (Fq.of x1)).trans q2⟩;simp[fZ,iK,h1.o_sees,e0,h1.o_skip,e2,q3.o_later,e1']
theorem GW(hd:ds.length≤4)(hc:m.length+1≤c+1)(h':Rn b q0 n (m++[.t ds]) s2 n2 m2 c):Rn b (tR "few"::q0) n (m++[.t ds]) s2 n2 m2 (c+1):=by
 refine dG (s1:=[]) (qs:=[]) (px (by kernel_rfl)) (show(pick T86.dl 5).lookup ("read_few":Str)=some mC by kernel_rfl) (by simp;lia) (fun A tx a tl rest ms st h1 h2 _ _ hb=>?_) h';refine⟨.no,st,?_,by simpa using h1,.refl _ _⟩;have e1:jO (.r A.m) (.i (-1)) st=some (.t ds,st):=by rw[gI h1.m,←W10,qG];rfl
 have e2:¬ (4:Int) < (ds.length:Nat):=by lia
 generalize hk:((ds.length:Nat):Int)=k0 at e2;have e3:bZ [.t ds] st=some (.i k0,st):=by rw[←hk];rfl
 simp[mC,mB,h1.made,e1,-zZ,e3,e2]
end
def Ve:List Nat→Bool
 |[]=>true
 |c::_=>!decide (c∈cp LET)&&c != 40
theorem Nm{tl:List Nat}(h:Ve tl=true):∀c,tl.head?=some c→c∉cp LET:=by
 intro c hc
 match tl,hc with
 |c::r,hc=>
  cases hc;rw[Ve]at h;simp only[Y11,U22,Z40]at h;exact h.1
theorem Nn{tl:List Nat}(h:Ve tl=true):tl.take 1≠[40]:=by
 intro hc
 match tl,hc with
 |c::r,hc=>
  simp at hc;subst hc;rw[Ve]at h;simp at h
theorem GX{tl:List Nat}(h:wM tl=true):Ve tl=true:=by
 match tl,h with
 |[],_=>rfl
 |c::r,h=>
  have h1:=Nj h c rfl;have h2:=BQ h;rw[Ve];simp only[Y11,U22,Z40];exact⟨h1,by simpa using h2⟩
def FT(b:Bool)(s:List Nat):Prop:=∀tl,(b=true→wM tl=true)→Ve (s++tl)=true
section
variable {A:RA}{tx w x:Str}{a:Nat}{d:D}
variable{b:Bool}{q0 n m:List D}{s2:List Nat}{n2 m2:List D}{c:Nat}
abbrev RT(x:Str)(g:List D→M D):Prop:=(pick T86.dl 5).lookup x=some g
theorem pT:RT "read_term_row" cS:=by kernel_rfl
theorem gQ:RT "read_statement_row" bJ:=by kernel_rfl
theorem Vf{tl:List Nat}:∀c,(cp "("++tl).head?=some c→c∉cp LET:=by
 intro c hc;rw[show cp "("=[40] by decide +kernel]at hc;simp at hc;subst hc
 decide +kernel
theorem lpar:("(":Str).length=1:=by decide
theorem appd{ns ms ps:List D}{st:Sto}(h:Rd A tx a ns ms ps st)(hb:ms.length≤60000):∃st',eH (.r A.m) [d] st=some (.no,st')∧Rd A tx a ns (ms++[d]) ps st'∧Fq A st st'∧dO "list" (.r A.m) st=some ((),st):=by
 obtain⟨k1,k2⟩:=h.setm (ms':=ms++[d]);exact⟨_,nL h.m (by rw[Y12];lia),k1,k2,dJ h.m⟩
theorem BS(hw:iY w=true)(hl:∀st l,st[l]?=some (.l n)→gW [.r l,.s w] st=some (d,st))(hs:FT b s2)(hc:m.length≤c+1)(h':Rn b q0 n (m++[d]) s2 n2 m2 c):Rn b (tR "term"::q0) n m (cp w++s2) n2 m2 (c+1):=by
 refine dG (qs:=[]) (px (by kernel_rfl)) pT hc (fun A tx a tl rest ms st h1 h2 h3 _ hb=>?_) h';have hf:=hs tl h3;obtain⟨st1,e1,q1,k1⟩:=eP (w:=w) h1 h2 (oG hw) (Nm hf);have e2:=lN (st:=st1) hw;obtain⟨st2,e3,x2⟩:=oF (st:=st1) hw;have q2:=q1.ext x2;have e4:cF [.r A.r,.s "("] st2=some (.b false,st2):=fD q2 (by rw[eJ h2,lpar];exact Nn hf) (by decide);have e5:=lN (st:=st2) hw;obtain⟨st3,e6,q3,k3,e7⟩:=appd (d:=d) q2 (by simp at hb⊢;lia);have e8:=hl st2 A.n q2.n;have w1:(("call":Str)==("form":Str))=false:=by decide
 refine⟨.no,st3,?_,by simpa using q3,(k1.trans (.of x2)).trans k3⟩;simp[cS,cR,h1.o_letters,e1,e2,e3,e5,q2.o_sees,e4,q2.made,e7,w1,q2.names,e8,e6]
theorem Tx(hw:wR w=true)(hs:FT b s2)(hc:m.length≤c+1)(h':Rn b q0 n (m++[.t [.s "form",.s w,.t []]]) s2 n2 m2 c):Rn b (tR "term"::q0) n m (cp w++s2) n2 m2 (c+1):=by
 refine dG (qs:=[]) (px (by kernel_rfl)) pT hc (fun A tx a tl rest ms st h1 h2 h3 _ hb=>?_) h';have hf:=hs tl h3;obtain⟨st1,e1,q1,k1⟩:=eP (w:=w) h1 h2 (wL hw) (Nm hf);obtain⟨st2,e2,x2⟩:=wK (st:=st1) hw;obtain⟨st3,e3,x3⟩:=wK (st:=st2) hw;have q2:=(q1.ext x2).ext x3;have e4:cF [.r A.r,.s "("] st3=some (.b false,st3):=fD q2 (by rw[eJ h2,lpar];exact Nn hf) (by decide);obtain⟨st4,e6,q3,k3,e7⟩:=appd (d:=.t [.s "form",.s w,.t []]) q2 (by simp at hb⊢;lia);have w1:(("form":Str)==("form":Str))=true:=by decide
 refine⟨.no,st4,?_,by simpa using q3,((k1.trans (.of x2)).trans (.of x3)).trans k3⟩;simp[cS,cR,h1.o_letters,e1,e2,e3,q2.o_sees,e4,q2.made,e7,w1,e6]
theorem latr{ns ms ps:List D}{st:Sto}{l:Nat}(rows:List D)(h:Rd A tx a ns ms ps st)(hl:st[l]?=some (.l rows))(hb:ps.length+rows.length≤60000):∃st',cX [.r A.r,.r l] st=some (.no,st')∧Rd A tx a ns ms (ps++rows.reverse) st'∧Fq A st st':=wJ h hl (by lia)
theorem Np(hw:iY w=true)(h':Rn b (Nk "term" ")"::tR "few"::Ec [.s "call",.s w] 1::q0) n m s2 n2 m2 c):Rn b (tR "term"::q0) n m ((cp w++cp "(")++s2) n2 m2 (c+1):=by
 refine dG (qs:=[Nk "term" ")",tR "few",Ec [.s "call",.s w] 1]) (px (by kernel_rfl)) pT (by have:=h'.2.1;lia) (fun A tx a tl rest ms st h1 h2 h3 hb _=>?_) h';rw[W10]at h2;obtain⟨st1,e1,q1,k1⟩:=eP (w:=w) h1 h2 (oG hw) Vf;have e2:=lN (st:=st1) hw;obtain⟨st2,e3,x2⟩:=oF (st:=st1) hw;have q2:=q1.ext x2;have e4:cF [.r A.r,.s "("] st2=some (.b true,st2):=gD q2 (eJ h2) (by decide);have e5:=lN (st:=st2) hw;obtain⟨st3,e6,q3,k3⟩:=dI (p:="(") q2 (eJ h2) (by decide);have x4:Ext st3 (st3++[.l [Nk "term" ")"],.l [tR "few",D.t [.s "make",.t [.s "call",.s w],.i 1]],.l [Nk "term" ")",tR "few",D.t [.s "make",.t [.s "call",.s w],.i 1]]]):=Ext.app _ _;have e7:aI (.r st3.length) (.r (st3.length+1)) (st3++[.l [Nk "term" ")"],.l [tR "few",D.t [.s "make",.t [.s "call",.s w],.i 1]]])=some (.r (st3.length+2),st3++[.l [Nk "term" ")"],.l [tR "few",D.t [.s "make",.t [.s "call",.s w],.i 1]],.l [Nk "term" ")",tR "few",D.t [.s "make",.t [.s "call",.s w],.i 1]]]):=by
  rw[eQ (xs:=[Nk "term" ")"]) (ys:=[tR "few",D.t [.s "make",.t [.s "call",.s w],.i 1]]) (by simp) (by simp) (zm (by simp))];simp
 obtain⟨st4,e8,q4,k4⟩:=latr (l:=st3.length+2) [Nk "term" ")",tR "few",D.t [.s "make",.t [.s "call",.s w],.i 1]] (q3.ext x4) (by simp) (by simp at hb⊢;lia);have w1:(("call":Str)==("call":Str))=true:=by decide
 have o1:=(q3.ext (Ext.app st3 [.l [D.t [.s "list",.s "term",.s ")"]]])).o_later;refine⟨.no,st4,?_,?_,((k1.trans (.of x2)).trans k3).trans ((Fq.of x4).trans k4)⟩
 ·simp[cS,cR,h1.o_letters,e1,e2,e3,e5,q2.o_sees,e4,q2.o_skip,e6,w1,o1,e7,e8]
 ·rw[V12,←Nat.add_assoc];exact q4
theorem BU(hw:wR w=true)(h':Rn b (tR "term"::Ed "term" ")" 1::tR "few"::Ec [.s "form",.s w] 1::q0) n m s2 n2 m2 c):Rn b (tR "term"::q0) n m ((cp w++cp "(")++s2) n2 m2 (c+1):=by
 refine dG (qs:=[tR "term",Ed "term" ")" 1,tR "few",Ec [.s "form",.s w] 1]) (px (by kernel_rfl)) pT (by have:=h'.2.1;lia) (fun A tx a tl rest ms st h1 h2 h3 hb _=>?_) h';rw[W10]at h2;obtain⟨st1,e1,q1,k1⟩:=eP (w:=w) h1 h2 (wL hw) Vf;obtain⟨st2,e2,x2⟩:=wK (st:=st1) hw;obtain⟨st2',e3,x3⟩:=wK (st:=st2) hw;have q2:=(q1.ext x2).ext x3;have e4:cF [.r A.r,.s "("] st2'=some (.b true,st2'):=gD q2 (eJ h2) (by decide);obtain⟨st3,e6,q3,k3⟩:=dI (p:="(") q2 (eJ h2) (by decide);have x4:Ext st3 (st3++[.l [tR "term",D.t [.s "more",.s "term",.s ")",.i 1]],.l [tR "few",D.t [.s "make",.t [.s "form",.s w],.i 1]],.l [tR "term",D.t [.s "more",.s "term",.s ")",.i 1],tR "few",D.t [.s "make",.t [.s "form",.s w],.i 1]]]):=Ext.app _ _;have e7:aI (.r st3.length) (.r (st3.length+1)) (st3++[.l [tR "term",D.t [.s "more",.s "term",.s ")",.i 1]],.l [tR "few",D.t [.s "make",.t [.s "form",.s w],.i 1]]])=some (.r (st3.length+2),st3++[.l [tR "term",D.t [.s "more",.s "term",.s ")",.i 1]],.l [tR "few",D.t [.s "make",.t [.s "form",.s w],.i 1]],.l [tR "term",D.t [.s "more",.s "term",.s ")",.i 1],tR "few",D.t [.s "make",.t [.s "form",.s w],.i 1]]]):=by
  rw[eQ (xs:=[tR "term",D.t [.s "more",.s "term",.s ")",.i 1]]) (ys:=[tR "few",D.t [.s "make",.t [.s "form",.s w],.i 1]]) (by simp) (by simp) (zm (by simp))];simp
 obtain⟨st4,e8,q4,k4⟩:=latr (l:=st3.length+2) [tR "term",D.t [.s "more",.s "term",.s ")",.i 1],tR "few",D.t [.s "make",.t [.s "form",.s w],.i 1]] (q3.ext x4) (by simp) (by simp at hb⊢;lia);have w1:(("form":Str)==("call":Str))=false:=by decide
 have o1:=(q3.ext (Ext.app st3 [.l [D.t [.s "term"],D.t [.s "more",.s "term",.s ")",.i 1]]])).o_later;refine⟨.no,st4,?_,?_,(((k1.trans (.of x2)).trans (.of x3)).trans k3).trans ((Fq.of x4).trans k4)⟩
 ·simp[cS,cR,h1.o_letters,e1,e2,e3,q2.o_sees,e4,q2.o_skip,e6,w1,o1,e7,e8]
 ·rw[V12,←Nat.add_assoc];exact q4
theorem Nq(h':Rn b (tR "statement"::tR "joint"::q0) n m s2 n2 m2 c):Rn b (tR "statement"::q0) n m (cp "("++s2) n2 m2 (c+1):=by
 refine dG (qs:=[tR "statement",tR "joint"]) (px (by kernel_rfl)) gQ (by have:=h'.2.1;lia) (fun A tx a tl rest ms st h1 h2 h3 hb _=>?_) h';have e4:cF [.r A.r,.s "("] st=some (.b true,st):=gD h1 h2 (by decide);obtain⟨st3,e6,q3,k3⟩:=dI (p:="(") h1 h2 (by decide);have x4:Ext st3 (st3++[.l [tR "statement",tR "joint"]]):=Ext.app _ _;obtain⟨st4,e8,q4,k4⟩:=latr (l:=st3.length) [tR "statement",tR "joint"] (q3.ext x4) (by simp) (by simp at hb⊢;lia);refine⟨.no,st4,?_,q4,k3.trans ((Fq.of x4).trans k4)⟩;simp[bJ,bI,h1.o_sees,e4,h1.o_skip,e6,q3.o_later,e8]
theorem npar{tl:List Nat}(hw:iY w=true∨w="false"∨w="all"∨w="some"):(cp w++tl).take 1≠[40]:=by
 have:∃c r,cp w=c::r∧c∈cp LET:=by
  rcases hw with h|rfl|rfl|rfl
  ·have hl:=oG h;unfold iY at h;simp only[Y11,U17]at h;cases q:cp w with
   |nil=>have:=h.1.1.1;rw[←bM,q]at this;simp at this
   |cons c r=>exact⟨c,r,rfl,hl c (by rw[q];simp)⟩
  ·exact⟨_,_,rfl,by decide +kernel⟩
  ·exact⟨_,_,rfl,by decide +kernel⟩
  ·exact⟨_,_,rfl,by decide +kernel⟩
 obtain⟨c,r,e,hc⟩:=this;rw[e];intro h;simp at h;subst h
 revert hc
 decide +kernel
theorem Bo(hs:∀tl,(b=true→wM tl=true)→wM (s2++tl)=true)(hc:m.length≤c+1)(h':Rn b q0 n (m++[.t [.s "false"]]) s2 n2 m2 c):Rn b (tR "statement"::q0) n m (cp "false"++s2) n2 m2 (c+1):=by
 refine dG (qs:=[]) (px (by kernel_rfl)) gQ hc (fun A tx a tl rest ms st h1 h2 h3 _ hb=>?_) h';have hf:=hs tl h3;have e4:cF [.r A.r,.s "("] st=some (.b false,st):=fD h1 (by rw[h2,lpar];exact npar (.inr (.inl rfl))) (by decide);obtain⟨st1,e1,q1,k1⟩:=eP (w:="false") h1 h2 (by decide +kernel) (Nj hf);obtain⟨st3,e6,q3,k3,e7⟩:=appd (d:=.t [.s "false"]) q1 (by simp at hb⊢;lia);have w1:(("false":Str)==("false":Str))=true:=by decide
 refine⟨.no,st3,?_,by simpa using q3,k1.trans k3⟩;simp[bJ,bI,h1.o_sees,e4,h1.at_,h1.o_letters,e1,w1,q1.made,e7,e6]
theorem oH{x:Nat}{r:List Nat}(hw:iY w=true∨wR w=true)(hx:x∉cp LET)(h':Rn b (tR "term"::tR "same or atom"::q0) n m (cp w++(x::r)) n2 m2 c):Rn b (tR "statement"::q0) n m (cp w++(x::r)) n2 m2 (c+1):=by
 refine dG (s1:=[]) (s2:=cp w++(x::r)) (qs:=[tR "term",tR "same or atom"]) (px (by kernel_rfl)) gQ (by have:=h'.2.1;lia) (fun A tx a tl rest ms st h1 h2 h3 hb _=>?_) h';simp only[W13,W10]at h2;have hlet:∀c∈cp w,c∈cp LET:=by rcases hw with hw|hw;exact oG hw;exact wL hw
 obtain⟨c0,r0,e0⟩:∃c r,cp w=c::r:=by
  rcases hw with hw|hw
  ·have:=(dR hw).1;cases q:cp w with
   |nil=>rw[←bM,q]at this;simp at this
   |cons c r=>exact⟨c,r,rfl⟩
  ·obtain⟨c,r,hc,_⟩:=nA hw;exact⟨c,r,hc⟩
 have hnp:(cp w++(x::r++tl)).take 1≠[40]:=by
  rw[e0];intro h;simp at h;have:=hlet c0 (by rw[e0];simp);rw[h]at this
  revert this
  decide +kernel
 have e4:cF [.r A.r,.s "("] st=some (.b false,st):=fD h1 (by rw[h2,lpar];exact hnp) (by decide);obtain⟨st1,e1,q1,k1⟩:=eP (w:=w) h1 h2 hlet (fun c hc=>by simp at hc;rw[←hc];exact hx);have wk:fG.contains w=false:=by
  rcases hw with hw|hw
  ·exact(dR hw).2.2.2
  ·cases e:fG.contains w with
   |false=>rfl
   |true=>
    have:∀v∈fG,wR v=false:=by decide +kernel
    rw[this w (Z19.mp e)]at hw;cases hw
 unfold fG at wk;simp only[W39,List.contains_nil,Bool.or_false,W43]at wk;have w1:(w==("false":Str))=false:=wk.1;have w2:nW.contains w=false:=by
  unfold nW;simp only[W39,List.contains_nil,Bool.or_false,W43];exact⟨wk.2.1,wk.2.2.1⟩
 have e5:=lM (st:=st1) w2;obtain⟨q2,k2⟩:=q1.seta (b:=a) h1.al;have e6:=q1.put (b:=a);generalize st1.set A.r (Ha A tx a)=st2 at q2 k2 e6;have x4:Ext st2 (st2++[.l [tR "term",tR "same or atom"]]):=Ext.app _ _;obtain⟨st4,e8,q4,k4⟩:=latr (l:=st2.length) [tR "term",tR "same or atom"] (q2.ext x4) (by simp) (by simp at hb⊢;lia);refine⟨.no,st4,?_,q4,(k1.trans k2).trans ((Fq.of x4).trans k4)⟩;simp[bJ,bI,h1.o_sees,e4,h1.at_,h1.o_letters,e1,w1,e5,e6,q2.o_later,e8]
theorem Nr{tl:List Nat}:∀c,(cp " "++tl).head?=some c→c∉cp LET:=by
 intro c hc;rw[show cp " "=[32] by decide +kernel]at hc;simp at hc;subst hc
 decide +kernel
theorem BV{tl:List Nat}:∀c,(cp ": "++tl).head?=some c→c∉cp LET:=by
 intro c hc;rw[show cp ": "=[58,32] by decide +kernel]at hc;simp at hc;subst hc
 decide +kernel
theorem yY{ns ms ps:List D}{st:Sto}{tl:List Nat}(hd:D)(mk:List D)(hh:(hd=.no∧mk=[])∨(∃y:List D,hd=.t y∧mk=[.t [.s "make",.t y,.i 1]]))(h1:Rd A tx a ns ms ps st)(h2:(cp tx).drop a=cp ": "++tl)(hn:ns.length≤1000)(hb:ps.length+(2+mk.length)≤60000):
  ∃v st',dD [.r A.r,.s x,hd] st=some (v,st')∧Rd A tx (a+(cp ": ").length) (ns++[.s x]) ms (ps++([tR "statement",tR "leave"]++mk).reverse) st'∧Fq A st st':=by
 obtain⟨st1,e1,q1,k1⟩:=dI (p:=": ") h1 h2 (by decide);obtain⟨q2,k2⟩:=q1.setn (ns':=ns++[.s x]);have e2:eH (.r A.n) [.s x] st1=some (.no,st1.set A.n (.l (ns++[.s x]))):=nL q1.n (by rw[Y12];lia);have e3:dO "list" (.r A.n) st1=some ((),st1):=dJ q1.n;generalize st1.set A.n (.l (ns++[.s x]))=st2 at q2 k2 e2;have x4:Ext st2 (st2++[.l [tR "statement",tR "leave"],.l mk,.l ([tR "statement",tR "leave"]++mk)]):=Ext.app _ _;have hml:mk.length≤1:=by rcases hh with⟨_,rfl⟩|⟨y,_,rfl⟩<;>simp
 have e7:aI (.r st2.length) (.r (st2.length+1)) (st2++[.l [tR "statement",tR "leave"],.l mk])=some (.r (st2.length+2),st2++[.l [tR "statement",tR "leave"],.l mk,.l ([tR "statement",tR "leave"]++mk)]):=by
  rw[eQ (xs:=[tR "statement",tR "leave"]) (ys:=mk) (by simp) (by simp) (zm (by simp;lia))];simp
 obtain⟨st4,e8,q4,k4⟩:=latr (l:=st2.length+2) ([tR "statement",tR "leave"]++mk) (q2.ext x4) (by simp) (by simp;lia);refine⟨.no,st4,?_,q4,(k1.trans k2).trans ((Fq.of x4).trans k4)⟩;rcases hh with⟨rfl,rfl⟩|⟨y,rfl,rfl⟩
 ·simp at e7 e8;simp[dD,dW,h1.o_skip,e1,q1.names,e3,e2,q2.o_later,CF,e7,e8]
 ·simp at e7 e8;simp[dD,dW,h1.o_skip,e1,q1.names,e3,e2,q2.o_later,CF,e7,e8]
theorem He{K:Str}(hw:w="all"∨w="some")(hx:iY x=true)(hK:iY K=true)(hn:n.length≤1000)(h':Rn b (tR "statement"::tR "leave"::Ec [.s w,.s K] 1::q0) (n++[.s x]) m s2 n2 m2 c):Rn b (tR "statement"::q0) n m ((cp w++(cp " "++(cp x++(cp " "++(cp K++cp ": ")))))++s2) n2 m2 (c+1):=by
 refine dG (qs:=[tR "statement",tR "leave",Ec [.s w,.s K] 1]) (px (by kernel_rfl)) gQ (by have:=h'.2.1;lia) (fun A tx a tl rest ms st h1 h2 h3 hb _=>?_) h';simp only[W10]at h2;have e4:cF [.r A.r,.s "("] st=some (.b false,st):=fD h1 (by rw[h2,lpar];exact npar (.inr (.inr hw))) (by decide);obtain⟨st1,e1,q1,k1⟩:=eP (w:=w) h1 h2 (by rcases hw with rfl|rfl<;>decide +kernel) Nr;have d1:=eJ h2;have w1:(w==("false":Str))=false:=by rcases hw with rfl|rfl<;>decide
 have w2:nW.contains w=true:=by rcases hw with rfl|rfl<;>decide
 have e5:=lM (st:=st1) w2;obtain⟨st2,e2,q2,k2⟩:=dI (p:=" ") q1 d1 (by decide);have d2:=eJ d1;obtain⟨st3,e3,q3,k3⟩:=uJ (w:=x) q2 d2 hx Nr;have d3:=eJ d2;obtain⟨st4,e6,q4,k4⟩:=dI (p:=" ") q3 d3 (by decide);have d4:=eJ d3;obtain⟨st5,e7,q5,k5⟩:=uJ (w:=K) q4 d4 hK BV;have d5:=eJ d4;obtain⟨v,st6,e8,q6,k6⟩:=yY (x:=x) (.t [.s w,.s K]) [.t [.s "make",.t [.s w,.s K],.i 1]] (.inr ⟨_,rfl,rfl⟩) q5 d5 hn (by simp at hb⊢;lia);refine⟨.no,st6,?_,?_,((((k1.trans k2).trans k3).trans k4).trans k5).trans k6⟩
 ·simp[bJ,bI,h1.o_sees,e4,h1.at_,h1.o_letters,e1,w1,e5,q1.o_skip,e2,q2.o_next,e3,q3.o_skip,e6,q4.o_next,e7,e8]
 ·have:a+(cp w++(cp " "++(cp x++(cp " "++(cp K++cp ": "))))).length=a+(cp w).length+(cp " ").length+(cp x).length+(cp " ").length+(cp K).length+(cp ": ").length:=by simp only[V12];lia
  rw[this];exact q6
theorem Tz{x:D}(h':Rn b q0 n m s2 n2 m2 c):Rn b (tR "leave"::q0) (n++[x]) m s2 n2 m2 (c+1):=by
 refine dG (s1:=[]) (qs:=[]) (px (by kernel_rfl)) (show RT "read_leave" jS by kernel_rfl) (by have:=h'.2.1;lia) (fun A tx a tl rest ms st h1 h2 h3 hb _=>?_) h';obtain⟨q2,k2⟩:=h1.setn (ns':=n);have e2:iM (.r A.n) [] st=some (x,st.set A.n (.l n)):=kF h1.n;have e3:dO "list" (.r A.n) st=some ((),st):=dJ h1.n;refine⟨.no,_,?_,by simpa using q2,k2⟩;simp[jS,jR,h1.names,e3,e2]
theorem BW{as:List D}(hs:∀tl,(b=true→wM tl=true)→wM (s2++tl)=true)(hc:m.length+1≤c+1)(h':Rn b q0 n (m++[.t [.s "atom",.s w,.t as]]) s2 n2 m2 c):Rn b (tR "same or atom"::q0) n (m++[.t [.s "call",.s w,.t as]]) s2 n2 m2 (c+1):=by
 refine dG (s1:=[]) (qs:=[]) (px (by kernel_rfl)) (show RT "read_same_or_atom" cD by kernel_rfl) (by simp;lia) (fun A tx a tl rest ms st h1 h2 h3 _ hb=>?_) h';have hf:=hs tl h3;have e4:cF [.r A.r,.s " = "] st=some (.b false,st):=fD h1 (by rw[h2,W13,show(" = ":Str).length=3 by decide,show cp " = "=[32,61,32] by decide +kernel];exact GU hf) (by decide);have hm:st[A.m]?=some (.l ((ms++m)++[.t [.s "call",.s w,.t as]])):=by rw[h1.m];simp
 have e2:iM (.r A.m) [] st=some (.t [.s "call",.s w,.t as],st.set A.m (.l (ms++m))):=kF hm;have e3:dO "list" (.r A.m) st=some ((),st):=dJ hm;obtain⟨q2,k2⟩:=h1.setm (ms':=ms++m);generalize st.set A.m (.l (ms++m))=st1 at q2 k2 e2;obtain⟨st3,e6,q3,k3,e7⟩:=appd (d:=.t [.s "atom",.s w,.t as]) q2 (by simp at hb⊢;lia);have w1:(("call":Str)==("call":Str))=true:=by decide
 refine⟨.no,st3,?_,by simpa using q3,k2.trans k3⟩;simp[cD,cZ,h1.o_sees,e4,h1.made,e3,e2,w1,q2.made,e7,e6]
theorem la:cp " and "=[32,97,110,100,32]:=by decide +kernel
theorem lo:cp " or "=[32,111,114,32]:=by decide +kernel
theorem li:cp " -> "=[32,45,62,32]:=by decide +kernel
theorem Ua{j:Str}(hw:(w="and"∧j=" and ")∨(w="or"∧j=" or ")∨(w="if"∧j=" -> "))(h':Rn b (tR "statement"::JT ")"::Ec [.s w] 2::q0) n m s2 n2 m2 c):Rn b (tR "joint"::q0) n m (cp j++s2) n2 m2 (c+1):=by
 refine dG (qs:=[tR "statement",JT ")",Ec [.s w] 2]) (px (by kernel_rfl)) (show RT "read_joint" eY by kernel_rfl) (by have:=h'.2.1;lia) (fun A tx a tl rest ms st h1 h2 h3 hb _=>?_) h';have hj:j.length≤1000:=by rcases hw with⟨_,rfl⟩|⟨_,rfl⟩|⟨_,rfl⟩<;>decide
 have e4:=gD (p:=j) h1 h2 hj;obtain⟨st3,e6,q3,k3⟩:=dI (p:=j) h1 h2 hj;have x4:Ext st3 (st3++[.l [.t [.s "statement"],.t [.s "text",.s ")"],.t [.s "make",.t [.s w],.i 2]]]):=Ext.app _ _;obtain⟨st4,e8,q4,k4⟩:=latr (l:=st3.length) [.t [.s "statement"],.t [.s "text",.s ")"],.t [.s "make",.t [.s w],.i 2]] (q3.ext x4) (by simp) (by simp at hb⊢;lia);have hi:Ad iZ st=some (([.t [.s "and",.s " and "],.t [.s "or",.s " or "],.t [.s "if",.s " -> "]],fun _=>True),st):=rfl;refine⟨.no,st4,?_,q4,k3.trans ((Fq.of x4).trans k4)⟩;rcases hw with⟨rfl,rfl⟩|⟨rfl,rfl⟩|⟨rfl,rfl⟩
 ·simp[eY,eX,hi,eK,h1.o_sees,e4,h1.o_skip,e6,q3.o_later,e8]
 ·have f1:cF [.r A.r,.s " and "] st=some (.b false,st):=fD h1 (by rw[h2,lo,la,show(" and ":Str).length=5 by decide];simp) (by decide);simp[eY,eX,hi,eK,h1.o_sees,f1,e4,h1.o_skip,e6,q3.o_later,e8]
 ·have f1:cF [.r A.r,.s " and "] st=some (.b false,st):=fD h1 (by rw[h2,li,la,show(" and ":Str).length=5 by decide];simp) (by decide);have f2:cF [.r A.r,.s " or "] st=some (.b false,st):=fD h1 (by rw[h2,li,lo,show(" or ":Str).length=4 by decide];simp) (by decide);simp[eY,eX,hi,eK,h1.o_sees,f1,f2,e4,h1.o_skip,e6,q3.o_later,e8]
theorem BX(h':Rn b (tR "term"::Ec [.s "same"] 2::q0) n m s2 n2 m2 c):Rn b (tR "same or atom"::q0) n m (cp " = "++s2) n2 m2 (c+1):=by
 refine dG (qs:=[tR "term",Ec [.s "same"] 2]) (px (by kernel_rfl)) (show RT "read_same_or_atom" cD by kernel_rfl) (by have:=h'.2.1;lia) (fun A tx a tl rest ms st h1 h2 h3 hb _=>?_) h';have e4:=gD (p:=" = ") h1 h2 (by decide);obtain⟨st3,e6,q3,k3⟩:=dI (p:=" = ") h1 h2 (by decide);have x4:Ext st3 (st3++[.l [.t [.s "term"],.t [.s "make",.t [.s "same"],.i 2]]]):=Ext.app _ _;obtain⟨st4,e8,q4,k4⟩:=latr (l:=st3.length) [.t [.s "term"],.t [.s "make",.t [.s "same"],.i 2]] (q3.ext x4) (by simp) (by simp at hb⊢;lia);refine⟨.no,st4,?_,q4,k3.trans ((Fq.of x4).trans k4)⟩;simp[cD,cZ,h1.o_sees,e4,h1.o_skip,e6,q3.o_later,e8]
end
def FO(b:Bool)(s:List Nat):Prop:=∀tl,(b=true→wM tl=true)→wM (s++tl)=true
theorem Vg{b:Bool}{p:Str}(h:GR (cp p)=true):FO b (cp p++X):=fun tl _=>by rw[W10];exact BP h
section
variable {hd:List D}{x:D}{w:Str}
variable{b:Bool}{q0 n m:List D}{s2:List Nat}{n2 m2:List D}{c:Nat}
theorem wN{d:D}(h':Rn b q0 n (m++[d]) s2 n2 m2 c):m.length+1≤c:=by have:=h'.2.1;simpa using this
theorem pU(hh:hd.length≤1000)(h':Rn b q0 n (m++[.t (hd++[x])]) s2 n2 m2 c):Rn b (Ec hd 1::q0) n (m++[x]) s2 n2 m2 (c+1):=Nl (ds:=[x]) hh (by have:=wN h';simp;lia) h'
theorem Ee{y:D}(hh:hd.length≤1000)(h':Rn b q0 n (m++[.t (hd++[x,y])]) s2 n2 m2 c):Rn b (Ec hd 2::q0) n (m++[x]++[y]) s2 n2 m2 (c+2):=by
 rw[W10];exact Nl (ds:=[x,y]) (c:=c+1) hh (by have:=wN h';simp;lia) (h'.mono (by lia))
theorem Nt{ds:List D}(hd:ds.length≤4)(h':Rn b q0 n (m++[.t ds]) s2 n2 m2 c):Rn b (tR "few"::q0) n (m++[.t ds]) s2 n2 m2 (c+1):=GW hd (by have:=wN h';lia) h'
theorem Vh{u tl:List Nat}{close:Str}{x:Nat}(h:u.head?=some x)(hc:cp close=[41]∨cp close=[93])(hx:x≠41∧x≠93):((u++X)++tl).take close.length≠cp close:=by
 match u,h with
 |y::r,h=>
  cases h;have hl:close.length=1:=by rcases hc with e|e<;>(rw[←bM,e];rfl)
  rw[hl];rcases hc with e|e<;>(rw[e];simp;first|exact hx.1|exact hx.2)
theorem Ub{t:List Nat}(hw:iY w=true)(ht:∀tl,(t++tl).take (")":Str).length≠cp ")")(h:Rn b (tR "term"::Ed "term" ")" 1::tR "few"::Ec [.s "call",.s w] 1::q0) n m t n2 m2 c):Rn b (tR "term"::q0) n m ((cp w++cp "(")++t) n2 m2 (c+2):=Np hw (Hc (by decide) ht h)
theorem Uc(hw:iY w=true)(h':Rn b q0 n (m++[.t [.s "call",.s w,.t []]]) s2 n2 m2 c):Rn b (tR "term"::q0) n m ((cp w++cp "(")++(cp ")"++s2)) n2 m2 (c+4):=
 have h1:=pU (hd:=[.s "call",.s w]) (x:=.t []) (by simp) h';have h2:=Nt (ds:=[]) (by simp) h1
 Np hw (Bm (by decide) (by have:=wN h2;lia) h2)
end
theorem Vi:cp ")"=[41]:=by decide +kernel
theorem Ud:GR (cp ")")=true:=by decide +kernel
theorem BY{close:Str}(hc:cp close=[41]∨cp close=[93])(tl:List Nat):(cp ", "++(X++tl)).take close.length≠cp close:=by
 rw[←W10];exact Vh (x:=44) (by decide +kernel) hc (by decide)
def Vj:List Str→List Nat
 |[]=>[]
 |s::r=>cp ", "++(cp s++Vj r)
theorem Nu(x:Str):∀r:List Str,jn (cp ", ") (x::r)=cp x++Vj r
 |[]=>by simp[jn,Vj]
 |y::r=>by
  have ih:=Nu y r;simp only[jn,Vj]at ih⊢;rw[ih]
def rC:Nat→Nat
 |0=>1
 |n+1=>4*(rC n+1)+20
theorem Vk(n:Nat):1≤rC n:=by
 cases n with
 |zero=>exact W11 _
 |succ n=>show 1≤4*(rC n+1)+20;lia
theorem Nv{b:Bool}{p:Str}(h:Ve (cp p)=true)(hp:cp p≠[]):FT b (cp p++X):=fun tl _=>by
 cases q:cp p with
 |nil=>exact absurd q hp
 |cons x r=>rw[q]at h;exact h
theorem Nw{b:Bool}:∀r:List Str,FT b (Vj r++(cp ")"++X))
 |[]=>Nv (by decide +kernel) (by decide +kernel)
 |y::r=>by
  rw[Vj,W10];exact Nv (by decide +kernel) (by decide +kernel)
def KC(ns:List D)(t:D)(s:Str)(k:Nat):Prop:=∀{b:Bool} {q0 m:List D} {s2:List Nat} {n2 m2:List D} {c:Nat},FT b s2→Rn b q0 ns (m++[t]) s2 n2 m2 c→Rn b (tR "term"::q0) ns m (cp s++s2) n2 m2 (c+k)
theorem Nx{ns:List D}{k:Nat}{b:Bool}{q1 m:List D}{s2:List Nat}{n2 m2:List D}{c:Nat}:∀(ps:List (D×Str)) (ds:List D),(∀q∈ps,KC ns q.1 q.2 k)→ds.length+ps.length≤4→Rn b q1 ns (m++[.t (ds++ps.map (·.1))]) s2 n2 m2 c→Rn b (Ed "term" ")" ds.length::q1) ns (m++ds) (Vj (ps.map (·.2))++(cp ")"++s2)) n2 m2 (c+5+ps.length*(k+1))
 |[],ds,_,hl,h'=>by
  rw[W21,U19]at h';have h1:=wN h';simp only[Y25]at hl;exact(Bn (sort:="term") (close:=")") (c:=c+4) (by decide) (by lia) (h'.mono (by lia))).mono (by lia)
 |p::ps,ds,hp,hl,h'=>by
  simp only[Z14]at hl;have ih:=Nx ps (ds++[p.1]) (fun q hq=>hp q (U11 _ hq)) (by simp;lia) (by simpa using h');rw[V12,←W10]at ih;have h2:=hp p (by simp) (Nw _) ih;have h3:=Hd (k:=ds.length) (close:=")") (by decide) (BY (.inl Vi)) h2;rw[Z12,Vj,W10,W10];refine h3.mono ?_;simp only[Z14,Nat.add_mul,Nat.one_mul]
  lia
theorem Tm.head{sc:List Str}{n:Nat}{t:D}{s:Str}(h:Tm sc n t s):∃w r,cp s=cp w++r∧(iY w=true∨wR w=true)∧(r=[]∨∃r',r=40::r'):=by
 have hp:cp "("=[40]:=by decide +kernel
 cases h with
 |leaf n x hx=>exact⟨s,[],by simp,.inl hx,.inl rfl⟩
 |form0 n w hw=>exact⟨s,[],by simp,.inr hw,.inl rfl⟩
 |form n w ps u hw=>exact⟨w,40::(cp u++cp ")"),by rw[aX,aX,aX,hp,W10,W10];rfl,.inr hw,.inr ⟨_,rfl⟩⟩
 |call n w ps u hw=>exact⟨w,40::(cp u++cp ")"),by rw[aX,aX,aX,hp,W10,W10];rfl,.inl hw,.inr ⟨_,rfl⟩⟩
theorem Tm.hd1{sc:List Str}{n:Nat}{t:D}{s:Str}(h:Tm sc n t s):∃x,(cp s).head?=some x∧x≠41∧x≠93:=by
 obtain⟨w,r,e,hw,_⟩:=h.head;have hlet:∀c∈cp w,c∈cp LET:=by rcases hw with hw|hw;exact oG hw;exact wL hw
 have hl:∀c∈cp LET,c≠41∧c≠93:=by decide +kernel
 have:∃c r,cp w=c::r:=by
  rcases hw with hw|hw
  ·have:=(dR hw).1;cases q:cp w with
   |nil=>rw[←bM,q]at this;simp at this
   |cons c r=>exact⟨c,r,rfl⟩
  ·obtain⟨c,r,hc,_⟩:=nA hw;exact⟨c,r,hc⟩
 obtain⟨c,r1,e1⟩:=this;exact⟨c,by rw[e,e1];rfl,hl c (hlet c (by rw[e1];simp))⟩
theorem pV{w s:Str}:cp (w++("(":Str)++s++(")":Str))++X=(cp w++cp "(")++(cp s++(cp ")"++X)):=by
 simp only[aX,W10]
theorem HN{sc:List Str}{n:Nat}{t:D}{s:Str}(h:Tm sc n t s):KC (sc.map D.s) t s (rC n):=by
 induction h with
 |leaf n x hx=>
  intro b q0 m s2 n2 m2 c hs h';exact(BS (w:=x) (n:=sc.map D.s) (d:=iB sc x) hx (fun st l hl=>Hb hl) hs (by have:=wN h';lia) h').mono (by have:=Vk n;lia)
 |form0 n w hw=>
  intro b q0 m s2 n2 m2 c hs h';exact(Tx (w:=w) hw hs (by have:=wN h';lia) h').mono (by have:=Vk n;lia)
 |form n w ps s hw h0 h4 hp hs ih=>
  intro b q0 m s2 n2 m2 c hf h';cases ps with
  |nil=>simp at h0
  |cons p ps=>
   simp only[Z14]at h4;have h1:=pU (hd:=[.s "form",.s w]) (x:=.t ((p::ps).map (·.1))) (by simp) h';have h2:=Nt (by simp;lia) h1;have h3:=Nx (k:=rC n) ps [p.1] (fun q hq=>ih q (U11 _ hq)) (by simp;lia) h2;have h4':=ih p (by simp) (Nw _) h3;have h5:=BU hw h4';rw[Z12,Nu]at hs;rw[pV,hs,W10 (cp p.2)];refine h5.mono ?_;have:ps.length*(rC n+1)≤3*(rC n+1):=W15 _ (by lia);show _≤c+(4*(rC n+1)+20)
   lia
 |call n w ps s hw h4 hp hs ih=>
  intro b q0 m s2 n2 m2 c hf h';cases ps with
  |nil=>
   have h1:=Uc hw h';simp only[W21,jn]at hs;rw[pV,hs,W13];exact h1.mono (by show _≤c+(4*(rC n+1)+20);lia)
  |cons p ps=>
   simp only[Z14]at h4;have h1:=pU (hd:=[.s "call",.s w]) (x:=.t ((p::ps).map (·.1))) (by simp) h';have h2:=Nt (by simp;lia) h1;have h3:=Nx (k:=rC n) ps [p.1] (fun q hq=>ih q (U11 _ hq)) (by simp;lia) h2;have h4':=ih p (by simp) (Nw _) h3;obtain⟨x,hx,hx2⟩:=(hp p (by simp)).hd1;have h5:=Ub hw (fun tl=>Vh hx (.inl Vi) hx2) h4';rw[Z12,Nu]at hs;rw[pV,hs,W10 (cp p.2)];refine h5.mono ?_;have:ps.length*(rC n+1)≤3*(rC n+1):=W15 _ (by lia);show _≤c+(4*(rC n+1)+20)
   lia
def rS:Nat→Nat
 |0=>2000
 |n+1=>2*rS n+20
theorem Ef(n:Nat):2000≤rS n:=by
 cases n with
 |zero=>exact W11 _
 |succ n=>have:=Ef n;show 2000≤2*rS n+20;lia
theorem Ny{b:Bool}{s:List Nat}(h:FO b s):FT b s:=fun tl q=>GX (h tl q)
theorem JU{sc:List Str}{k:Nat}{t:D}{s:Str}{b:Bool}{q0 m:List D}{n2 m2:List D}{c x:Nat}{r:List Nat}(h:Tm sc k t s)(hX:X=x::r)(hx:x∉cp LET)(h':Rn b (tR "term"::tR "same or atom"::q0) (sc.map D.s) m (cp s++X) n2 m2 c):Rn b (tR "statement"::q0) (sc.map D.s) m (cp s++X) n2 m2 (c+1):=by
 obtain⟨w,r1,e,hw,hr⟩:=h.head;rw[e,W10]at h' ⊢;rcases hr with rfl|⟨r2,rfl⟩
 ·rw[W13,hX]at h' ⊢;exact oH hw hx h'
 ·rw[U18]at h' ⊢;exact oH hw (by decide +kernel) h'
theorem GY:∀q∈jws,GR (cp q.2)=true:=by decide +kernel
theorem KQ{sc:List Str}{n:Nat}{A:D}{s:Str}(h:Stm sc n A s):∀{b:Bool} {q0 m:List D} {s2:List Nat} {n2 m2:List D} {c:Nat},sc.length+n≤100→FO b s2→Rn b q0 (sc.map D.s) (m++[A]) s2 n2 m2 c→Rn b (tR "statement"::q0) (sc.map D.s) m (cp s++s2) n2 m2 (c+rS n):=by
 have r2:rC 2=136:=rfl;have r3:rC 3=568:=rfl
 induction h with
 |fal sc n=>
  intro b q0 m s2 n2 m2 c _ hs h';exact(Bo hs (by have:=wN h';lia) h').mono (by have:=Ef n;lia)
 |same sc n x y s u h1 h2=>
  intro b q0 m s2 n2 m2 c _ hs h';have k1:=Ee (hd:=[.s "same"]) (x:=x) (y:=y) (by simp) h';have k2:=HN h2 (Ny hs) k1;have k3:=BX k2;have k4:=HN h1 (Nv (by decide +kernel) (by decide +kernel)) k3;have k5:=JU h1 (show cp " = "++(cp u++s2)=32::(61::32::(cp u++s2)) by rw[show cp " = "=[32,61,32] by decide +kernel];rfl) (by decide +kernel) k4;rw[aX,aX,W10,W10];exact k5.mono (by have:=Ef n;lia)
 |atom sc n w ps s hw h4 hp hs=>
  intro b q0 m s2 n2 m2 c _ hf h';have k1:=BW (w:=w) (as:=ps.map (·.1)) hf (by have:=wN h';lia) h';have tm:Tm sc 3 (.t [.s "call",.s w,.t (ps.map (·.1))]) (w++("(":Str)++s++(")":Str)):=.call 2 w ps s hw h4 hp hs;have k2:=HN tm (Ny hf) k1;have e:cp (w++("(":Str)++s++(")":Str))++s2=cp w++(40::(cp s++(cp ")"++s2))):=by
   rw[pV,show cp "("=[40] by decide +kernel,W10]
   rfl
  rw[e]at k2⊢;exact(oH (.inl hw) (by decide +kernel) k2).mono (by have:=Ef n;lia)
 |join sc n w sg A B s u hw _ _ ih1 ih2=>
  intro b q0 m s2 n2 m2 c hl hs h';have k1:=Ee (hd:=[.s w]) (x:=A) (y:=B) (by simp) h';have k2:=BR (p:=")") (by decide) k1;have k3:=ih2 (by lia) (Vg Ud) k2;have hw':(w="and"∧sg=" and ")∨(w="or"∧sg=" or ")∨(w="if"∧sg=" -> "):=by
   simp only[jws,Z13,U21,U15,or_false]at hw;exact hw
  have k4:=Ua hw' k3;have k5:=ih1 (by lia) (Vg (GY _ hw)) k4;have k6:=Nq k5;have e:cp (("(":Str)++s++sg++u++(")":Str))++s2=cp "("++(cp s++(cp sg++(cp u++(cp ")"++s2)))):=by simp only[aX,W10]
  rw[e];exact k6.mono (by show _≤c+(2*rS n+20);lia)
 |bind sc n w x K A s hw hx hK _ ih=>
  intro b q0 m s2 n2 m2 c hl hs h';have k1:=pU (hd:=[.s w,.s K]) (x:=A) (by simp) h';have k2:=Tz (x:=.s x) k1;have e1:(sc++[x]).map D.s=sc.map D.s++[.s x]:=by simp
  rw[e1]at ih;have k3:=ih (by simp;lia) hs k2;have hw':w="all"∨w="some":=by simpa[bws]using hw
  have k4:=He hw' hx hK (by simp;lia) k3;have e:cp (w++(" ":Str)++x++(" ":Str)++K++(": ":Str)++s)++s2=(cp w++(cp " "++(cp x++(cp " "++(cp K++cp ": ")))))++(cp s++s2):=by simp only[aX,W10]
  rw[e];exact k4.mono (by show _≤c+(2*rS n+20);lia)
section
variable {tx s:Str}{d:D}
variable{st:Sto}
theorem lB{f:Str}{y:D}{fs:List (Str×D)}{r:Sto}(h:fs.length<1000):jP cC f (.r st.length) y (st++.o cC fs::r)=some ((),st++.o cC (lP f y fs)::r):=by
 rw[Kl (fs:=fs) (by simp) h];simp
theorem BZ{ln:Nat}:fO [.r st.length,.s tx,.r ln] (st++[.o cC []])=some (.no,st++[.o cC (HM ⟨st.length,ln,st.length+1,st.length+2⟩ tx 0),.l [],.l []]):=by
 have h0:bD [.s tx,.ty "str"] (st++[.o cC []])=some (.b true,st++[.o cC []]):=rfl;have f1:∀y:D,lP "text" y []=([("text",y)]:List (Str×D)):=fun y=>by kernel_rfl
 have f2:∀x y:D,lP "at" y [("text",x)]=([("text",x),("at",y)]:List (Str×D)):=fun x y=>by kernel_rfl
 have f3:∀x z y:D,lP "names" y [("text",x),("at",z)]=([("text",x),("at",z),("names",y)]:List (Str×D)):=fun x z y=>by kernel_rfl
 have f4:∀x z w y:D,lP "made" y [("text",x),("at",z),("names",w)]=([("text",x),("at",z),("names",w),("made",y)]:List (Str×D)):=fun x z w y=>by kernel_rfl
 have f5:∀x z w v y:D,lP "pending" y [("text",x),("at",z),("names",w),("made",v)]=([("text",x),("at",z),("names",w),("made",v),("pending",y)]:List (Str×D)):=fun x z w v y=>by kernel_rfl
 have e1:jP cC "text" (.r st.length) (.s tx) (st++[.o cC []])=some ((),st++[.o cC [("text",.s tx)]]):=by rw[lB (by simp),f1]
 have e2:jP cC "at" (.r st.length) (.i 0) (st++[.o cC [("text",.s tx)]])=some ((),st++[.o cC [("text",.s tx),("at",.i 0)]]):=by rw[lB (by simp),f2]
 have e3:jP cC "names" (.r st.length) (.r ln) (st++[.o cC [("text",.s tx),("at",.i 0)]])=some ((),st++[.o cC [("text",.s tx),("at",.i 0),("names",.r ln)]]):=by rw[lB (by simp),f3]
 have e4:jP cC "made" (.r st.length) (.r (st.length+1)) (st++[.o cC [("text",.s tx),("at",.i 0),("names",.r ln)],.l []])=some ((),st++[.o cC [("text",.s tx),("at",.i 0),("names",.r ln),("made",.r (st.length+1))],.l []]):=by rw[lB (by simp),f4]
 have e5:jP cC "pending" (.r st.length) (.r (st.length+2)) (st++[.o cC [("text",.s tx),("at",.i 0),("names",.r ln),("made",.r (st.length+1))],.l [],.l []])=some ((),st++[.o cC [("text",.s tx),("at",.i 0),("names",.r ln),("made",.r (st.length+1)),("pending",.r (st.length+2))],.l [],.l []]):=by rw[lB (by simp),f5]
 simp[fO,kN,h0,e1,e2,e3,e4,e5]
 rfl
theorem uK{c l0:Nat}(hE:Rn true [tR sort] [] [] (cp tx) [] [d] c)(hc:c≤50000)(htx:tx.length≤100000)(h0:st[l0]?=some (.l [])):∃st',jG [.s sort,.s tx,.r l0] st=some (d,st')∧Ext st st':=by
 have e1:kH [.r l0] st=some (.r st.length,st++[.l []]):=Ry h0;have x1:Ext st (st++[.l []]):=Ext.app _ _;generalize hA:(⟨st.length+1,st.length,st.length+2,st.length+3⟩:RA)=A;have e2:Uv cC fO [.s tx,.r st.length] (st++[.l []])=some (.r (st.length+1),st++[.l [],Ha A tx 0,.l [],.l []]):=by
  have:=BZ (st:=st++[.l []]) (tx:=tx) (ln:=st.length);unfold Uv;rw[this,←hA];simp[Ha]
 have q0:Rd A tx 0 [] [] [] (st++[.l [],Ha A tx 0,.l [],.l []]):=by
  subst hA;exact⟨by simp,by simp,by simp,by simp,by simp,by simp,by simp,V24 _,htx⟩
 have x2:Ext st (st++[.l [],Ha A tx 0,.l [],.l []]):=Ext.app _ _;have hr:A.r=st.length+1:=by rw[←hA]
 have hn:A.n=st.length:=by rw[←hA]
 have hm:A.m=st.length+2:=by rw[←hA]
 have hp:A.p=st.length+3:=by rw[←hA]
 generalize st++[.l [],Ha A tx 0,.l [],.l []]=st2 at e2 q0 x2;have x3:Ext st2 (st2++[.l [tR sort]]):=Ext.app _ _;obtain⟨st3,e3,q3,k3⟩:=latr (l:=st2.length) [tR sort] (q0.ext x3) (by simp) (by simp);obtain⟨a4,a5,st4,g1,g2,g3⟩:=hE.2.2 A tx 0 [] [] [] (some (.s sort)) (some (.s tx)) (some (.r l0)) none none st3 q3 (by simp) (fun _=>rfl) (by simpa using hc) (by simpa using hc);have t1:kC (.r A.p) st4=some (false,st4):=iO g2.p;have hw:=g1 _ (iG (tb:=CK) (tc:=gE (jJ cC "pending" (eV 3))) (st1:=st4) (by simp[g2.pend,t1]));have hend:yM [.r A.r] st4=some (.no,st4):=by
  have h1:bZ [.s tx] st4=some (.i (tx.length:Nat),st4):=L2.hY (zm htx);have h2:(((0+(cp tx).length:Nat):Int)==(tx.length:Nat))=true:=by rw[Z38,bM];simp
  have h3:=g2.at_;generalize ((0+(cp tx).length:Nat):Int)=q at h2 h3;simp[yM,Ba,h3,g2.text,h1,h2]
 have hm0:jO (.r A.m) (.i 0) st4=some (d,st4):=by rw[gI g2.m];simp
 refine⟨st4,?_,fun l x e=>?_⟩
 ·have hb:nY=aE (sA (HH cC fO (aC (eV 1) (aC (aM kH (aC (eV 2) aN)) aN))) (gN 3)) (aE (sE (lH cC "later" cX (eV 3) (aC (eL (aC (eT (aC (eV 0) aN)) aN)) aN))) (aE (sW (gE (jJ cC "pending" (eV 3))) CK) (aE (sE (Ss cC "end" yM (eV 3))) (sR (bL (jJ cC "made" (eV 3)) (eC (.i 0))))))):=rfl;have hw':oP (gE (jJ cC "pending" (eV 3))) CK [some (.s sort),some (.s tx),some (.r l0),some (.r A.r),none,none] st3=some ((.nx,[some (.s sort),some (.s tx),some (.r l0),some (.r A.r),a4,a5]),st4):=hw;rw[←hr]at e2;simp only[jG,hb,sW];generalize oP _ CK=W at hw' ⊢;simp[e1,e2,q0.o_later,e3,hw',g2.o_end,hend,g2.made,hm0]
 ·have hl:=(U10.mp e).1;exact g3 l x (by lia) (by lia) (by lia) (by lia) (k3 l x (by lia) (by lia) (by lia) (by lia) (x3 l x (x2 l x e)))
theorem Nz:FO true []:=fun tl h=>h rfl
theorem Oa:Rn true [] [] ([]++[d]) [] [] [d] 1:=GV
theorem CA:∀n,n≤5→rC n≤40000:=by decide
theorem CB:∀n,n≤4→rS n≤40000:=by decide
theorem pA{n:Nat}{t:D}(h:Tm [] n t s)(hn:n≤5):∃st',dQ [.s s] st=some (t,st')∧Ext st st':=by
 have hE:=HN h (Ny Nz) (Oa (d:=t));rw[U19]at hE;have x1:Ext st (st++[.l []]):=Ext.app _ _;obtain⟨st',e,x⟩:=uK (st:=st++[.l []]) (l0:=st.length) hE (by have:=CA n hn;lia) (Y14 h.len (Nf n hn)) (by simp);exact⟨st',by simp[dQ,kT,e],x1.trans x⟩
theorem fR{n:Nat}{A:D}(h:Stm [] n A s)(hn:n≤4):∃st',bB [.s s] st=some (A,st')∧Ext st st':=by
 have hE:=KQ h (by simp;lia) Nz (Oa (d:=A));rw[U19]at hE;have x1:Ext st (st++[.l []]):=Ext.app _ _;obtain⟨st',e,x⟩:=uK (st:=st++[.l []]) (l0:=st.length) hE (by have:=CB n hn;lia) (Y14 h.len (mF n (by lia))) (by simp);exact⟨st',by simp[bB,fQ,e],x1.trans x⟩
end
inductive Dp:Nat→D→Prop where
 |s {n:Nat} (x:Str):Dp n (.s x)
 |i {n:Nat} (k:Int):Dp n (.i k)
 |t {n:Nat} {xs:List D}:xs.length≤1000→(∀x∈xs,Dp n x)→Dp (n+1) (.t xs)
theorem Dp.mono{n m:Nat}{d:D}(h:Dp n d)(hm:n≤m):Dp m d:=by
 induction h generalizing m with
 |s x=>exact .s x
 |i k=>exact .i k
 |t l _ ih=>
  obtain⟨m,rfl⟩:∃k,m=k+1:=⟨m-1,by lia⟩;exact .t l fun x hx=>ih x hx (by lia)
theorem Tw.dp{m n:Nat}{t:D}{L:List Str}(h:Tw m n t L):Dp (2*n+2) t:=by
 induction h with
 |bnd n k hk=>exact .t (by simp) (by simpa using ⟨.s _,.i _⟩)
 |fre n x hx=>exact .t (by simp) (by simpa using ⟨.s _,.s _⟩)
 |form0 n w hw=>exact .t (by simp) (by simpa using ⟨.s _,.s _,.t (by simp) (by simp)⟩)
 |form n w ps hw h0 h4 _ ih=>
  refine .t (by simp) ?_;simp only[Z13,U15,or_false,forall_eq_or_imp,forall_eq];refine⟨.s _,.s _,.t (by simp;lia) fun x hx=>?_⟩;obtain⟨q,hq,rfl⟩:=V17.mp hx;exact ih q hq
 |call n w ps hw h4 _ ih=>
  refine .t (by simp) ?_;simp only[Z13,U15,or_false,forall_eq_or_imp,forall_eq];refine⟨.s _,.s _,.t (by simp;lia) fun x hx=>?_⟩;obtain⟨q,hq,rfl⟩:=V17.mp hx;exact ih q hq
theorem Sw.dp{m n:Nat}{t:D}{L:List Str}(h:Sw m n t L):Dp (8+n) t:=by
 induction h with
 |fal m n=>exact(Dp.t (n:=7) (by simp) (by simpa using .s _)).mono (by lia)
 |same m n a b L M h1 h2=>exact(Dp.t (n:=7) (by simp) (by simpa using ⟨.s _,h1.dp.mono (by lia),h2.dp.mono (by lia)⟩)).mono (by lia)
 |atom m n w ps hw h4 h=>
  refine(Dp.t (n:=7) (by simp) ?_).mono (by lia);simp only[Z13,U15,or_false,forall_eq_or_imp,forall_eq];refine⟨.s _,.s _,.t (by simp;lia) fun x hx=>?_⟩;obtain⟨q,hq,rfl⟩:=V17.mp hx;exact(h q hq).dp
 |join m n k sg A B L M hk _ _ ih1 ih2=>exact .t (by simp) (by simpa using ⟨.s _,ih1,ih2⟩)
 |bind m n w K A L hw hK _ ih=>exact .t (by simp) (by simpa using ⟨.s _,.s _,ih⟩)
theorem uL{g:List D→M D}:∀(xs:List D) (acc:List D) (st:Sto),(∀x∈xs,∀st,∃st',g [x,x] st=some (.b true,st')∧Ext st st')→
  ∃st',aY (fun _=>True) (Zr 2) (fun _=>L2.ret true) (aM g (aC (eV 0) (aC (eV 1) aN))) [] (nN xs xs) acc st=some (acc++(List.replicate xs.length true).map D.b,st')∧Ext st st'
 |[],acc,st,_=>⟨st,by rw[show nN [] []=[] from rfl,aY,aS trivial];simp,.refl _⟩
 |x::xs,acc,st,h=>by
  obtain⟨s1,e1,x1⟩:=h x (by simp) st;obtain⟨st',g1,g2⟩:=uL xs (acc++[.b true]) s1 fun y hy=>h y (U11 _ hy);refine⟨st',?_,x1.trans g2⟩;rw[show nN (x::xs) (x::xs)=.t [x,x]::nN xs xs from rfl,aY,aS trivial];show(bnd (L2.ret true) fun b=>if b=true then bnd (aM g (aC (eV 0) (aC (eV 1) aN)) [some x,some x]) fun z=>aY (fun _=>True) (Zr 2) (fun _=>L2.ret true) (aM g (aC (eV 0) (aC (eV 1) aN))) [] (nN xs xs) (acc++[z]) else _) st=_;have e2:aM g (aC (eV 0) (aC (eV 1) aN)) [some x,some x] st=some (.b true,s1):=by simp[e1]
  rw[aR (show(L2.ret true:M Bool) st=some (true,st) from rfl),if_pos rfl,aR e2,g1];simp[List.replicate_succ]
section
variable{st:Sto}
theorem Ob{k:Int}{c:String}(h:("int",c)∈qQ)(hc:"int"≠c):bD [.i k,.ty c] st=some (.b false,st):=by
 show(if "int"=c then some (D.b true,st) else if("int",c)∈qQ then some (D.b false,st) else none)=_;rw[if_neg hc,if_pos h]
theorem jX{n:Nat}{d:D}(h:Dp n d):∀k,n<k→∀st,∃st',aJ k [d,d] st=some (.b true,st')∧Ext st st':=by
 induction h with
 |s x=>
  intro k hk st;obtain⟨k,rfl⟩:∃i,k=i+1:=⟨k-1,by lia⟩;have h2:bD [.s x,.ty "str"] st=some (.b true,st):=rfl;exact⟨st,by simp[aJ,eO,h2],.refl _⟩
 |i j=>
  intro k hk st;obtain⟨k,rfl⟩:∃i,k=i+1:=⟨k-1,by lia⟩;have h1:=Ob (st:=st) (k:=j) (c:="tuple") (by decide) (by decide);have h2:=Ob (st:=st) (k:=j) (c:="str") (by decide) (by decide);have h3:=Ob (st:=st) (k:=j) (c:="bool") (by decide) (by decide);have h4:bD [.i j,.ty "int"] st=some (.b true,st):=rfl;exact⟨st,by simp[aJ,eO,h1,h2,h3,h4],.refl _⟩
 |@t n xs l _ ih=>
  intro k hk st;obtain⟨k,rfl⟩:∃i,k=i+1:=⟨k-1,by lia⟩;obtain⟨st1,g1,g2⟩:=uL (g:=aJ k) xs [] st fun x hx st=>ih x hx k (by lia) st;rw[W13]at g1;have h3:Ga [.r st1.length] (st1++[.l ((List.replicate xs.length true).map D.b)])=some (.b true,st1++[.l ((List.replicate xs.length true).map D.b)]):=by
   show bnd (getL st1.length) _ _=_;rw[aR (dS (xs:=(List.replicate xs.length true).map D.b) (by simp)),aR (show opt (kG _) _=_ by rw[oE];rfl)];show some (D.b _,_)=_
   congr 3
   simp
  have hz:Ky [.t xs,.t xs] st=some ((nN xs xs,fun _=>True),st):=by
   show need _ _ st=_;rw[pH rfl]
   rfl
  have hzl:(nN xs xs).length<sizeLine:=by
   unfold nN;rw[List.length_zipWith,Nat.min_self,Y12]
   lia
  refine⟨st1++[.l ((List.replicate xs.length true).map D.b)],?_,g2.trans (Ext.app _ _)⟩;have he:gZ (.i (xs.length:Nat)) (.i (xs.length:Nat)) st=some (.b true,st):=by simp
  generalize (List.replicate xs.length true).map D.b=Y at *;generalize nN xs xs=Z at *;show aL 2 2 (eO (aJ k)) _ st=_;generalize aJ k=F at *;simp[eO,iD,hz,aF hzl,g1,h3]
end
section
variable {x:D}{env:En}{st:Sto}
variable{p:Nat}{NS:D}
def bT:Sm':=(aE (sA (aM bU (aC (eV 1) (aC (eC (.i 4)) (aC (eL aN) aN)))) (gT 2 (gU (gN 3) (gU (gN 4) qV))))
   (aE (sA (aM (aH 6) (aC (eV 3) (aC (eL aN) aN))) (gN 5))
   (sI (Cn (sM (gE (aM (aJ 20) (aC (aM fX (aC (eV 3) aN)) (aC (eV 5) aN))))) (Cn (sM (gE (aM (aJ 20) (aC (aM dQ (aC (eV 5) aN)) (aC (eV 3) aN))))) (sM (gE (aM (aJ 20) (aC (aM dQ (aC (eV 4) aN)) (aC (eV 3) aN))))))) (sR (eC (.b false))) sN)))
def bS:Sm':=(aE (sA (aM (bQ 5) (aC (eV 1) (aC (eC (.i 4)) (aC (eL aN) aN)))) (gT 2 (gU (gN 6) (gU (gN 4) qV))))
   (aE (sA (aM (bX 6) (aC (eV 6) (aC (eL aN) (aC (aM (bA 11) (aC (eV 6) aN)) aN)))) (gN 5))
   (aE (sI (Cn (sM (gE (aM (aJ 20) (aC (aM bR (aC (eV 6) aN)) (aC (eV 5) aN))))) (sM (gE (aM (aJ 20) (aC (aM bB (aC (eV 5) aN)) (aC (eV 6) aN)))))) (sR (eC (.b false))) sN)
   (sI (Cn (sM (gE (aM (aJ 20) (aC (aM bB (aC (eV 4) aN)) (aC (eV 6) aN))))) (sM (gE (aM (aJ 20) (aC (aM bR (aC (aM bB (aC (eV 4) aN)) aN)) (aC (eV 5) aN)))))) (sR (eC (.b false))) sN))))
def JL(NS:D)(p:Nat)(env:En)(st:Sto):Prop:=(∃e2 e3 e4 e5 e6,env=[some NS,some (.r p),e2,e3,e4,e5,e6])∧Sd p st
theorem CC(h:JL NS p env st):∃env1 env2 st',gN 2 x env st=some (env1,st)∧bT env1 st=some ((.nx,env2),st')∧JL NS p env2 st':=by
 obtain⟨⟨e2,e3,e4,e5,e6,rfl⟩,hd⟩:=h;have x0:Ext st (st++[.l []]):=Ext.app _ _;obtain⟨t,s,st1,d1,tm,a1⟩:=Tq 5 4 (by lia) (by lia) p st.length [] (st++[.l []]) (hd.ext x0) (by simp) (by have:=hd.lt;lia) (by simp) (by simp);have d1':bU [.r p,.i 4,.r st.length] (st++[.l []])=some (.t [t,.s s],st1):=d1;obtain⟨L,tw⟩:=tm.tw;obtain⟨u,hu⟩:=pS (G:=none) (sc:=[]) tw rfl (by simp) (by simp) (by lia) (by simp);have x1:Ext st1 (st1++[.l []]):=Ext.app _ _;obtain⟨st2,f1,x2⟩:=hu.fair 6 (st1++[.l []]) st1.length (by lia) (by simp);obtain⟨st3,w1,x3⟩:=yW hu (by lia) st2;obtain⟨st4,s1,x4⟩:=jX (n:=0) (.s u) 20 (by lia) st3;obtain⟨st5,r1,x5⟩:=pA (st:=st4) hu.tm (by lia);obtain⟨st6,s2,x6⟩:=jX tw.dp 20 (by lia) st5;obtain⟨st7,r2,x7⟩:=pA (st:=st6) tm (by lia);obtain⟨st8,s3,x8⟩:=jX tw.dp 20 (by lia) st7;refine⟨[some NS,some (.r p),some x,e3,e4,e5,e6],[some NS,some (.r p),some x,some t,some (.s s),some (.s u),e6],st8,by simp,?_,⟨_,_,_,_,_,rfl⟩,(a1.ext (((((((x1.trans x2).trans x3).trans x4).trans x5).trans x6).trans x7).trans x8)).sd⟩;simp[bT,d1',f1,w1,s1,r1,s2,r2,s3]
theorem CD(h:JL NS p env st):∃env1 env2 st',gN 2 x env st=some (env1,st)∧bS env1 st=some ((.nx,env2),st')∧JL NS p env2 st':=by
 obtain⟨⟨e2,e3,e4,e5,e6,rfl⟩,hd⟩:=h;have x0:Ext st (st++[.l []]):=Ext.app _ _;obtain⟨A,s,st1,d1,sm,a1⟩:=GF 5 4 (by lia) (by lia) p st.length [] (st++[.l []]) (hd.ext x0) (by simp) (by have:=hd.lt;lia) (by simp) (by simp);have d1':bQ 5 [.r p,.i 4,.r st.length] (st++[.l []])=some (.t [A,.s s],st1):=d1;obtain⟨L,sw⟩:=sm.sw;obtain⟨u,um,uf,us⟩:=oC sw (by lia);have x1:Ext st1 (st1++[.l []]):=Ext.app _ _;obtain⟨lf,st2,f0,c0,x2⟩:=Mq sw 11 (by lia) (by lia) (st1++[.l []]);obtain⟨st3,f1,x3⟩:=uf 6 st2 st1.length lf (by lia) (x2 _ _ (by simp)) c0;obtain⟨st4,w1,x4⟩:=us st3;obtain⟨st5,s1,x5⟩:=jX (n:=0) (.s u) 20 (by lia) st4;obtain⟨st6,r1,x6⟩:=fR (st:=st5) um (by lia);obtain⟨st7,s2,x7⟩:=jX sw.dp 20 (by lia) st6;obtain⟨st8,r2,x8⟩:=fR (st:=st7) sm (by lia);obtain⟨st9,s3,x9⟩:=jX sw.dp 20 (by lia) st8;obtain⟨st10,r3,x10⟩:=fR (st:=st9) sm (by lia);obtain⟨st11,w2,x11⟩:=us st10;obtain⟨st12,s4,x12⟩:=jX (n:=0) (.s u) 20 (by lia) st11;refine⟨[some NS,some (.r p),some x,e3,e4,e5,e6],[some NS,some (.r p),some x,e3,some (.s s),some (.s u),some A],st12,by simp,?_,⟨_,_,_,_,_,rfl⟩,(a1.ext (((((((((((x1.trans x2).trans x3).trans x4).trans x5).trans x6).trans x7).trans x8).trans x9).trans x10).trans x11).trans x12)).sd⟩;simp[bS,d1',f0,f1,w1,s1,r1,s2,r2,s3,r3,w2,s4]
end
theorem Oc{ns:List Int}(hl:ns.length≤63):∃st',Dh [.f (ns.map D.i)] []=some (.b true,st'):=by
 obtain⟨p,s0,e0,d0⟩:=Tn hl;obtain⟨k1,s1,n1,b1,v1⟩:=eM (n:=3) d0 (by lia) (by lia);have n1':aB [.r p,.i 3] s0=some (.i (k1:Nat),s1):=n1;obtain⟨env1,s2,g1,⟨f2,f3,f4,f5,f6,rfl⟩,d2⟩:=pM (c:=fun _=>True) (g:=gN 2) (tb:=bT) (J:=JL (.f (ns.map D.i)) p) (fun _=>trivial) ((List.range' 0 (1+k1)).map fun j:Nat=>D.i (j:Nat)) [some (.f (ns.map D.i)),some (.r p),none,none,none,none,none] s1 (fun x _ env st h=>CC h) ⟨⟨_,_,_,_,_,rfl⟩,v1.sd⟩;obtain⟨k2,s3,n2,b2,v2⟩:=eM (n:=3) d2 (by lia) (by lia);have n2':aB [.r p,.i 3] s2=some (.i (k2:Nat),s3):=n2;obtain⟨env2,s4,g2,_,d4⟩:=pM (c:=fun _=>True) (g:=gN 2) (tb:=bS) (J:=JL (.f (ns.map D.i)) p) (fun _=>trivial) ((List.range' 0 (1+k2)).map fun j:Nat=>D.i (j:Nat)) [some (.f (ns.map D.i)),some (.r p),f2,f3,f4,f5,f6] s3 (fun x _ env st h=>CD h) ⟨⟨_,_,_,_,_,rfl⟩,v2.sd⟩;have hr:∀(m:Nat) (st:Sto),m≤3→lV [.i (1+(m:Nat))] st=some (((List.range' 0 (1+m)).map fun j:Nat=>D.i (j:Nat),fun _=>True),st):=fun m st h=>by
  have:=rng (m:=1+m) (st:=st) (by lia);rw[←this];simp
 have r1:=hr k1 s1 (by lia);have r2:=hr k2 s3 (by lia);refine⟨s4,?_⟩;generalize ((List.range' 0 (1+k1)).map fun j:Nat=>D.i (j:Nat))=R1 at *;generalize ((List.range' 0 (1+k2)).map fun j:Nat=>D.i (j:Nat))=R2 at *;generalize ns.map D.i=N at *;have hb:Mh=aE (sA (aM eU (aC (eV 0) aN)) (gN 1)) (aE (sF (Rv (aC (aT aI (eC (.i 1)) (aM aB (aC (eV 1) (aC (eC (.i 3)) aN)))) aN)) (gN 2) bT) (aE (sF (Rv (aC (aT aI (eC (.i 1)) (aM aB (aC (eV 1) (aC (eC (.i 3)) aN)))) aN)) (gN 2) bS) (sR (eC (.b true))))):=rfl;simp[Dh,hb,e0,n1',-hZ,r1,g1,n2',r2,g2]
end K86
section
open PySem PySem.W
set_option maxRecDepth 100000 in
theorem PySem.Challenge.cw_tacticwright_k86_terms_and_statements_holds : PySem.Challenge.rw_tacticwright_k86_terms_and_statements.Holds :=
 L2.Th (l:=PySem.Challenge.rw_tacticwright_k86_terms_and_statements) (Good:=fun w K=>K86.yf K=K86.yv w) K86.said K86.left (fun _ _ h=>h) K86.hdef K86.hp (by kernel_rfl) (by kernel_rfl) K86.okk K86.hb K86.hw
  (L2.Tg (k:=21) (x:="_law_script") (f:=K86.Dh) (by kernel_rfl) (by kernel_rfl) ⟨rfl,by decide,by decide⟩ (fun w K Y mg fa h X G hfa=>K86.law_fn Y X G hfa) fun ns hl=>K86.Oc hl)
#print axioms PySem.Challenge.cw_tacticwright_k86_terms_and_statements_holds
end
