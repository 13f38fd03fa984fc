import PyProof.Rows.All
import Wide.All
import OpenK.AllK
import Wide.FinOn
import Lean
import PyProof.EqAt
import PyProof.EqKinds
import PyProof.TupleCall
import PyProof.CompMap
import PyProof.ZipIter
import PyProof.ListNew
import PyProof.NeKinds
import PyProof.AutoListH
import PyProof.EnumMake
import PyProof.SumAny
import KE.KDictSum
import PySem.Challenge.RW_tacticwright_k61_walks_told
set_option Elab.async false
set_option linter.all false
set_option maxRecDepth 100000
set_option maxHeartbeats 4000000
section
namespace L2
open PySem PySem.Spec PyProof.Rows
abbrev Key:=Sum Int Str
def keyIs:Key→Value→Bool
 | .inl k,v=>Value.isInt k v
 | .inr x,v=>Value.isStrOf x v
def keyH(w:World):Key→Int
 | .inl k=>hashInt k
 | .inr x=>hashStr w x
theorem gF:∀ {k:Key} {v:Value},keyIs k v=true→(∃ i t,k=Sum.inl i∧v=Value.int i t)∨(∃ x t,k=Sum.inr x∧v=Value.str x t)
 | .inl i,v,h=>by
  obtain⟨t,e⟩:=Value.isInt_shape (k:=i) (v:=v) h
  exact .inl ⟨i,t,rfl,e⟩
 | .inr x,v,h=>by
  obtain⟨t,e⟩:=Value.isStrOf_shape (x:=x) (v:=v) h
  exact .inr ⟨x,t,rfl,e⟩
theorem zE(i:Int)(t:Tok):keyIs (.inl i) (.int i t)=true:=by simp[keyIs,Value.isInt]
theorem zF(x:Str)(t:Tok):keyIs (.inr x) (.str x t)=true:=by simp[keyIs,Value.isStrOf]
theorem aDU(a b:Int):decide ((Sum.inl a:Key)=Sum.inl b)=(a==b):=by
 by_cases e:a=b
 ·subst e;simp
 ·have h:¬ (Sum.inl a:Key)=Sum.inl b:=fun q=>e (Sum.inl.inj q)
  rw[decide_eq_false h]
  exact(beq_eq_false_iff_ne.mpr e).symm
theorem aDV(a b:Str):decide ((Sum.inr a:Key)=Sum.inr b)=decide (a=b):=by
 by_cases e:a=b
 ·subst e;simp
 ·have h:¬ (Sum.inr a:Key)=Sum.inr b:=fun q=>e (Sum.inr.inj q)
  rw[decide_eq_false h,decide_eq_false e]
theorem aDW(a:Int)(b:Str):decide ((Sum.inl a:Key)=Sum.inr b)=false:=decide_eq_false (fun q=>nomatch q)
theorem aDX(a:Str)(b:Int):decide ((Sum.inr a:Key)=Sum.inl b)=false:=decide_eq_false (fun q=>nomatch q)
def mixKind(prog:Program)(w:World):PySem.KeyKind prog w Key where
 is:=keyIs
 hash:=keyH w
 inj:=fun v a b ha hb=>by
  rcases gF ha with⟨i,t,rfl,rfl⟩|⟨x,t,rfl,rfl⟩
  ·rcases gF hb with⟨j,u,rfl,e⟩|⟨y,u,rfl,e⟩
   ·injection e with e1 _;rw[e1]
   ·exact nomatch e
  ·rcases gF hb with⟨j,u,rfl,e⟩|⟨y,u,rfl,e⟩
   ·exact nomatch e
   ·injection e with e1 _;rw[e1]
 byValue:=fun k v h=>by
  rcases gF h with⟨i,t,rfl,rfl⟩|⟨x,t,rfl,rfl⟩<;>rfl
 pyHash:=fun hv h=>by
  rcases gF hv with⟨i,t,rfl,rfl⟩|⟨x,t,rfl,rfl⟩
  ·exact wpAny_pyHash_int h
  ·exact wpAny_pyHash_str h
 eqBool:=fun hu hv h=>by
  rcases gF hu with⟨i,t,rfl,rfl⟩|⟨x,t,rfl,rfl⟩
  ·rcases gF hv with⟨j,u,rfl,rfl⟩|⟨y,u,rfl,rfl⟩
   ·rw[aDU] at h;exact wpAny_eqBool_int h
   ·rw[aDW] at h;exact SeqAt.EqAt.int_str i t y u _ _ _ _ h
  ·rcases gF hv with⟨j,u,rfl,rfl⟩|⟨y,u,rfl,rfl⟩
   ·rw[aDX] at h;exact SeqAt.EqAt.str_int x t j u _ _ _ _ h
   ·rw[aDV] at h;exact wpAny_eqBool_str h
 «strs»:=fun k x t v h=>by
  rcases gF h with⟨i,u,rfl,e⟩|⟨y,u,rfl,e⟩
  ·exact nomatch e
  ·injection e with e1 _
   subst e1
   cases v<;>rfl
theorem uM(prog:Program)(w:World)(i:Int)(t:Tok):(mixKind prog w).is (.inl i) (.int i t)=true:=zE i t
theorem uN(prog:Program)(w:World)(x:Str)(t:Tok):(mixKind prog w).is (.inr x) (.str x t)=true:=zF x t
end L2
namespace L2
open PySem PySem.Spec PyProof.Rows
inductive V where
 |non|bl (b:Bool)|int (i:Int)|str (x:Str)|byt (b:Array UInt8)|flt (b:UInt64)|ref (a:Addr)|ty (n:String)
 deriving DecidableEq
def RelV:V→Value→Prop
 | .non,u=>u=Value.none
 | .bl b,u=>u=Value.bool b
 | .int i,u=>∃ t,u=Value.int i t
 | .str x,u=>∃ t,u=Value.str x t
 | .byt b,u=>∃ t,u=Value.bytes b t
 | .flt b,u=>∃ t,u=Value.float b t
 | .ref a,u=>u=Value.ref a
 | .ty n,u=>u=Value.type n
abbrev Vals:List V→List Value→Prop:=Paired RelV
theorem Vals.length{xs:List V}{us:List Value}(r:Vals xs us):xs.length=us.length:=Paired.length r
theorem Vals.get:∀ {xs:List V} {us:List Value} {i:Nat} {x:V},Vals xs us→xs[i]?=some x→∃ u,us[i]?=some u∧RelV x u
 |_,_,_,_, .nil,e=>by simp at e
 |_,_,0,_, .cons r _,e=>by simp at e;subst e;exact⟨_,rfl,r⟩
 |_,_,i+1,x, .cons _ t,e=>by
  obtain⟨u,h1,h2⟩:=Vals.get (i:=i) (x:=x) t (by simpa using e)
  exact⟨u,by simpa using h1,h2⟩
theorem Vals.set{x:V}{u:Value}(r:RelV x u):∀ {xs:List V} {us:List Value} (i:Nat),Vals xs us→Vals (xs.set i x) (us.set i u)
 |_,_,_, .nil=>.nil
 |_,_,0, .cons _ t=>.cons r t
 |_,_,i+1, .cons q t=>.cons q (Vals.set r i t)
theorem Vals.append:∀ {xs ys:List V} {us ws:List Value},Vals xs us→Vals ys ws→Vals (xs++ys) (us++ws)
 |_,_,_,_, .nil,s=>s
 |_,_,_,_, .cons r t,s=>.cons r (Vals.append t s)
theorem Vals.take:∀ {xs:List V} {us:List Value} (n:Nat),Vals xs us→Vals (xs.take n) (us.take n)
 |_,_,0,_=>.nil
 |_,_,_+1, .nil=>.nil
 |_,_,n+1, .cons r t=>.cons r (Vals.take n t)
theorem Vals.drop:∀ {xs:List V} {us:List Value} (n:Nat),Vals xs us→Vals (xs.drop n) (us.drop n)
 |_,_,0,r=>r
 |_,_,_+1, .nil=>.nil
 |_,_,n+1, .cons _ t=>Vals.drop n t
def RelO:Option V→Option Value→Prop
 |some v,some u=>RelV v u
 |none,none=>True
 |_,_=>False
def KV{κ:Type}:List (κ×V)→List (κ×Value)→Prop:=Paired fun(p:κ×V) (q:κ×Value)=>p.1=q.1∧RelV p.2 q.2
def kV:Key→V
 | .inl i=>.int i
 | .inr x=>.str x
inductive HO where
 |lst (xs:List V)
 |tup (xs:List V)
 |dK (kvs:List (Key×V))|dT (kvs:List (List Key×V))
 |set (S:Int→Bool) (n:Nat)
 |ins (C dx:Addr) (fs:List (Str×V))
 |own (x:Addr)
 |xd (fs:List (Str×V))
 |met (f x:Addr)
 |rng (lo hi:Int)
 |frz (o:Obj) (u:HO)
 |tbl (ps:Array Value)
 |ext (φ:Heap→Prop)
abbrev Hp:=Addr→Option HO
def upd(H:Hp)(a:Addr)(o:HO):Hp:=fun b=>if b=a then some o else H b
theorem fE{H:Hp}{a:Addr}{o:HO}:upd H a o a=some o:=by unfold upd;rw[if_pos rfl]
theorem bL{H:Hp}{a b:Addr}{o:HO}(h:b≠a):upd H a o b=H b:=by unfold upd;rw[if_neg h]
theorem aFU{H:Hp}{a b:Addr}{o u:HO}(h:H a=some o)(h':H b=some u)(d:o≠u):a≠b:=by
 intro e;subst e;rw[h] at h';exact d (Option.some.inj h')
theorem bF{H:Hp}{a b:Addr}{o:HO}(h:H a=some o)(h':H b=none):a≠b:=by
 intro e;subst e;rw[h] at h';cases h'
section
variable(P:Program)(w:World)
def ObjOk(H:Hp)(h:Heap)(a:Addr):HO→Prop
 | .lst xs=>xs.length≤sizeLine∧∃ (its:List Value) (n:Nat),Vals xs its∧h.get? a=some { cls:=.type "list",data:=.seq its.toArray n }
 | .tup xs=>xs.length≤sizeLine∧∃ its:List Value,Vals xs its∧IsTup h a its.toArray
 | .dK kvs=>kvs.length≤sizeLine∧(a==sysModules)=false∧∃ vs,KV kvs vs∧h.DictOf (mixKind P w) a vs
 | .dT kvs=>kvs.length≤sizeLine∧(a==sysModules)=false∧∃ xs:List (List Key×Addr×Value),
   Paired (fun(p:List Key×V) (q:List Key×Addr×Value)=>p.1=q.1∧H q.2.1=some (.tup (p.1.map kV))∧RelV p.2 q.2.2) kvs xs∧
   ∃ o es ep,h.get? a=some o∧o.ExactDict∧o.data=.dict es ep∧es.toList=xs.map (entryOfKey (tupleKind (mixKind P w)))∧(xs.map (·.1)).Nodup
 | .set S n=>h.SetOf (intKind P w) a S n
 | .ins C dx fs=>H dx=some (.own a)∧fs.length≤1000∧dx≠a∧h.get? a=some (PySem.W.instObj C dx)∧
   ∃ mA,h.Ns1 dx mA∧(∀ f,RelO (fs.lookup f) (mA f))∧PySem.Within mA (fs.map (·.1))
 | .own _=>∃ o,h.get? a=some o
 | .xd fs=>∃ mA,h.Ns1 a mA∧∀ f,RelO (fs.lookup f) (mA f)
 | .rng lo hi=>∃ t u v,h.get? a=some { cls:=.type "range",data:=.fields #[.int lo t, .int hi u, .int 1 v] }
 | .frz o u=>h.get? a=some o∧ObjOk H h a u
 | .tbl ps=>h.get? a=some { cls:=.none,data:=.fields ps }
 | .met f x=>h.get? a=some (PySem.W.methodObj (.ref f) (.ref x))
 | .ext φ=>φ h∧(∃ o,h.get? a=some o)∧∀ h1 h2:Heap,φ h1→(∀ o,h1.get? a=some o→h2.get? a=some o)→φ h2
def HOk(H:Hp)(h:Heap):Prop:=∀ a o,H a=some o→ObjOk P w H h a o
end
section
variable{P:Program}{w:World}{H H':Hp}{h h':Heap}{a:Addr}{o:HO}
theorem ObjOk.lt(x:ObjOk P w H h a o):a<h.objs.size:=by
 cases o with
 |lst xs=>obtain⟨_,_,_,_,e⟩:=x;exact Heap.lt_size e
 |tup xs=>obtain⟨_,_,_,p⟩:=x;exact p.lt
 |dK kvs=>obtain⟨_,_,_,_,o,_,_,e,_⟩:=x;exact Heap.lt_size e
 |dT kvs=>obtain⟨_,_,_,_,o,_,_,e,_⟩:=x;exact Heap.lt_size e
 |set S n=>obtain⟨o,_,_,_,e,_⟩:=x;exact Heap.lt_size e
 |ins C dx fs=>obtain⟨_,_,_,e,_⟩:=x;exact Heap.lt_size e
 |own y=>obtain⟨_,e⟩:=x;exact Heap.lt_size e
 |xd fs=>obtain⟨_,⟨_,_,_,e,_⟩,_⟩:=x;exact Heap.lt_size e
 |rng lo hi=>obtain⟨_,_,_,e⟩:=x;exact Heap.lt_size e
 |frz ob u=>obtain⟨e,_⟩:=x;exact Heap.lt_size e
 |tbl ps=>exact Heap.lt_size (show h.get? a=some _ from x)
 |met f y=>exact Heap.lt_size (show h.get? a=some _ from x)
 |ext φ=>obtain⟨_,⟨_,e⟩,_⟩:=x;exact Heap.lt_size e
theorem Paired.mapP{α β:Type}{F G:α→β→Prop}:∀ {l₁:List α} {l₂:List β},Paired F l₁ l₂→(∀ a b,F a b→G a b)→Paired G l₁ l₂
 |_,_, .nil,_=>.nil
 |_,_, .cons r t,f=>.cons (f _ _ r) (Paired.mapP t f)
theorem ObjOk.stay(x:ObjOk P w H h a o)(k:∀ b u,(b=a∨H b=some (.own a))→h.get? b=some u→h'.get? b=some u)
  (ho:∀ b,H b=some (.own a)→H' b=some (.own a))(ht:∀ b xs,H b=some (.tup xs)→H' b=some (.tup xs)):ObjOk P w H' h' a o:=by
 induction o with
 |lst xs=>obtain⟨z,its,n,r,e⟩:=x;exact⟨z,its,n,r,k _ _ (.inl rfl) e⟩
 |tup xs=>obtain⟨z,its,r,ob,e,c⟩:=x;exact⟨z,its,r,ob,k _ _ (.inl rfl) e,c⟩
 |dK kvs=>obtain⟨z,y,vs,r,ob,es,ep,e,c⟩:=x;exact⟨z,y,vs,r,ob,es,ep,k _ _ (.inl rfl) e,c⟩
 |dT kvs=>
  obtain⟨z,y,xs,r,ob,es,ep,e,c⟩:=x
  exact⟨z,y,xs,Paired.mapP r fun p q z=>⟨z.1,ht _ _ z.2.1,z.2.2⟩,ob,es,ep,k _ _ (.inl rfl) e,c⟩
 |set S n=>obtain⟨ob,es,ep,t,e,c⟩:=x;exact⟨ob,es,ep,t,k _ _ (.inl rfl) e,c⟩
 |ins C dx fs=>
  obtain⟨d,z,ne,e,mA,⟨od,es,ep,e2,c⟩,r⟩:=x
  exact⟨ho _ d,z,ne,k _ _ (.inl rfl) e,mA,⟨od,es,ep,k _ _ (.inr d) e2,c⟩,r⟩
 |own y=>obtain⟨ob,e⟩:=x;exact⟨ob,k _ _ (.inl rfl) e⟩
 |xd fs=>obtain⟨mA,⟨od,es,ep,e,c⟩,r⟩:=x;exact⟨mA,⟨od,es,ep,k _ _ (.inl rfl) e,c⟩,r⟩
 |rng lo hi=>obtain⟨t,u,v,e⟩:=x;exact⟨t,u,v,k _ _ (.inl rfl) e⟩
 |frz ob u ih=>obtain⟨e,q⟩:=x;exact⟨k _ _ (.inl rfl) e,ih q⟩
 |tbl ps=>
  have e:h.get? a=some { cls:=.none,data:=.fields ps }:=x
  show h'.get? a=some { cls:=.none,data:=.fields ps }
  exact k a _ (.inl rfl) e
 |met f y=>
  have e:h.get? a=some (PySem.W.methodObj (.ref f) (.ref y)):=x
  show h'.get? a=some (PySem.W.methodObj (.ref f) (.ref y))
  exact k a _ (.inl rfl) e
 |ext φ=>obtain⟨p,⟨o,e⟩,st⟩:=x;exact⟨st _ _ p fun o q=>k _ _ (.inl rfl) q,⟨o,k _ _ (.inl rfl) e⟩,st⟩
theorem HOk.lt(x:HOk P w H h)(e:H a=some o):a<h.objs.size:=(x a o e).lt
theorem HOk.fresh(x:HOk P w H h)(e:h.objs.size≤a):H a=none:=by
 cases q:H a with
 |none=>rfl
 |some u=>exact absurd (Nat.lt_of_lt_of_le (x.lt q) e) (Nat.lt_irrefl _)
theorem HOk.kept(x:HOk P w H h)(k:∀ b u,h.get? b=some u→h'.get? b=some u):HOk P w H h':=fun a o e=>
 (x a o e).stay (fun b u _ q=>k b u q) (fun _ q=>q) fun _ _ q=>q
theorem HOk.laid(x:HOk P w H h)(k:∀ b u,h.get? b=some u→h'.get? b=some u)(hp:h.objs.size≤a)(new:ObjOk P w (upd H a o) h' a o):HOk P w (upd H a o) h':=fun b u e=>by
 have hn:=x.fresh hp
 by_cases hb:b=a
 ·subst hb;rw[fE] at e;cases e;exact new
 ·rw[bL hb] at e
  exact(x b u e).stay (fun c v _ q=>k c v q) (fun c q=>by rw[bL (bF q hn)];exact q) fun c xs q=>by rw[bL (bF q hn)];exact q
end
def Rd(H:Hp)(a:Addr)(u:HO):Prop:=H a=some u∨∃ o,H a=some (.frz o u)
theorem Rd.ok{P:Program}{w:World}{H:Hp}{h:Heap}{a:Addr}{u:HO}(r:Rd H a u)(x:HOk P w H h):ObjOk P w H h a u:=by
 rcases r with r|⟨o,r⟩
 ·exact x a u r
 ·obtain⟨_,q⟩:=x a _ r
  exact q
def Mut:Option HO→Prop
 |some (.lst _)=>True
 |some (.dK _)=>True
 |some (.dT _)=>True
 |some (.set _ _)=>True
 |some (.ins _ _ _)=>True
 |some (.ext _)=>True
 |_=>False
section
variable{P:Program}{w:World}{H:Hp}{h h':Heap}{x e:Addr}{o':HO}
theorem HOk.write(ok:HOk P w H h)(mu:Mut (H x))(he:e=x∨H e=some (.own x))(k:∀ b u,b≠e→h.get? b=some u→h'.get? b=some u)(heo:∃ u,h'.get? e=some u)
  (new:ObjOk P w (upd H x o') h' x o'):HOk P w (upd H x o') h':=fun b u q=>by
 have nown:∀ c y,H c=some (.own y)→c≠x:=fun c y r z=>by subst z;rw[r] at mu;exact mu
 have ntup:∀ c xs,H c=some (.tup xs)→c≠x:=fun c xs r z=>by subst z;rw[r] at mu;exact mu
 by_cases hb:b=x
 ·subst hb;rw[fE] at q;cases q;exact new
 ·rw[bL hb] at q
  by_cases hbe:b=e
  ·have q':H b=some (.own x):=by
    rcases he with z|z
    ·exact absurd (hbe.trans z) hb
    ·rw[hbe];exact z
   rw[q] at q';cases q'
   obtain⟨v,hv⟩:=heo
   exact⟨v,by rw[hbe];exact hv⟩
  ·refine(ok b u q).stay (fun c v hc r=>k c v ?_ r) (fun c r=>by rw[bL (nown c b r)];exact r) fun c xs r=>by rw[bL (ntup c xs r)];exact r
   rcases hc with rfl|hc
   ·exact hbe
   ·rintro rfl
    rcases he with z|z
    ·exact nown c b hc z
    ·rw[hc] at z;cases z;exact hb rfl
end
structure Un (fs ex:List Addr) (H H':Hp) (h h':Heap):Prop where
 keep:∀ b o,h.get? b=some o→H b=none→b∉fs→b∉ex→h'.get? b=some o
 slot:∀ b o,h.get? b=some o→H b=none→b∈fs→b∉ex→∃ sl,h'.get? b=some { o with slots:=sl }
 free:∀ b o,h.get? b=some o→H b=none→b∉ex→H' b=none
 there:∀ b o,h.get? b=some o→b∉ex→∃ o',h'.get? b=some o'
 tups:∀ b xs,H b=some (.tup xs)→H' b=some (.tup xs)
 frzs:∀ b o u,H b=some (.frz o u)→H' b=some (.frz o u)
 tbls:∀ b ps,H b=some (.tbl ps)→∃ more,H' b=some (.tbl (ps++more))
section
variable{fs fs' ex ex':List Addr}{H H1 H2:Hp}{h h1 h2 h':Heap}{a x e:Addr}{o:HO}
theorem Un.any(u:Un fs ex H H1 h h1){b:Addr}{ob:Obj}(q:h.get? b=some ob)(n:H b=none)(hx:b∉ex):∃ sl,h1.get? b=some { ob with slots:=sl }:=by
 by_cases hb:b∈fs
 ·exact u.slot b ob q n hb hx
 ·exact⟨ob.slots,u.keep b ob q n hb hx⟩
theorem Un.kept(k:∀ b u,h.get? b=some u→h'.get? b=some u):Un fs ex H H h h':=
 ⟨fun b ob q _ _ _=>k b ob q,fun b ob q _ _ _=>⟨ob.slots,k b ob q⟩,fun _ _ _ n _=>n,fun b ob q _=>⟨ob,k b ob q⟩,fun _ _ q=>q,fun _ _ _ q=>q,fun _ ps q=>⟨#[],by rw[q];simp⟩⟩
theorem Un.refl:Un fs ex H H h h:=Un.kept fun _ _ q=>q
theorem Un.laid(k:∀ b u,h.get? b=some u→h'.get? b=some u)(hp:h.objs.size≤a)(hn:H a=none):Un fs ex H (upd H a o) h h' where
 keep:=fun b u q _ _ _=>k b u q
 slot:=fun b u q _ _ _=>⟨u.slots,k b u q⟩
 free:=fun b u q n _=>by rw[bL (Nat.ne_of_lt (Nat.lt_of_lt_of_le (Heap.lt_size q) hp))];exact n
 there:=fun b u q _=>⟨u,k b u q⟩
 tups:=fun b xs q=>by rw[bL (bF q hn)];exact q
 frzs:=fun b u xs q=>by rw[bL (bF q hn)];exact q
 tbls:=fun b ps q=>⟨#[],by rw[bL (bF q hn),q];simp⟩
theorem Un.write(mu:Mut (H x))(he:e=x∨H e=some (.own x))(k:∀ b u,b≠e→h.get? b=some u→h'.get? b=some u)(heo:∃ u,h'.get? e=some u):Un fs ex H (upd H x o) h h':=by
 have hx:∀ b,H b=none→b≠x:=fun b n z=>by subst z;rw[n] at mu;exact mu
 have hb:∀ b,H b=none→b≠e:=fun b n z=>by
  subst z
  rcases he with r|r
  ·exact hx b n r
  ·rw[n] at r;cases r
 have hm:∀ b u,H b=some u→¬ Mut (some u)→b≠x:=fun b u q nm z=>by subst z;rw[q] at mu;exact nm mu
 refine⟨fun b u q n _ _=>k b u (hb b n) q,fun b u q n _ _=>⟨u.slots,k b u (hb b n) q⟩,fun b u q n _=>by rw[bL (hx b n)];exact n,fun b u q _=>?_,
  fun b xs q=>by rw[bL (hm b _ q fun z=>z)];exact q,fun b u xs q=>by rw[bL (hm b _ q fun z=>z)];exact q,fun b ps q=>⟨#[],by rw[bL (hm b _ q fun z=>z),q];simp⟩⟩
 by_cases hbe:b=e
 ·subst hbe;exact heo
 ·exact⟨u,k b u hbe q⟩
end
def trk(h:Heap)(H:Hp):List Addr:=(List.range h.objs.size).filter fun a=>(H a).isSome
def hidT(h:Heap)(H:Hp):Heap:=PySem.W.hideAll h (trk h H)
theorem zG(h:Heap)(H:Hp):(hidT h H).objs.size=h.objs.size:=PySem.W.hideAll_size _ _
theorem aAy{h:Heap}{H:Hp}{b:Addr}{o:Obj}(e:h.get? b=some o)(n:H b=none):(hidT h H).get? b=some o:=
 PySem.W.hideAll_get _ e fun hm=>by
  have q:(H b).isSome=true:=(List.mem_filter.mp hm).2
  rw[n] at q;simp at q
theorem aCl{h:Heap}{H:Hp}{b:Addr}{o:Obj}(e:(hidT h H).get? b=some o):h.get? b=some o∧H b=none:=by
 have e':h.get? b=some o:=PySem.W.of_hideAll (trk h H) e
 refine⟨e',?_⟩
 cases q:H b with
 |none=>rfl
 |some x=>
  have hm:b∈trk h H:=List.mem_filter.mpr ⟨List.mem_range.mpr (Heap.lt_size e'),by simp[q]⟩
  have z:(hidT h H).get? b=none:=PySem.W.hideAll_none (trk h H) hm
  rw[z] at e;cases e
end L2
namespace L2
open PySem PySem.Spec PyProof.Rows
structure Mod (K:PySem.W.Frag) (mg:Str→Option Value) (base:Heap):Prop where
 kin:K.In base
 glob:base.Ns mainGlobals mg
 blt:∃ mb,base.Ns builtinsNs mb∧∀ x:Str,x≠"__name__"→mb x=bootBuiltins x
 nolimit:base.NoLimit
structure Cx where
 prog:Program
 w:World
 K:PySem.W.Frag
 mg:Str→Option Value
 base:Heap
 A:Around
 N:List Str
 s₀:Shared
 H₀:Hp
 env:Env
 outer:List Env
 stack:List Env
 ex:List Addr
 fn:Str→Bool
 calm:Bool
 pn:List (Addr×Obj)
 xe:Value→Shared→Prop
def frs(l:List Env):List Addr:=l.filterMap (·.frame)
abbrev Cx.fs(X:Cx):List Addr:=frs X.outer
def Vis(sc:Scope)(x:Str):Prop:=sc.names.lookup x=some .local∨sc.names.lookup x=some .cell∨sc.names.lookup x=some .free
def Loc(sc:Scope)(x:Str):Prop:=sc.names.lookup x=some .local∨sc.names.lookup x=some .cell
def Look(env:Env)(h:Heap)(m:Str→Option Value)(x:Str)(u:Value):Prop:=
 (env.kindOf x=some .local∧m x=some u)∨((env.kindOf x=some .cell∨env.kindOf x=some .free)∧∃ c,env.cells.lookup x=some c∧h.IsCell c (some u))
structure Cx.Ok (X:Cx):Prop where
 mod:Mod X.K X.mg X.base
 kind:X.env.scope.kind=.function
 glob:X.env.globals=mainGlobals
 blt:X.env.builtins=builtinsNs
 above:X.s₀.heap.objs.size≤X.env.locals
 inj:∀ x y c,X.env.cells.lookup x=some c→X.env.cells.lookup y=some c→x=y
 has:∀ x,(X.env.kindOf x=some .cell∨X.env.kindOf x=some .free)→∃ c,X.env.cells.lookup x=some c
 cab:∀ x c,X.fn x=true→X.env.cells.lookup x=some c→X.s₀.heap.objs.size≤c
 hd:X.calm=true→X.A.handled=none
 frames:X.A.frames=some X.stack
 stk:X.stack=X.outer∨(X.stack=X.env::X.outer∧X.env.frame=some X.env.locals)
 exf:∀ b∈X.ex,b≠X.env.locals∧∀ x c,X.env.cells.lookup x=some c→c≠b
 bs:∀ b o,X.base.get? b=some o→X.s₀.heap.get? b=some o∧X.H₀ b=none
 bsz:X.base.objs.size≤X.s₀.heap.objs.size
 noex:∀ b o,X.base.get? b=some o→b∉X.ex
 exfs:∀ b∈X.ex,b∉X.fs
 funs:X.s₀.heap.FunFrames X.base X.outer
 frf:∀ b∈X.fs,X.H₀ b=none
structure Inv (X:Cx) (pins:List (Addr×Obj)) (σ:List (Option V)) (H:Hp) (s:Shared):Prop where
 ok:X.Ok
 os:s.os=X.s₀.os
 bare:AllBare s.gens
 base:Un X.fs X.ex X.H₀ H X.s₀.heap s.heap
 loc:∃ m,s.heap.Ns X.env.locals m∧∀ (i:Nat) (x:Str) (v:V),X.N[i]?=some x→σ[i]?=some (some v)→Vis X.env.scope x→∃ u,RelV v u∧Look X.env s.heap m x u
 cell:∀ x c,X.env.cells.lookup x=some c→∃ v,s.heap.IsCell c v
 free:H X.env.locals=none
 freeC:∀ x c,X.env.cells.lookup x=some c→H c=none
 pin:∀ p∈X.pn++pins,s.heap.get? p.1=some p.2∧H p.1=none∧p.1≠X.env.locals∧p.1∉X.fs∧∀ v,p.2.data≠.cell v
 hok:HOk X.prog X.w H s.heap
 len:σ.length=X.N.length
section
variable{X:Cx}{pins:List (Addr×Obj)}{σ:List (Option V)}{H H':Hp}{s:Shared}{h':Heap}
theorem Cx.Ok.nofr(ok:X.Ok){b:Addr}{o:Obj}(e:X.base.get? b=some o):b∉X.fs:=fun hb=>by
 have:=(ok.funs.mem hb).1
 rw[e] at this;cases this
theorem Inv.bs(I:Inv X pins σ H s):∀ b o,X.base.get? b=some o→s.heap.get? b=some o∧H b=none:=fun b o e=>
 ⟨I.base.keep b o (I.ok.bs b o e).1 (I.ok.bs b o e).2 (I.ok.nofr e) (I.ok.noex b o e),I.base.free b o (I.ok.bs b o e).1 (I.ok.bs b o e).2 (I.ok.noex b o e)⟩
theorem Inv.bk(I:Inv X pins σ H s):∀ b o,X.base.get? b=some o→s.heap.get? b=some o:=fun b o e=>(I.bs b o e).1
theorem Inv.mod(I:Inv X pins σ H s):Mod X.K X.mg X.base:=I.ok.mod
theorem Inv.kIn(I:Inv X pins σ H s):X.K.In s.heap:=I.ok.mod.kin.keeps I.bk
theorem Inv.fr(I:Inv X pins σ H s):∃ m,Fr X.base X.env.locals s.heap m:=
 let ⟨m,hn,_⟩:=I.loc
 ⟨m,hn,I.bk,Nat.le_trans I.ok.bsz I.ok.above⟩
theorem Inv.lt(I:Inv X pins σ H s):X.env.locals<s.heap.objs.size:=let ⟨_,hn,_⟩:=I.loc;hn.lt
theorem Inv.sz(I:Inv X pins σ H s):X.s₀.heap.objs.size≤s.heap.objs.size:=Nat.le_trans I.ok.above (Nat.le_of_lt I.lt)
theorem Inv.nofs(I:Inv X pins σ H s){a:Addr}(h:s.heap.objs.size≤a):a∉X.fs:=fun hb=>by
 obtain⟨_,o,ho,_⟩:=I.ok.funs.mem hb
 exact absurd (Nat.lt_of_lt_of_le (Heap.lt_size ho) (Nat.le_trans I.sz h)) (Nat.lt_irrefl _)
theorem Inv.cne(I:Inv X pins σ H s):∀ x c,X.env.cells.lookup x=some c→c≠X.env.locals:=fun x c e z=>by
 obtain⟨v,o,ho,hd⟩:=I.cell x c e
 obtain⟨m,⟨o',es,ep,ho',hd',_⟩,_⟩:=I.loc
 rw[z,ho'] at ho;cases ho;rw[hd'] at hd;cases hd
theorem Inv.funs(I:Inv X pins σ H s):s.heap.FunFrames X.base X.outer:=by
 have all:∀ (l:List Env),(∀ b∈frs l,b∈X.fs)→X.s₀.heap.FunFrames X.base l→s.heap.FunFrames X.base l:=by
  intro l
  induction l with
  |nil=>intro _ _;trivial
  |cons env r ih=>
   intro hs hl
   obtain⟨hk,⟨L,o,hf,hn,ho,hd⟩,hr⟩:=hl
   have hL:L∈X.fs:=hs L (by unfold frs;rw[List.filterMap_cons,hf];exact List.mem_cons_self)
   obtain⟨sl,e⟩:=I.base.slot L o ho (I.ok.frf L hL) hL fun z=>I.ok.exfs L z hL
   exact⟨hk,⟨L,_,hf,hn,e,hd⟩,ih (fun b hb=>hs b (by unfold frs;rw[List.filterMap_cons,hf];exact List.mem_cons_of_mem _ hb)) hr⟩
 exact all X.outer (fun _ hb=>hb) I.ok.funs
theorem Inv.stack(I:Inv X pins σ H s):s.heap.FunFrames X.base X.stack:=by
 rcases I.ok.stk with e|⟨e,hf⟩
 ·rw[e];exact I.funs
 ·rw[e]
  obtain⟨m,hn,_⟩:=I.loc
  refine .cons (by rw[I.ok.kind];decide) hf hn ?_ I.funs
  exact Heap.get?_none_of_le (Nat.le_trans I.ok.bsz I.ok.above)
theorem Inv.stkSub(I:Inv X pins σ H s):∀ b∈frs X.stack,b∈X.env.locals::X.fs:=fun b hb=>by
 rcases I.ok.stk with e|⟨e,hf⟩
 ·rw[e] at hb;exact List.mem_cons_of_mem _ hb
 ·rw[e] at hb
  unfold frs at hb
  rw[List.filterMap_cons,hf] at hb
  exact hb
theorem Inv.stkFree(I:Inv X pins σ H s):∀ b∈frs X.stack,H b=none:=fun b hb=>by
 rcases List.mem_cons.mp (I.stkSub b hb) with e|hb
 ·rw[e];exact I.free
 ·obtain⟨_,o,ho,_⟩:=I.ok.funs.mem hb
  exact I.base.free b o ho (I.ok.frf b hb) fun z=>I.ok.exfs b z hb
theorem Inv.step{g':Array GenState}{t':Nat}{d':Drawn}{ch:List Addr}(I:Inv X pins σ H s)
  (hch:∀ b∈ch,(b∈X.ex∨X.s₀.heap.objs.size≤b)∧b≠X.env.locals∧(∀ x c,X.env.cells.lookup x=some c→c≠b)∧∀ p∈X.pn++pins,p.1≠b)
  (keep:∀ b o,b≠X.env.locals→b∉X.fs→b∉ch→s.heap.get? b=some o→H b=none→h'.get? b=some o)
  (slot:∀ b o,b≠X.env.locals→b∈X.fs→b∉ch→s.heap.get? b=some o→H b=none→∃ sl,h'.get? b=some { o with slots:=sl })(free:∀ b o,b∉ch→s.heap.get? b=some o→H b=none→H' b=none)
  (there:∀ b o,b∉ch→s.heap.get? b=some o→∃ o',h'.get? b=some o')
  (tups:∀ b xs,H b=some (.tup xs)→H' b=some (.tup xs))(frzs:∀ b o u,H b=some (.frz o u)→H' b=some (.frz o u))(tbls:∀ b ps,H b=some (.tbl ps)→∃ more,H' b=some (.tbl (ps++more)))
  (ns:∀ m,s.heap.Ns X.env.locals m→h'.Ns X.env.locals m)(hok:HOk X.prog X.w H' h')(hg:AllBare g'):
  Inv X pins σ H' { s with heap:=h',gens:=g',drawn:=d',toks:=t' }:=by
 have neL:∀ b o,X.s₀.heap.get? b=some o→b≠X.env.locals:=fun b o e=>Nat.ne_of_lt (Nat.lt_of_lt_of_le (Heap.lt_size e) I.ok.above)
 have neC:∀ b o,X.s₀.heap.get? b=some o→b∉X.ex→b∉ch:=fun b o e hx hb=>by
  rcases (hch b hb).1 with z|z
  ·exact hx z
  ·exact absurd (Nat.lt_of_lt_of_le (Heap.lt_size e) z) (Nat.lt_irrefl _)
 have cellK:∀ x c,X.env.cells.lookup x=some c→∀ v,s.heap.IsCell c v→h'.IsCell c v:=fun x c e v ⟨o,ho,hd⟩=>by
  have nch:c∉ch:=fun z=>(hch c z).2.2.1 x c e rfl
  by_cases hc:c∈X.fs
  ·obtain⟨sl,q⟩:=slot c o (I.cne x c e) hc nch ho (I.freeC x c e)
   exact⟨_,q,hd⟩
  ·exact⟨o,keep c o (I.cne x c e) hc nch ho (I.freeC x c e),hd⟩
 refine⟨I.ok,I.os,hg,⟨fun b o e n hb hx=>?_,fun b o e n hb hx=>?_,fun b o e n hx=>?_,fun b o e hx=>?_,fun b xs e=>tups b xs (I.base.tups b xs e),fun b o xs e=>frzs b o xs (I.base.frzs b o xs e),fun b ps e=>?_⟩,?_,fun x c e=>?_,?_,fun x c e=>?_,fun p hp=>?_,hok,I.len⟩
 ·exact keep b o (neL b o e) hb (neC b o e hx) (I.base.keep b o e n hb hx) (I.base.free b o e n hx)
 ·obtain⟨sl,e1⟩:=I.base.slot b o e n hb hx
  obtain⟨sl',e2⟩:=slot b _ (neL b o e) hb (neC b o e hx) e1 (I.base.free b o e n hx)
  exact⟨sl',e2⟩
 ·obtain⟨o',e1⟩:=I.base.there b o e hx
  exact free b o' (neC b o e hx) e1 (I.base.free b o e n hx)
 ·obtain⟨o',e1⟩:=I.base.there b o e hx
  exact there b o' (neC b o e hx) e1
 ·obtain⟨m1,e1⟩:=I.base.tbls b ps e
  obtain⟨m2,e2⟩:=tbls b _ e1
  exact⟨m1++m2,by rw[e2,Array.append_assoc]⟩
 ·obtain⟨m,hn,hl⟩:=I.loc
  refine⟨m,ns m hn,fun i x v e1 e2 e3=>?_⟩
  obtain⟨u,r,l⟩:=hl i x v e1 e2 e3
  refine⟨u,r,?_⟩
  rcases l with l|⟨k,c,e,z⟩
  ·exact .inl l
  ·exact .inr ⟨k,c,e,cellK x c e _ z⟩
 ·obtain⟨v,z⟩:=I.cell x c e
  exact⟨v,cellK x c e v z⟩
 ·obtain⟨m,⟨o,_,_,ho,_⟩,_⟩:=I.loc
  exact free _ o (fun z=>(hch _ z).2.1 rfl) ho I.free
 ·obtain⟨v,o,ho,hd⟩:=I.cell x c e
  exact free c o (fun z=>(hch c z).2.2.1 x c e rfl) ho (I.freeC x c e)
 ·obtain⟨e,n,ne,nf,d⟩:=I.pin p hp
  have nch:p.1∉ch:=fun z=>(hch p.1 z).2.2.2 p hp rfl
  exact⟨keep p.1 p.2 ne nf nch e n,free p.1 p.2 nch e n,ne,nf,d⟩
theorem Inv.un{t':Nat}(I:Inv X pins σ H s)(u:Un X.fs [] H H' s.heap h')(hok:HOk X.prog X.w H' h'):Inv X pins σ H' { s with heap:=h',toks:=t' }:=by
 obtain⟨m,⟨o,es,ep,ho,r⟩,_⟩:=id I.loc
 obtain⟨sl,hL⟩:=u.any ho I.free (by simp)
 exact I.step (g':=s.gens) (d':=s.drawn) (ch:=[]) (fun _ z=>nomatch z) (fun b o _ hb _ e n=>u.keep b o e n hb (by simp)) (fun b o _ hb _ e n=>u.slot b o e n hb (by simp)) (fun b o _ e n=>u.free b o e n (by simp)) (fun b o _ e=>u.there b o e (by simp)) u.tups u.frzs u.tbls (fun m' hm=>by
  obtain⟨o',es',ep',ho',r'⟩:=hm
  rw[ho] at ho';cases ho'
  exact⟨_,es',ep',hL,r'⟩) hok I.bare
theorem Inv.call{g':Array GenState}{t':Nat}{d':Drawn}{ch:List Addr}(I:Inv X pins σ H s)(u:Un (frs X.stack) ch H H' s.heap h')(hok:HOk X.prog X.w H' h')(hg:AllBare g')
  (hch:∀ b∈ch,(b∈X.ex∨X.s₀.heap.objs.size≤b)∧b≠X.env.locals∧(∀ x c,X.env.cells.lookup x=some c→c≠b)∧∀ p∈X.pn++pins,p.1≠b):
  Inv X pins σ H' { s with heap:=h',gens:=g',drawn:=d',toks:=t' }:=by
 obtain⟨m,⟨o,es,ep,ho,r⟩,_⟩:=id I.loc
 obtain⟨sl,hL⟩:=u.any ho I.free fun z=>(hch _ z).2.1 rfl
 exact I.step (ch:=ch) hch (fun b o hL hb hc e n=>u.keep b o e n (fun z=>(List.mem_cons.mp (I.stkSub b z)).elim hL hb) hc) (fun b o _ _ hc e n=>u.any e n hc) (fun b o hc e n=>u.free b o e n hc) (fun b o hc e=>u.there b o e hc) u.tups u.frzs u.tbls (fun m' hm=>by
  obtain⟨o',es',ep',ho',r'⟩:=hm
  rw[ho] at ho';cases ho'
  exact⟨_,es',ep',hL,r'⟩) hok hg
theorem Inv.turned{t':Nat}{it:Addr}(I:Inv X pins σ H s)(k:∀ b o,b≠it→s.heap.get? b=some o→h'.get? b=some o)(hn:H it=none)(hL:it≠X.env.locals)
  (h1:it∈X.ex∨X.s₀.heap.objs.size≤it)(h2:∀ x c,X.env.cells.lookup x=some c→c≠it)(h3:∀ p∈X.pn++pins,p.1≠it):Inv X pins σ H { s with heap:=h',toks:=t' }:=by
 have nit:∀ b u,H b=some u→b≠it:=fun b u e z=>by rw[z,hn] at e;cases e
 refine I.step (g':=s.gens) (d':=s.drawn) (ch:=[it]) (fun b hb=>?_) (fun b o _ _ hc e _=>k b o (fun z=>hc (by simp[z])) e) (fun b o _ _ hc e _=>⟨o.slots,k b o (fun z=>hc (by simp[z])) e⟩) (fun _ _ _ _ n=>n)
  (fun b o hc e=>⟨o,k b o (fun z=>hc (by simp[z])) e⟩) (fun _ _ e=>e) (fun _ _ _ e=>e) (fun b ps e=>⟨#[],by rw[e];simp⟩) (fun m hm=>?_) (fun b u e=>?_) I.bare
 ·have e:b=it:=by simpa using hb
  subst e
  exact⟨h1,hL,h2,h3⟩
 ·obtain⟨o,es,ep,ho,r⟩:=hm
  exact⟨o,es,ep,k _ o (Ne.symm hL) ho,r⟩
 ·refine(I.hok b u e).stay (fun c v hc q=>k c v ?_ q) (fun _ q=>q) fun _ _ q=>q
  rcases hc with z|z
  ·rw[z];exact nit b u e
  ·exact nit c _ z
theorem Inv.tok(I:Inv X pins σ H s)(t:Nat):Inv X pins σ H { s with toks:=t }:=I.un (h':=s.heap) (t':=t) Un.refl I.hok
theorem Inv.kept{t':Nat}(I:Inv X pins σ H s)(k:∀ b u,s.heap.get? b=some u→h'.get? b=some u):Inv X pins σ H { s with heap:=h',toks:=t' }:=I.un (Un.kept k) (I.hok.kept k)
theorem Inv.laid{a:Addr}{o:HO}{t':Nat}(I:Inv X pins σ H s)(k:∀ b u,s.heap.get? b=some u→h'.get? b=some u)(hp:s.heap.objs.size≤a)(new:ObjOk X.prog X.w (upd H a o) h' a o):
  Inv X pins σ (upd H a o) { s with heap:=h',toks:=t' }:=I.un (Un.laid k hp (I.hok.fresh hp)) (I.hok.laid k hp new)
theorem Inv.write{x e:Addr}{o:HO}{t':Nat}(I:Inv X pins σ H s)(mu:Mut (H x))(he:e=x∨H e=some (.own x))(k:∀ b u,b≠e→s.heap.get? b=some u→h'.get? b=some u)(heo:∃ u,h'.get? e=some u)
  (new:ObjOk X.prog X.w (upd H x o) h' x o):Inv X pins σ (upd H x o) { s with heap:=h',toks:=t' }:=I.un (Un.write mu he k heo) (I.hok.write mu he k heo new)
theorem Inv.weak{σ':List (Option V)}(I:Inv X pins σ H s)(hl:σ'.length=σ.length)(w:∀ (i:Nat) v,σ'[i]?=some (some v)→σ[i]?=some (some v)):Inv X pins σ' H s:=
 ⟨I.ok,I.os,I.bare,I.base,let ⟨m,hn,hl'⟩:=I.loc;⟨m,hn,fun i x v e1 e2 e3=>hl' i x v e1 (w i v e2) e3⟩,I.cell,I.free,I.freeC,I.pin,I.hok,hl.trans I.len⟩
theorem Inv.pins_of{pins':List (Addr×Obj)}(I:Inv X pins σ H s)(h:∀ p∈pins',s.heap.get? p.1=some p.2∧H p.1=none∧p.1≠X.env.locals∧p.1∉X.fs∧∀ v,p.2.data≠.cell v):Inv X pins' σ H s:=
 ⟨I.ok,I.os,I.bare,I.base,I.loc,I.cell,I.free,I.freeC,fun p hp=>(List.mem_append.mp hp).elim (fun z=>I.pin p (List.mem_append_left _ z)) (h p),I.hok,I.len⟩
theorem uO{N:List Str}(hN:N.Nodup){i j:Nat}{x:Str}(a:N[i]?=some x)(b:N[j]?=some x):i=j:=by
 obtain⟨h1,e1⟩:=List.getElem?_eq_some_iff.mp a
 obtain⟨h2,e2⟩:=List.getElem?_eq_some_iff.mp b
 exact(List.getElem_inj hN).mp (e1.trans e2.symm)
theorem rT{M:Model}{A:Around}{E:Value→Shared→Prop}{i:Nat}{x:Str}{v:V}{u:Value}{Q:Unit→Shared→Prop}(I:Inv X pins σ H s)(hN:X.N.Nodup)(hi:X.N[i]?=some x)(hx:Loc X.env.scope x)(r:RelV v u)
  (h:∀ s',Inv X pins (σ.set i (some v)) H s'→(∃ a,Heap.SameBut a s.heap s'.heap∧(a=X.env.locals∨X.env.cells.lookup x=some a))→Q () s')(hf:X.fn x=true∨X.env.scope.names.lookup x=some .local:=by first|exact .inl rfl|exact .inr rfl|assumption):wpAny M A (storeName X.env x u) Q E s:=by
 obtain⟨m,hn,hl⟩:=id I.loc
 have hcls:(X.env.scope.kind==.class || (X.env.scope.kind==.module&&X.env.locals != X.env.globals))=false:=by rw[I.ok.kind];rfl
 have hiσ:i<σ.length:=by rw[I.len];exact(List.getElem?_eq_some_iff.mp hi).1
 have cne:=I.cne
 have tracked:∀ {a:Addr} {h':Heap},(∃ o,s.heap.get? a=some o∧H a=none)→Heap.SameBut a s.heap h'→HOk X.prog X.w H h':=fun {a h'} ha hs b ob e=>by
  obtain⟨_,_,hfree⟩:=ha
  refine(I.hok b ob e).stay (fun c w' hc q=>(hs.2 c ?_).trans q) (fun _ q=>q) fun _ _ q=>q
  rintro rfl
  rcases hc with rfl|hc
  ·rw[hfree] at e;cases e
  ·rw[hfree] at hc;cases hc
 rcases hx with hk|hk
 ·refine wpAny_storeName_local hk hn (fun h' hn' hs=>?_) hcls
  obtain⟨oL,_,_,hoL,_⟩:=id hn
  refine h _ ⟨I.ok,I.os,I.bare,⟨fun b o e n hb hx=>?_,fun b o e n hb hx=>?_,I.base.free,fun b o e hx=>?_,I.base.tups,I.base.frzs,I.base.tbls⟩,⟨_,hn',fun j y v' e1 e2 e3=>?_⟩,fun y c e=>?_,I.free,I.freeC,fun p hp=>?_,tracked ⟨oL,hoL,I.free⟩ hs,by simpa using I.len⟩ ⟨_,hs, .inl rfl⟩
  ·exact(hs.2 b (Nat.ne_of_lt (Nat.lt_of_lt_of_le (Heap.lt_size e) I.ok.above))).trans (I.base.keep b o e n hb hx)
  ·obtain⟨sl,e1⟩:=I.base.slot b o e n hb hx
   exact⟨sl,(hs.2 b (Nat.ne_of_lt (Nat.lt_of_lt_of_le (Heap.lt_size e) I.ok.above))).trans e1⟩
  ·obtain⟨o',e1⟩:=I.base.there b o e hx
   exact⟨o',(hs.2 b (Nat.ne_of_lt (Nat.lt_of_lt_of_le (Heap.lt_size e) I.ok.above))).trans e1⟩
  ·by_cases hj:j=i
   ·subst hj
    rw[hi] at e1;cases e1
    rw[List.getElem?_set_self hiσ] at e2
    cases e2
    exact⟨u,r, .inl ⟨hk,by simp⟩⟩
   ·rw[List.getElem?_set_ne (Ne.symm hj)] at e2
    obtain⟨u',r',q⟩:=hl j y v' e1 e2 e3
    refine⟨u',r',?_⟩
    rcases q with⟨k,e⟩|⟨k,c,e,z⟩
    ·refine .inl ⟨k,?_⟩
     have:y≠x:=fun e=>hj (uO hN e1 (e ▸ hi))
     simp[this,e]
    ·exact .inr ⟨k,c,e,z.sameBut hs (cne y c e)⟩
  ·obtain⟨w',z⟩:=I.cell y c e
   exact⟨w',z.sameBut hs (cne y c e)⟩
  ·obtain⟨e,n,ne,nf,d⟩:=I.pin p hp
   exact⟨(hs.2 p.1 ne).trans e,n,ne,nf,d⟩
 ·have hfn:X.fn x=true:=by
   rcases hf with z|z
   ·exact z
   ·rw[z] at hk;cases hk
  obtain⟨c,hc⟩:=I.ok.has x (.inl hk)
  obtain⟨w',z⟩:=I.cell x c hc
  refine wpAny_storeName_cell I.ok.kind hk hc z (fun h' hc' hs=>?_)
  obtain⟨oc,hoc,hocd⟩:=id z
  refine h { s with heap:=h' } ⟨I.ok,I.os,I.bare,⟨fun b o e n hb hx=>?_,fun b o e n hb hx=>?_,I.base.free,fun b o e hx=>?_,I.base.tups,I.base.frzs,I.base.tbls⟩,⟨m,hn.sameBut hs (Ne.symm (cne x c hc)),fun j y v' e1 e2 e3=>?_⟩,fun y c' e=>?_,I.free,I.freeC,fun p hp=>?_,tracked ⟨oc,hoc,I.freeC x c hc⟩ hs,by simpa using I.len⟩ ⟨c,hs, .inr hc⟩
  ·exact(hs.2 b (Nat.ne_of_lt (Nat.lt_of_lt_of_le (Heap.lt_size e) (I.ok.cab x c hfn hc)))).trans (I.base.keep b o e n hb hx)
  ·obtain⟨sl,e1⟩:=I.base.slot b o e n hb hx
   exact⟨sl,(hs.2 b (Nat.ne_of_lt (Nat.lt_of_lt_of_le (Heap.lt_size e) (I.ok.cab x c hfn hc)))).trans e1⟩
  ·obtain⟨o',e1⟩:=I.base.there b o e hx
   exact⟨o',(hs.2 b (Nat.ne_of_lt (Nat.lt_of_lt_of_le (Heap.lt_size e) (I.ok.cab x c hfn hc)))).trans e1⟩
  ·by_cases hj:j=i
   ·subst hj
    rw[hi] at e1;cases e1
    rw[List.getElem?_set_self hiσ] at e2
    cases e2
    exact⟨u,r, .inr ⟨.inl hk,c,hc,hc'⟩⟩
   ·rw[List.getElem?_set_ne (Ne.symm hj)] at e2
    obtain⟨u',r',q⟩:=hl j y v' e1 e2 e3
    refine⟨u',r',?_⟩
    rcases q with q|⟨k,c',e,z'⟩
    ·exact .inl q
    ·refine .inr ⟨k,c',e,z'.sameBut hs ?_⟩
     rintro rfl
     exact hj (uO hN e1 (I.ok.inj _ _ _ e hc ▸ hi))
  ·by_cases hcc:c'=c
   ·subst hcc;exact⟨_,hc'⟩
   ·obtain⟨w2,z2⟩:=I.cell y c' e
    exact⟨w2,z2.sameBut hs hcc⟩
  ·obtain⟨e,n,ne,nf,d⟩:=I.pin p hp
   refine⟨(hs.2 p.1 ?_).trans e,n,ne,nf,d⟩
   intro q
   rw[q,hoc] at e
   have q':oc=p.2:=Option.some.inj e
   exact d w' (by rw[← q'];exact hocd)
theorem uP{M:Model}{A:Around}{E:Value→Shared→Prop}{i:Nat}{x:Str}{v:V}{u:Value}{Q:Unit→Shared→Prop}(I:Inv X pins σ H s)(hN:X.N.Nodup)(hi:X.N[i]?=some x)(hx:Loc X.env.scope x)(r:RelV v u)
  (h:∀ s',Inv X pins (σ.set i (some v)) H s'→Q () s')(hf:X.fn x=true∨X.env.scope.names.lookup x=some .local:=by first|exact .inl rfl|exact .inr rfl|assumption):wpAny M A (storeName X.env x u) Q E s:=
 rT I hN hi hx r (fun s' I' _=>h s' I') hf
theorem Inv.call'{s':Shared}{ch:List Addr}(I:Inv X pins σ H s)(ho:s'.os=s.os)(u:Un (frs X.stack) ch H H' s.heap s'.heap)(hok:HOk X.prog X.w H' s'.heap)(hg:AllBare s'.gens)
  (hch:∀ b∈ch,(b∈X.ex∨X.s₀.heap.objs.size≤b)∧b≠X.env.locals∧(∀ x c,X.env.cells.lookup x=some c→c≠b)∧∀ p∈X.pn++pins,p.1≠b):Inv X pins σ H' s':=by
 obtain⟨h',g',d',t',o'⟩:=s'
 have e:o'=s.os:=ho
 subst e
 exact I.call (g':=g') (t':=t') (d':=d') u hok hg hch
end
abbrev XK:=Value→Option Addr→Hp→Prop
abbrev St:=List (Option V)
abbrev VK:=V→Hp→Prop
abbrev TE:=St→Hp→VK→Prop
abbrev TT:=St→Hp→(Bool→Hp→Prop)→Prop
abbrev TA:=St→Hp→(List V→Hp→Prop)→Prop
structure Ends where
 nx:St→Hp→Prop
 rt:VK
 bk:St→Hp→Prop:=fun _ _=>False
 ct:St→Hp→Prop:=fun _ _=>False
abbrev TS:=Ends→St→Hp→Prop
def EP(X:Cx)(pins:List (Addr×Obj))(σ:St)(Q:VK)(u:Value)(s':Shared):Prop:=∃ v H',Inv X pins σ H' s'∧RelV v u∧Q v H'
def TP(X:Cx)(pins:List (Addr×Obj))(σ:St)(Q:Bool→Hp→Prop)(b:Bool)(s':Shared):Prop:=∃ H',Inv X pins σ H' s'∧Q b H'
def AP(X:Cx)(pins:List (Addr×Obj))(σ:St)(Q:List V→Hp→Prop)(us:List Value)(s':Shared):Prop:=∃ vs H',Inv X pins σ H' s'∧Vals vs us∧Q vs H'
def SP(X:Cx)(pins:List (Addr×Obj))(D:Ends)(f:Flow)(s':Shared):Prop:=
 match f with
 | .next=>∃ σ' H',Inv X pins σ' H' s'∧D.nx σ' H'
 | .brk=>∃ σ' H',Inv X pins σ' H' s'∧D.bk σ' H'
 | .cont=>∃ σ' H',Inv X pins σ' H' s'∧D.ct σ' H'
 | .ret u=>∃ v σ' H',Inv X pins σ' H' s'∧RelV v u∧D.rt v H'
def PE(X:Cx)(e:Expr)(t:TE):Prop:=
 ∀ (pins:List (Addr×Obj)) (s:Shared) (σ:St) (H:Hp) (Q:VK),Inv X pins σ H s→t σ H Q→wpAny (model X.prog X.w) X.A (eval e X.env) (EP X pins σ Q) X.xe s
def PT(X:Cx)(e:Expr)(t:TT):Prop:=
 ∀ (pins:List (Addr×Obj)) (s:Shared) (σ:St) (H:Hp) (Q:Bool→Hp→Prop),Inv X pins σ H s→t σ H Q→wpAny (model X.prog X.w) X.A (isTrue e X.env (eval e X.env)) (TP X pins σ Q) X.xe s
def PW(X:Cx)(e:Expr)(t:TT):Prop:=
 ∀ (whole:Sem Value) (pins:List (Addr×Obj)) (s:Shared) (σ:St) (H:Hp) (Q:Bool→Hp→Prop),Inv X pins σ H s→t σ H Q→wpAny (model X.prog X.w) X.A (isTrue e X.env whole) (TP X pins σ Q) X.xe s
theorem PW.pt{X:Cx}{e:Expr}{t:TT}(h:PW X e t):PT X e t:=h _
def PA(X:Cx)(es:List Expr)(t:TA):Prop:=
 ∀ (pos:Pos) (pins:List (Addr×Obj)) (s:Shared) (σ:St) (H:Hp) (Q:List V→Hp→Prop),Inv X pins σ H s→t σ H Q→wpAny (model X.prog X.w) X.A (spliced (backTo pos (starEach es X.env))) (AP X pins σ Q) X.xe s
def PS(X:Cx)(st:Stmt)(t:TS):Prop:=
 ∀ (pins:List (Addr×Obj)) (s:Shared) (σ:St) (H:Hp) (D:Ends),Inv X pins σ H s→t D σ H→wpAny (model X.prog X.w) X.A (exec st X.env) (SP X pins D) X.xe s
def PSs(X:Cx)(st:List Stmt)(t:TS):Prop:=
 ∀ (pins:List (Addr×Obj)) (s:Shared) (σ:St) (H:Hp) (D:Ends),Inv X pins σ H s→t D σ H→wpAny (model X.prog X.w) X.A (execs st X.env) (SP X pins D) X.xe s
theorem thn{α:Type}{t:Sem α}{Q Q':α→Shared→Prop}{M:Model}{A:Around}{E:Value→Shared→Prop}{s:Shared}(h:wpAny M A t Q E s)(hQ:∀ a s,Q a s→Q' a s):wpAny M A t Q' E s:=wpAny_mono h hQ fun _ _ x=>x
end L2
namespace L2
open PySem PySem.Spec PyProof.Rows
section
variable{X:Cx}
theorem bin{a b:Expr}{ta tb:TE}(ha:PE X a ta)(hb:PE X b tb){pins:List (Addr×Obj)}{s:Shared}{σ:St}{H:Hp}{R:V→V→Hp→Prop}(I:Inv X pins σ H s)(h:ta σ H fun x H1=>tb σ H1 fun y H2=>R x y H2)
  {α:Type}{Q:α→Shared→Prop}{f:Value→Value→Sem α}
  (hf:∀ v u s2 x y H2,Inv X pins σ H2 s2→RelV x v→RelV y u→R x y H2→wpAny (model X.prog X.w) X.A (f v u) Q X.xe s2):
  wpAny (model X.prog X.w) X.A (eval a X.env) (fun v s₁=>wpAny (model X.prog X.w) X.A (eval b X.env) (fun u s₂=>wpAny (model X.prog X.w) X.A (f v u) Q X.xe s₂) X.xe s₁) X.xe s:=by
 refine thn (ha pins s σ H _ I h) fun v s1 ⟨x,H1,I1,r1,q1⟩=>?_
 refine thn (hb pins s1 σ H1 _ I1 q1) fun u s2 ⟨y,H2,I2,r2,q2⟩=>?_
 exact hf v u s2 x y H2 I2 r1 r2 q2
def tVar(i:Nat):TE:=fun σ H Q=>∃ v,σ[i]?=some (some v)∧Q v H
def tC(v:V):TE:=fun _ H Q=>Q v H
theorem aDY{i:Nat}{x:Str}{pos:Pos}(hN:X.N[i]?=some x)(hv:Vis X.env.scope x)(hd:(x==("__debug__":Str))=false:=by decide)(hcd:(x==("__classdict__":Str))=false:=by decide):PE X (.Name x pos) (tVar i):=by
 intro pins s σ H Q I h
 obtain⟨v,e,h⟩:=h
 obtain⟨m,hn,hl⟩:=I.loc
 obtain⟨u,r,l⟩:=hl i x v hN e hv
 have fin:EP X pins σ Q u s:=⟨v,H,I,r,h⟩
 rcases l with⟨hk,hm⟩|⟨hk,c,hc,hcell⟩
 ·exact wpAny_Name (wpAny_loadName_local I.ok.kind hk hn hm fin) hd
 ·rcases hk with hk|hk
  ·exact wpAny_Name (wpAny_loadName_cell I.ok.kind hk hc hcell fin) hd
  ·exact wpAny_Name (wpAny_loadName_free I.ok.kind hk hc hcell fin hcd) hd
theorem aDZ{i j pos}:PE X (.Constant (.int i) j pos) (tC (.int i)):=fun _ _ _ H _ I h=>wpAny_Constant_int ⟨.int i,H,I.tok _,⟨_,rfl⟩,h⟩
theorem aFV{b j pos}:PE X (.Constant (.bool b) j pos) (tC (.bl b)):=fun _ _ _ H _ I h=>Constant_bool ⟨.bl b,H,I,rfl,h⟩
theorem aEa{j pos}:PE X (.Constant .none j pos) (tC .non):=fun _ _ _ H _ I h=>Constant_none ⟨.non,H,I,rfl,h⟩
theorem aEb{x j pos}:PE X (.Constant (.str x) j pos) (tC (.str x)):=fun _ _ _ H _ I h=>Calls.Constant_str ⟨.str x,H,I.tok _,⟨_,rfl⟩,h⟩
def Gl(X:Cx)(x:Str):Prop:=X.env.kindOf x=some .globalImplicit
theorem xP{E:Value→Shared→Prop}{pins:List (Addr×Obj)}{s:Shared}{σ:St}{H:Hp}{x:Str}{u:Value}{pos:Pos}{Q:Value→Shared→Prop}(I:Inv X pins σ H s)(hg:Gl X x)(hm:X.mg x=some u)(h:Q u s)
  (hd:(x==("__debug__":Str))=false:=by decide):wpAny (model X.prog X.w) X.A (eval (.Name x pos) X.env) Q E s:=
 Calls.Name_function_global I.ok.kind hg (Calls.loadGlobal_global (by rw[I.ok.glob];exact I.mod.glob.keeps I.bk) hm h) hd
theorem kR{E:Value→Shared→Prop}{pins:List (Addr×Obj)}{s:Shared}{σ:St}{H:Hp}{x:Str}{u:Value}{pos:Pos}{Q:Value→Shared→Prop}(I:Inv X pins σ H s)(hg:Gl X x)(hm:X.mg x=none)(hv:bootBuiltins x=some u)(h:Q u s)
  (hn:x≠"__name__":=by decide)(hd:(x==("__debug__":Str))=false:=by decide):wpAny (model X.prog X.w) X.A (eval (.Name x pos) X.env) Q E s:=by
 obtain⟨mb,h1,h2⟩:=I.mod.blt
 exact Calls.Name_function_global I.ok.kind hg (Calls.loadGlobal_builtin (by rw[I.ok.glob];exact I.mod.glob.keeps I.bk) hm (by rw[I.ok.blt];exact h1.keeps I.bk) ((h2 x hn).trans hv) h) hd
theorem aCm{x:Str}{v:V}{u:Value}{pos:Pos}(hg:Gl X x)(hm:X.mg x=some u)(r:RelV v u)(hd:(x==("__debug__":Str))=false:=by decide):PE X (.Name x pos) (tC v):=
 fun _ _ _ H _ I h=>xP I hg hm ⟨v,H,I,r,h⟩ hd
theorem aCn{x:Str}{v:V}{u:Value}{pos:Pos}(hg:Gl X x)(hm:X.mg x=none)(hv:bootBuiltins x=some u)(r:RelV v u)(hn:x≠"__name__":=by decide)(hd:(x==("__debug__":Str))=false:=by decide):PE X (.Name x pos) (tC v):=
 fun _ _ _ H _ I h=>kR I hg hm hv ⟨v,H,I,r,h⟩ hn hd
variable{a b:Expr}{ta tb:TE}{pos:Pos}
variable{tA tB':TT}{rest:List Expr}
def tAnd(t u:TT):TT:=fun σ H Q=>t σ H fun c H1=>if c=true then u σ H1 Q else Q false H1
def tOr(t u:TT):TT:=fun σ H Q=>t σ H fun c H1=>if c=true then Q true H1 else u σ H1 Q
def tNot(t:TT):TT:=fun σ H Q=>t σ H fun c H1=>Q (!c) H1
theorem aCo(ha:PT X a tA):PW X (.BoolOp .And [a] pos) tA:=by
 intro wh pins s σ H Q I h
 refine isTrue_and (thn (ha pins s σ H Q I h) fun c s1 e=>?_)
 cases c with
 |true=>exact isTrue_and_nil e
 |false=>exact e
theorem aEc(ha:PT X a tA):PW X (.BoolOp .Or [a] pos) tA:=by
 intro wh pins s σ H Q I h
 refine isTrue_or (thn (ha pins s σ H Q I h) fun c s1 e=>?_)
 cases c with
 |false=>exact isTrue_or_nil e
 |true=>exact e
theorem aEd(ha:PT X a tA)(hb:PW X (.BoolOp .And (b::rest) pos) tB'):PW X (.BoolOp .And (a::b::rest) pos) (tAnd tA tB'):=by
 intro wh pins s σ H Q I h
 refine isTrue_and (thn (ha pins s σ H _ I h) fun c s1 ⟨H1,I1,q1⟩=>?_)
 cases c with
 |true=>exact hb wh pins s1 σ H1 Q I1 q1
 |false=>exact⟨H1,I1,q1⟩
theorem aFW(ha:PT X a tA)(hb:PW X (.BoolOp .Or (b::rest) pos) tB'):PW X (.BoolOp .Or (a::b::rest) pos) (tOr tA tB'):=by
 intro wh pins s σ H Q I h
 refine isTrue_or (thn (ha pins s σ H _ I h) fun c s1 ⟨H1,I1,q1⟩=>?_)
 cases c with
 |true=>exact⟨H1,I1,q1⟩
 |false=>exact hb wh pins s1 σ H1 Q I1 q1
theorem aEe(ha:PT X a tA):PT X (.UnaryOp .Not a pos) (tNot tA):=by
 intro pins s σ H Q I h
 exact isTrue_not (ha pins s σ H (fun c H1=>Q (!c) H1) I h)
def tAndV(ta tb:TE):TE:=fun σ H Q=>ta σ H fun x H1=>∃ c,x=.bl c∧if c=true then tb σ H1 Q else Q (.bl false) H1
theorem aEf{op}{t:TE}(h:PE X a t):PE X (.BoolOp op [a] pos) t:=fun pins s σ H Q I hw=>BoolOp_one (h pins s σ H Q I hw)
theorem aEg(ha:PE X a ta)(hb:PE X (.BoolOp .And (b::rest) pos) tb):PE X (.BoolOp .And (a::b::rest) pos) (tAndV ta tb):=by
 intro pins s σ H Q I h
 refine BoolOp_and (thn (ha pins s σ H _ I h) fun v s1 ⟨x,H1,I1,r1,q1⟩=>?_)
 obtain⟨c,rfl,q1⟩:=q1
 cases r1
 refine wpAny_truthy_bool ?_
 cases c with
 |true=>exact hb pins s1 σ H1 Q I1 q1
 |false=>exact⟨.bl false,H1,I1,rfl,q1⟩
def tIf(t:TT)(ta tb:TE):TE:=fun σ H Q=>t σ H fun c H1=>if c=true then ta σ H1 Q else tb σ H1 Q
theorem aAz{c:Expr}(hc:PT X c tA)(ha:PE X a ta)(hb:PE X b tb):PE X (.IfExp c a b pos) (tIf tA ta tb):=by
 intro pins s σ H Q I h
 refine wpAny_IfExp (thn (hc pins s σ H _ I h) fun d s1 ⟨H1,I1,q1⟩=>?_)
 cases d with
 |true=>exact ha pins s1 σ H1 Q I1 q1
 |false=>exact hb pins s1 σ H1 Q I1 q1
end
end L2
namespace L2
open PySem PySem.Spec PyProof.Rows
def SqL(K:PySem.W.Frag)(H:Hp)(a:Addr)(xs:List V):Prop:=
 Rd H a (.lst xs)∨
  ∃ (o:Obj) (its:Array Value) (n:Nat),K.lookup a=some o∧o.cls=.type "list"∧o.dict=none∧o.data=.seq its n∧its.size≤sizeLine∧Vals xs its.toList
def SqT(K:PySem.W.Frag)(H:Hp)(a:Addr)(xs:List V):Prop:=
 Rd H a (.tup xs)∨
  ∃ (o:Obj) (its:Array Value) (n:Nat),K.lookup a=some o∧o.cls=.type "tuple"∧o.data=.seq its n∧its.size≤sizeLine∧Vals xs its.toList
def absV:Value→Option V
 | .none=>some .non
 | .bool b=>some (.bl b)
 | .int i _=>some (.int i)
 | .str x _=>some (.str x)
 | .bytes b _=>some (.byt b)
 | .float b _=>some (.flt b)
 | .ref a=>some (.ref a)
 | .type n=>some (.ty n)
 |_=>none
theorem RelV.abs{x:V}{u:Value}(r:RelV x u):absV u=some x:=by
 cases x with
 |non=>cases r;rfl
 |bl _=>cases r;rfl
 |int _=>obtain⟨t,rfl⟩:=r;rfl
 |str _=>obtain⟨t,rfl⟩:=r;rfl
 |byt _=>obtain⟨t,rfl⟩:=r;rfl
 |flt _=>obtain⟨t,rfl⟩:=r;rfl
 |ref _=>cases r;rfl
 |ty _=>cases r;rfl
theorem RelV.inj{x y:V}{u:Value}(r:RelV x u)(q:RelV y u):x=y:=Option.some.inj (r.abs.symm.trans q.abs)
theorem Vals.inj:∀ {xs ys:List V} {us:List Value},Vals xs us→Vals ys us→xs=ys
 |_,_,_, .nil, .nil=>rfl
 |_,_,_, .cons r t, .cons r' t'=>by rw[r.inj r',Vals.inj t t']
section
variable{X:Cx}{pins:List (Addr×Obj)}{σ:St}{H:Hp}{s:Shared}{a:Addr}{xs ys:List V}
theorem SqL.of{K:PySem.W.Frag}(h:H a=some (.lst xs)):SqL K H a xs:=.inl (.inl h)
theorem SqT.of{K:PySem.W.Frag}(h:H a=some (.tup xs)):SqT K H a xs:=.inl (.inl h)
theorem Inv.list(I:Inv X pins σ H s)(h:SqL X.K H a xs):∃ its:List Value,Vals xs its∧PlainL s.heap a its.toArray∧xs.length≤sizeLine:=by
 rcases h with h|⟨o,its,n,hk,hc,hd,hs,hz,r⟩
 ·obtain⟨z,its,n,r,e⟩:=h.ok I.hok
  exact⟨its,r,⟨_,n,e,rfl,rfl,rfl⟩,z⟩
 ·refine⟨its.toList,r,⟨o,n,I.kIn a o hk,hc,hd,by simpa using hs⟩,?_⟩
  have e:=r.length
  simp only[Array.length_toList] at e
  omega
theorem Inv.tuple(I:Inv X pins σ H s)(h:SqT X.K H a xs):∃ its:List Value,Vals xs its∧IsTup s.heap a its.toArray∧xs.length≤sizeLine:=by
 rcases h with h|⟨o,its,n,hk,hc,hs,hz,r⟩
 ·obtain⟨z,its,r,p⟩:=h.ok I.hok
  exact⟨its,r,p,z⟩
 ·refine⟨its.toList,r,⟨o,I.kIn a o hk,hc,n,by simpa using hs⟩,?_⟩
  have e:=r.length
  simp only[Array.length_toList] at e
  omega
theorem Inv.list_inj(I:Inv X pins σ H s)(h:SqL X.K H a xs)(h':SqL X.K H a ys):xs=ys:=by
 obtain⟨its,r,⟨o,n,e,_,_,d⟩,_⟩:=I.list h
 obtain⟨its',r',⟨o',n',e',_,_,d'⟩,_⟩:=I.list h'
 rw[e] at e';cases e'
 rw[d] at d'
 injection d' with d1 _
 have:its=its':=by simpa using congrArg Array.toList d1
 subst this
 exact r.inj r'
theorem Inv.tuple_inj(I:Inv X pins σ H s)(h:SqT X.K H a xs)(h':SqT X.K H a ys):xs=ys:=by
 obtain⟨its,r,⟨o,e,_,n,d⟩,_⟩:=I.tuple h
 obtain⟨its',r',⟨o',e',_,n',d'⟩,_⟩:=I.tuple h'
 rw[e] at e';cases e'
 rw[d] at d'
 injection d' with d1 _
 have:its=its':=by simpa using congrArg Array.toList d1
 subst this
 exact r.inj r'
end
abbrev Cx.wish(X:Cx)(E:Value→Shared→Prop):Cx:={ X with xe:=E }
abbrev Cx.nox(X:Cx):Cx:=X.wish fun _ _=>False
theorem Cx.Ok.wish{X:Cx}(ok:X.Ok)(E:Value→Shared→Prop):(X.wish E).Ok:=
 ⟨ok.mod,ok.kind,ok.glob,ok.blt,ok.above,ok.inj,ok.has,ok.cab,ok.hd,ok.frames,ok.stk,ok.exf,ok.bs,ok.bsz,ok.noex,ok.exfs,ok.funs,ok.frf⟩
theorem Cx.Ok.unwish{X:Cx}{E:Value→Shared→Prop}(ok:(X.wish E).Ok):X.Ok:=
 ⟨ok.mod,ok.kind,ok.glob,ok.blt,ok.above,ok.inj,ok.has,ok.cab,ok.hd,ok.frames,ok.stk,ok.exf,ok.bs,ok.bsz,ok.noex,ok.exfs,ok.funs,ok.frf⟩
section
variable{X:Cx}{pins:List (Addr×Obj)}{σ:St}{H:Hp}{s:Shared}{E:Value→Shared→Prop}
theorem Inv.wish(I:Inv X pins σ H s)(E:Value→Shared→Prop):Inv (X.wish E) pins σ H s:=⟨I.ok.wish E,I.os,I.bare,I.base,I.loc,I.cell,I.free,I.freeC,I.pin,I.hok,I.len⟩
theorem Inv.unwish(I:Inv (X.wish E) pins σ H s):Inv X pins σ H s:=⟨I.ok.unwish,I.os,I.bare,I.base,I.loc,I.cell,I.free,I.freeC,I.pin,I.hok,I.len⟩
theorem SP.unwish{D:Ends}{f:Flow}{s':Shared}(h:SP (X.wish E) pins D f s'):SP X pins D f s':=by
 cases f with
 |next=>obtain⟨σ',H',I,q⟩:=h;exact⟨σ',H',I.unwish,q⟩
 |brk=>obtain⟨σ',H',I,q⟩:=h;exact⟨σ',H',I.unwish,q⟩
 |cont=>obtain⟨σ',H',I,q⟩:=h;exact⟨σ',H',I.unwish,q⟩
 |ret u=>obtain⟨v,σ',H',I,r,q⟩:=h;exact⟨v,σ',H',I.unwish,r,q⟩
theorem PSs.nox{st:List Stmt}{t:TS}(h:PSs X.nox st t):PSs X st t:=fun pins s σ H D I hw=>
 wpAny_mono (h pins s σ H D (I.wish _) hw) (fun _ _ q=>q.unwish) fun _ _ z=>False.elim z
end
section
variable{X:Cx}{st:Stmt}{rest:List Stmt}{t u:TS}{e:Expr}{te:TE}{pos:Pos}
def tNext:TS:=fun D σ H=>D.nx σ H
def tSeq(t u:TS):TS:=fun D σ H=>t { D with nx:=u D } σ H
theorem aCp:PSs X [] tNext:=fun _ _ σ H _ I h=>wpAny_execs_nil ⟨σ,H,I,h⟩
theorem aAA(h1:PS X st t)(h2:PSs X rest u):PSs X (st::rest) (tSeq t u):=by
 intro pins s σ H D I h
 refine wpAny_execs_cons (thn (h1 pins s σ H { D with nx:=u D } I h) fun f s1 q=>?_)
 cases f with
 |next=>
  obtain⟨σ',H',I',q⟩:=q
  exact h2 pins s1 σ' H' D I' q
 |ret v=>exact q
 |brk=>exact q
 |cont=>exact q
theorem aCq(h1:PS X st t):PSs X [st] t:=by
 intro pins s σ H D I h
 refine wpAny_execs_cons (thn (h1 pins s σ H D I h) fun f s1 q=>?_)
 cases f with
 |next=>exact wpAny_execs_nil q
 |ret v=>exact q
 |brk=>exact q
 |cont=>exact q
theorem Inv.quiet{pins:List (Addr×Obj)}{σ:St}{H:Hp}{s:Shared}(I:Inv X pins σ H s):interactive X.env=false:=by simp[interactive,I.ok.kind]
def tDrop(te:TE):TS:=fun D σ H=>te σ H fun _ H1=>D.nx σ H1
theorem aCr(he:PE X e te)(hs:swapsWith e none pos.line X.env=pure false:=by rfl):PS X (.Expr e pos) (tDrop te):=by
 intro pins s σ H D I h
 exact wpAny_Expr_any (thn (he pins s σ H _ I h) fun v s1 ⟨x,H1,I1,r1,q1⟩=>⟨σ,H1,I1,q1⟩) I.quiet hs
def tRet(te:TE):TS:=fun D σ H=>te σ H D.rt
theorem aEh(he:PE X e te):PS X (.Return (some e) pos) (tRet te):=by
 intro pins s σ H D I h
 exact wpAny_Return_some (thn (he pins s σ H _ I h) fun v s1 ⟨x,H1,I1,r1,q1⟩=>⟨x,σ,H1,I1,r1,q1⟩)
def tIfS(c:TT)(t u:TS):TS:=fun D σ H=>c σ H fun b H1=>if b=true then t D σ H1 else u D σ H1
theorem aFX{c:Expr}{a b:List Stmt}{tc:TT}(hc:PT X c tc)(ha:PSs X a t)(hb:PSs X b u):PS X (.If c a b pos) (tIfS tc t u):=by
 intro pins s σ H D I h
 refine wpAny_If (thn (hc pins s σ H _ I h) fun d s1 ⟨H1,I1,q1⟩=>?_)
 cases d with
 |true=>exact ha pins s1 σ H1 D I1 q1
 |false=>exact hb pins s1 σ H1 D I1 q1
end
abbrev TG:=V→St→Hp→(St→Hp→Prop)→Prop
abbrev TGs:=List V→St→Hp→(St→Hp→Prop)→Prop
def PG(X:Cx)(target:Expr)(t:TG):Prop:=
 ∀ (pins:List (Addr×Obj)) (s:Shared) (σ:St) (H:Hp) (v:V) (u:Value) (Q:St→Hp→Prop),Inv X pins σ H s→RelV v u→t v σ H Q→
  wpAny (model X.prog X.w) X.A (assign target X.env u) (fun _ s'=>∃ σ' H',Inv X pins σ' H' s'∧Q σ' H') X.xe s
def PGs(X:Cx)(ts:List Expr)(t:TGs):Prop:=
 ∀ (pins:List (Addr×Obj)) (s:Shared) (σ:St) (H:Hp) (vs:List V) (us:List Value) (Q:St→Hp→Prop),Inv X pins σ H s→Vals vs us→t vs σ H Q→
  wpAny (model X.prog X.w) X.A (assignInOrder ((assignEach ts X.env).map (·.2)) us) (fun _ s'=>∃ σ' H',Inv X pins σ' H' s'∧Q σ' H') X.xe s
abbrev TSet:=V→V→V→Hp→(Hp→Prop)→Prop
def PSet(X:Cx)(t:TSet):Prop:=
 ∀ (pins:List (Addr×Obj)) (s:Shared) (σ:St) (H:Hp) (o i v:V) (ov iv u:Value) (Q:Hp→Prop),Inv X pins σ H s→RelV o ov→RelV i iv→RelV v u→t o i v H Q→
  wpAny (model X.prog X.w) X.A (setItem ov iv u) (fun _ s'=>∃ H',Inv X pins σ H' s'∧Q H') X.xe s
section
variable{X:Cx}{pos:Pos}
def gName(i:Nat):TG:=fun v σ H Q=>Q (σ.set i (some v)) H
theorem xQ{i:Nat}{x:Str}(hN:X.N.Nodup)(hi:X.N[i]?=some x)(hx:Loc X.env.scope x)(hf:X.fn x=true∨X.env.scope.names.lookup x=some .local:=by first|exact .inl rfl|exact .inr rfl|assumption):PG X (.Name x pos) (gName i):=by
 intro pins s σ H v u Q I r h
 exact wpAny_assign_Name (uP I hN hi hx r (fun s' I'=>⟨_,H,I',h⟩) hf)
def gNil:TGs:=fun vs σ H Q=>vs=[]∧Q σ H
def gCons(t:TG)(u:TGs):TGs:=fun vs σ H Q=>∃ v r,vs=v::r∧t v σ H fun σ' H'=>u r σ' H' Q
theorem iG:PGs X [] gNil:=by
 intro pins s σ H vs us Q I r h
 obtain⟨e,h⟩:=h
 subst e
 cases r
 exact assignInOrder_nil ⟨σ,H,I,h⟩
theorem cM{e:Expr}{es:List Expr}{t:TG}{u:TGs}(h1:PG X e t)(h2:PGs X es u)
  (hs:(assignEach (e::es) X.env).map (·.2)=assign e X.env::(assignEach es X.env).map (·.2):=by rfl):PGs X (e::es) (gCons t u):=by
 intro pins s σ H vs us Q I r h
 obtain⟨v,vr,e1,h⟩:=h
 subst e1
 cases r with
 |cons r rr=>
  rw[hs]
  refine assignInOrder_cons (thn (h1 pins s σ H _ _ _ I r h) fun _ s1 ⟨σ1,H1,I1,q1⟩=>?_)
  exact h2 pins s1 σ1 H1 _ _ Q I1 rr q1
def gTup(K:PySem.W.Frag)(n:Nat)(t:TGs):TG:=fun v σ H Q=>∃ a xs,v=.ref a∧SqT K H a xs∧xs.length=n∧t xs σ H Q
theorem nL{es:List Expr}{k:Nat}{t:TGs}{n:Nat}(hc:X.calm=true)(h:PGs X es t)
  (hn:(assignEach es X.env).length=n:=by rfl)(hst:(assignEach es X.env).findIdx? (·.1)=none:=by rfl):PG X (.Tuple es k pos) (gTup X.K n t):=by
 intro pins s σ H v u Q I r hw
 obtain⟨a,xs,e1,hq,hl,hw⟩:=hw
 subst e1
 cases r
 obtain⟨its,rv,ht,hz⟩:=I.tuple hq
 refine assign_Tuple_tuple (I.ok.hd hc) ht (by simp[hn,← hl,rv.length]) hst fun h' hx=>?_
 have I1:Inv X pins σ H { s with heap:=h' }:=I.kept (t':=s.toks) fun b o e=>hx b o (Nat.ne_of_lt (Heap.lt_size e)) e
 exact h pins _ σ H xs _ Q I1 (by simpa using rv) hw
def gSub(to ti:TE)(t:TSet):TG:=fun v σ H Q=>to σ H fun o H1=>ti σ H1 fun i H2=>t o i v H2 fun H3=>Q σ H3
theorem aEi{o i:Expr}{to ti:TE}{t:TSet}(ho:PE X o to)(hi:PE X i ti)(hs:PSet X t)
  (ha:∀ v,assign (.Subscript o i pos) X.env v=(do
   let ov ← holding [v] (eval o X.env)
   let iv ← holding [v,ov] (eval i X.env)
   standAt pos
   holding [v,ov,iv] (setItem ov iv v)
   release [v,ov,iv] []):=by intro _;rfl):PG X (.Subscript o i pos) (gSub to ti t):=by
 intro pins s σ H v u Q I r h
 rw[ha]
 refine wpAny_bind (wpAny_holding (thn (ho pins s σ H _ I h) fun ov s1 ⟨x,H1,I1,r1,q1⟩=>?_))
 refine wpAny_bind (wpAny_holding (thn (hi pins s1 σ H1 _ I1 q1) fun iv s2 ⟨y,H2,I2,r2,q2⟩=>?_))
 refine wpAny_bind (wpAny_standAt (wpAny_bind (wpAny_holding (thn (hs pins s2 σ H2 x y v ov iv u _ I2 r1 r2 r q2) fun _ s3 ⟨H3,I3,q3⟩=>?_))))
 exact wpAny_release ⟨σ,H3,I3,q3⟩
def tAsg(te:TE)(g:TG):TS:=fun D σ H=>te σ H fun x H1=>g x σ H1 D.nx
theorem aEj{tg e:Expr}{te:TE}{g:TG}(he:PE X e te)(hg:PG X tg g)(hs:swapsWithSole [tg] e pos.line X.env=pure false:=by rfl)(hw:swappedStores [tg] e X.env=pure none:=by rfl)
  (h1:(assignEach [tg] X.env).map (·.2)=[assign tg X.env]:=by rfl):PS X (.Assign [tg] e pos) (tAsg te g):=by
 intro pins s σ H D I h
 refine wpAny_Assign_stores (thn (he pins s σ H _ I h) fun v s1 ⟨x,H1,I1,r1,q1⟩=>?_) hs hw
 rw[h1]
 exact thn (hg pins s1 σ H1 x v _ I1 r1 q1) fun _ s2 q=>q
theorem aEk{i:Nat}{x:Str}{e:Expr}{te:TE}{pos':Pos}(hN:X.N.Nodup)(hi:X.N[i]?=some x)(hx:Loc X.env.scope x)(he:PE X e te)(hs:swapsWith e (some (.Name x pos')) pos.line X.env=pure false:=by rfl)(hf:X.fn x=true∨X.env.scope.names.lookup x=some .local:=by first|exact .inl rfl|exact .inr rfl|assumption):
  PS X (.Assign [.Name x pos'] e pos) (tAsg te (gName i)):=by
 intro pins s σ H D I h
 refine wpAny_Assign_Name (thn (he pins s σ H _ I h) fun v s1 ⟨y,H1,I1,r1,q1⟩=>?_) hs
 exact uP I1 hN hi hx r1 (fun s2 I2=>⟨_,H1,I2,q1⟩) hf
end
section
variable{X:Cx}{pos:Pos}
def tWhile(c:TT)(tb:TS):TS:=fun D σ H=>∃ W:Nat→St→Hp→Prop,(∃ m,W m σ H)∧∀ m σ H,W m σ H→
 c σ H fun b H1=>if b=true then ∃ N:St→Hp→Prop,(∀ σ' H',N σ' H'→∃ m',m'<m∧W m' σ' H')∧tb { D with nx:=N,ct:=N,bk:=D.nx } σ H1 else D.nx σ H1
theorem aAB{c:Expr}{body:List Stmt}{tc:TT}{tb:TS}(hp:PassesOwn (model X.prog X.w) X.A X.env X.xe)(hc:PT X c tc)(hb:PSs X body tb):PS X (.While c body [] pos) (tWhile tc tb):=by
 intro pins s σ H D I h
 obtain⟨W,⟨m0,w0⟩,turn⟩:=h
 refine wpAny_While (codeAny_whileLoop (fun n s'=>∃ σ' H',Inv X pins σ' H' s'∧W n σ' H') ?_ m0 ⟨σ,H,I,w0⟩)
 rintro n s1 ⟨σ1,H1,I1,w1⟩
 refine wpAny_passesOwn hp (thn (hc pins s1 σ1 H1 _ I1 (turn n σ1 H1 w1)) fun b s2 ⟨H2,I2,q2⟩=>?_)
 cases b with
 |true=>
  obtain⟨N,hN,q2⟩:=q2
  rw[if_pos rfl]
  refine wpAny_passesOwn hp (thn (hb pins s2 σ1 H2 _ I2 q2) fun f s3 q3=>?_)
  cases f with
  |next=>
   obtain⟨σ3,H3,I3,n3⟩:=q3
   obtain⟨m',hm,w3⟩:=hN σ3 H3 n3
   exact⟨m',hm,σ3,H3,I3,w3⟩
  |cont=>
   obtain⟨σ3,H3,I3,n3⟩:=q3
   obtain⟨m',hm,w3⟩:=hN σ3 H3 n3
   exact⟨m',hm,σ3,H3,I3,w3⟩
  |brk=>exact q3
  |ret v=>exact q3
 |false=>
  rw[if_neg Bool.false_ne_true]
  exact wpAny_execs_nil ⟨σ1,H2,I2,q2⟩
end
structure It where
 go:Nat→Hp→Prop
 yld:Nat→Hp→V→Hp→Prop
 stop:Nat→Hp→Prop
def FpOk(X:Cx)(pins:List (Addr×Obj))(H:Hp)(b:Addr):Prop:=
 H b=none∧b≠X.env.locals∧b∉X.fs∧(b∈X.ex∨X.s₀.heap.objs.size≤b)∧(∀ x c,X.env.cells.lookup x=some c→c≠b)∧∀ p∈X.pn++pins,p.1≠b
theorem Inv.fpOk{X:Cx}{pins:List (Addr×Obj)}{σ:St}{H H':Hp}{s:Shared}{b:Addr}(I:Inv X pins σ H s)(hb:s.heap.objs.size≤b)(hn:H' b=none):FpOk X pins H' b:=by
 refine⟨hn,Nat.ne_of_gt (Nat.lt_of_lt_of_le I.lt hb),I.nofs hb, .inr (Nat.le_trans I.sz hb),fun x c e z=>?_,fun p hp z=>?_⟩
 ·obtain⟨v,q⟩:=I.cell x c e
  exact absurd (Nat.lt_of_lt_of_le q.lt (by rw[z];exact hb)) (Nat.lt_irrefl _)
 ·exact absurd (Nat.lt_of_lt_of_le (Heap.lt_size (I.pin p hp).1) (by rw[z];exact hb)) (Nat.lt_irrefl _)
structure Turn (P:Program) (w:World) (K:PySem.W.Frag) (tg:Expr) (J:It) (fp:List Addr) (it:Addr) (tn:Nat→Heap→Prop):Prop where
 mem:it∈fp
 obj:∀ i h,tn i h→∀ b∈fp,∃ o,h.get? b=some o∧∀ v,o.data≠.cell v
 keep:∀ i h h',tn i h→(∀ b∈fp,∀ o,h.get? b=some o→h'.get? b=some o)→tn i h'
 item:∀ (X:Cx),X.prog=P→X.w=w→X.K=K→X.calm=true→∀ (i:Nat) (pins:List (Addr×Obj)) (s:Shared) (σ:St) (H:Hp) (E:Value→Shared→Prop),Inv X pins σ H s→(∀ b∈fp,FpOk X pins H b)→tn i s.heap→J.go i H→
  wpAny (model P w) X.A (pyNext (.ref it)) (fun r s1=>∃ u,r=some u∧
   wpAny (model P w) X.A (letOwnedTupleGo tg (.ref it) u) (fun _ s2=>∃ x H',Inv X pins σ H' s2∧RelV x u∧J.yld i H x H'∧tn (i+1) s2.heap∧∀ b∈fp,H' b=none) E s1) E s
 done:∀ (X:Cx),X.prog=P→X.w=w→X.K=K→X.calm=true→∀ (i:Nat) (pins:List (Addr×Obj)) (s:Shared) (σ:St) (H:Hp) (E:Value→Shared→Prop),Inv X pins σ H s→(∀ b∈fp,FpOk X pins H b)→tn i s.heap→J.stop i H→
  wpAny (model P w) X.A (pyNext (.ref it)) (fun r s1=>r=none∧Inv X pins σ H s1) E s
 self:∀ (A:Around) (i:Nat) (s:Shared) (Q:Value→Shared→Prop) (E:Value→Shared→Prop),tn i s.heap→Q (.ref it) s→wpAny (model P w) A (pyIter (.ref it)) Q E s
abbrev TI:=St→Hp→(It→Hp→Prop)→Prop
def PIE(X:Cx)(pins:List (Addr×Obj))(σ:St)(tg:Expr)(R:It→Hp→Prop)(itv:Value)(s2:Shared):Prop:=
 ∃ (it:Addr) (fp:List Addr) (tn:Nat→Heap→Prop) (J:It) (H':Hp),itv=.ref it∧Inv X pins σ H' s2∧Turn X.prog X.w X.K tg J fp it tn∧tn 0 s2.heap∧(∀ b∈fp,FpOk X pins H' b)∧R J H'
def PI(X:Cx)(tg iter:Expr)(wi:TI):Prop:=
 ∀ (pins:List (Addr×Obj)) (s:Shared) (σ:St) (H:Hp) (R:It→Hp→Prop),Inv X pins σ H s→wi σ H R→
  wpAny (model X.prog X.w) X.A (eval iter X.env) (fun v s1=>wpAny (model X.prog X.w) X.A (pyIter v) (PIE X pins σ tg R) X.xe s1) X.xe s
theorem uQ{M:Model}{A:Around}{E:Value→Shared→Prop}{s:Shared}{tg:Expr}{it:Addr}{u:Value}{o:Obj}{n:String}{vs:Array Value}{Q:Unit→Shared→Prop}(ho:s.heap.get? it=some o)(hc:o.cls=.type n)(hd:o.data=.fields vs)
  (hn:["enumerate","zip","dict_itemiterator","dict_reverseitemiterator","odict_iterator","itertools.zip_longest","itertools.pairwise"].contains n=false)(hQ:Q () s):wpAny M A (letOwnedTupleGo tg (.ref it) u) Q E s:=by
 unfold letOwnedTupleGo
 cases tg<;>first
  |exact wpAny_pure hQ
  |(cases u<;>first
    |exact wpAny_pure hQ
    |(refine wpAny_bind (wpAny_load ho ?_)
      rw[hc,hd]
      show wpAny M A (if(["enumerate","zip","dict_itemiterator","dict_reverseitemiterator","odict_iterator","itertools.zip_longest","itertools.pairwise"].contains n&&vs[0]?==some (rawInt _))=true then _ else _) Q E s
      rw[if_neg (by intro h;rw[hn,Bool.false_and] at h;cases h)]
      exact wpAny_pure hQ))
def Itl(K:PySem.W.Frag)(a:Addr):It:=
 ⟨fun i H=>∃ xs x,SqL K H a xs∧xs[i]?=some x,fun i H x H'=>H'=H∧∀ xs,SqL K H a xs→xs[i]?=some x,fun i H=>∃ xs,SqL K H a xs∧xs.length≤i⟩
def Itt(K:PySem.W.Frag)(a:Addr):It:=
 ⟨fun i H=>∃ xs x,SqT K H a xs∧xs[i]?=some x,fun i H x H'=>H'=H∧∀ xs,SqT K H a xs→xs[i]?=some x,fun i H=>∃ xs,SqT K H a xs∧xs.length≤i⟩
def Itr(lo:Int)(n:Nat):It:=⟨fun i _=>i<n,fun i H x H'=>H'=H∧x=.int (lo+i),fun i _=>n≤i⟩
theorem zH{P:Program}{w:World}{K:PySem.W.Frag}{tg:Expr}(a it:Addr):Turn P w K tg (Itl K a) [it] it (fun i h=>h.IsListIter it a i) where
 mem:=by simp
 obj:=fun i h st b hb=>by
  have e:b=it:=by simpa using hb
  subst e
  obtain⟨o,e,c,d⟩:=st
  exact⟨o,e,fun v z=>by rw[d] at z;cases z⟩
 keep:=fun i h h' st k=>st.at fun o e=>k it (by simp) o e
 item:=by
  intro X hP hw hK hc i pins s σ H E I hf st hg
  subst hP hw hK
  obtain⟨xs,x,hq,hx⟩:=hg
  obtain⟨its,rv,p,hz⟩:=I.list hq
  obtain⟨u,hu,ru⟩:=rv.get hx
  obtain⟨f0,f1,f2,f3,f4,f5⟩:=hf it (by simp)
  refine wpAny_pyNext_list_item st p.isList (x:=u) (by simpa using hu) fun h' st' sb=>?_
  have I1:Inv X pins σ H { s with heap:=h' }:=I.turned (t':=s.toks) (fun b o hb e=>(sb.2 b hb).trans e) f0 f1 f3 f4 f5
  obtain⟨o,e,c,d⟩:=id st'
  exact⟨u,rfl,uQ (s:={ s with heap:=h' }) e c d (by decide) ⟨x,H,I1,ru,⟨rfl,fun ys hy=>by rw[I.list_inj hy hq];exact hx⟩,st',fun b hb=>(hf b hb).1⟩⟩
 done:=by
  intro X hP hw hK hc i pins s σ H E I hf st hg
  subst hP hw hK
  obtain⟨xs,hq,hx⟩:=hg
  obtain⟨its,rv,p,hz⟩:=I.list hq
  obtain⟨f0,f1,f2,f3,f4,f5⟩:=hf it (by simp)
  have hl:=rv.length
  exact wpAny_pyNext_list_end (I.ok.hd hc) st p.isList (by simp;omega) fun h' eb=>⟨rfl,I.turned (t':=s.toks) (fun b o hb e=>eb b o hb e) f0 f1 f3 f4 f5⟩
 self:=fun _ _ _ _ _ st h=>wpAny_pyIter_listiter st h
theorem vY{P:Program}{w:World}{K:PySem.W.Frag}{tg:Expr}(a it:Addr):Turn P w K tg (Itt K a) [it] it (fun i h=>h.IsTupleIter it a i) where
 mem:=by simp
 obj:=fun i h st b hb=>by
  have e:b=it:=by simpa using hb
  subst e
  obtain⟨o,e,c,d⟩:=st
  exact⟨o,e,fun v z=>by rw[d] at z;cases z⟩
 keep:=fun i h h' st k=>st.at fun o e=>k it (by simp) o e
 item:=by
  intro X hP hw hK hc i pins s σ H E I hf st hg
  subst hP hw hK
  obtain⟨xs,x,hq,hx⟩:=hg
  obtain⟨its,rv,p,hz⟩:=I.tuple hq
  obtain⟨u,hu,ru⟩:=rv.get hx
  obtain⟨f0,f1,f2,f3,f4,f5⟩:=hf it (by simp)
  refine wpAny_pyNext_tuple_item st (show s.heap.IsTuple a its.toArray from p) (x:=u) (by simpa using hu) fun h' st' sb=>?_
  have I1:Inv X pins σ H { s with heap:=h' }:=I.turned (t':=s.toks) (fun b o hb e=>(sb.2 b hb).trans e) f0 f1 f3 f4 f5
  obtain⟨o,e,c,d⟩:=id st'
  exact⟨u,rfl,uQ (s:={ s with heap:=h' }) e c d (by decide) ⟨x,H,I1,ru,⟨rfl,fun ys hy=>by rw[I.tuple_inj hy hq];exact hx⟩,st',fun b hb=>(hf b hb).1⟩⟩
 done:=by
  intro X hP hw hK hc i pins s σ H E I hf st hg
  subst hP hw hK
  obtain⟨xs,hq,hx⟩:=hg
  obtain⟨its,rv,p,hz⟩:=I.tuple hq
  obtain⟨f0,f1,f2,f3,f4,f5⟩:=hf it (by simp)
  have hl:=rv.length
  exact wpAny_pyNext_tuple_end (I.ok.hd hc) st (show s.heap.IsTuple a its.toArray from p) (by simp;omega) fun h' eb=>⟨rfl,I.turned (t':=s.toks) (fun b o hb e=>eb b o hb e) f0 f1 f3 f4 f5⟩
 self:=fun _ _ _ _ _ st h=>wpAny_pyIter_tupleiter st h
theorem vZ{P:Program}{w:World}{K:PySem.W.Frag}{tg:Expr}(it:Addr)(lo:Int)(n:Nat):Turn P w K tg (Itr lo n) [it] it (fun i h=>IsRangeIter h it (lo+(i:Nat) * 1) ((n:Int) - (i:Nat)) 1) where
 mem:=by simp
 obj:=fun i h st b hb=>by
  have e:b=it:=by simpa using hb
  subst e
  exact⟨_,st,fun v z=>by
   have z':Data.fields _=Data.cell v:=z
   cases z'⟩
 keep:=fun i h h' st k=>k it (by simp) _ st
 item:=by
  intro X hP hw hK hc i pins s σ H E I hf st hg
  subst hP hw hK
  obtain⟨f0,f1,f2,f3,f4,f5⟩:=hf it (by simp)
  have W:=Walks.range (prog:=X.prog) (w:=X.w) (I.ok.hd hc) it lo 1 n
  refine W.item i s _ _ hg st fun v h' tk hv st' kk=>?_
  obtain⟨t,rfl⟩:=hv
  have I1:Inv X pins σ H { s with heap:=h',toks:=tk }:=I.turned (fun b o hb e=>kk b o (by simpa using hb) e) f0 f1 f3 f4 f5
  refine⟨_,rfl,uQ (s:={ s with heap:=h',toks:=tk }) (n:="range_iterator") st' rfl rfl (by decide) ⟨.int (lo+i),H,I1,⟨t,?_⟩,⟨rfl,rfl⟩,st',fun b hb=>(hf b hb).1⟩⟩
  rw[Int.mul_one]
 done:=by
  intro X hP hw hK hc i pins s σ H E I hf st hg
  subst hP hw hK
  obtain⟨f0,f1,f2,f3,f4,f5⟩:=hf it (by simp)
  exact wpAny_pyNext_range_end (I.ok.hd hc) st (by have:n≤i:=hg;omega) fun h' eb=>⟨rfl,I.turned (t':=s.toks) (fun b o hb e=>eb b o hb e) f0 f1 f3 f4 f5⟩
 self:=fun _ _ _ _ _ st h=>wpAny_pyIter_rangeiter st h
end L2
namespace L2
open PySem PySem.Spec PyProof.Rows
section
variable{X:Cx}{tg:Expr}
def iList(K:PySem.W.Frag)(tl:TE):TI:=fun σ H R=>tl σ H fun x H1=>∃ a,x=.ref a∧(∃ xs,SqL K H1 a xs)∧R (Itl K a) H1
def iTup(K:PySem.W.Frag)(tl:TE):TI:=fun σ H R=>tl σ H fun x H1=>∃ a,x=.ref a∧(∃ xs,SqT K H1 a xs)∧R (Itt K a) H1
theorem aCs{l:Expr}{tl:TE}(hl:PE X l tl):PI X tg l (iList X.K tl):=by
 intro pins s σ H R I h
 refine thn (hl pins s σ H _ I h) fun v s1 ⟨x,H1,I1,r1,q1⟩=>?_
 obtain⟨a,e,⟨xs,hq⟩,q⟩:=q1
 subst e
 cases r1
 obtain⟨its,rv,p,hz⟩:=I1.list hq
 refine wpAny_pyIter_list p.isList ?_
 refine⟨s1.heap.objs.size,[s1.heap.objs.size],_,_,H1,rfl,I1.kept (t':=s1.toks) fun b o e=>Heap.get?_push_of_some _ e,zH a _,⟨_,Heap.get?_push_size _ rfl,rfl,rfl⟩,fun b hb=>?_,q⟩
 have e:b=s1.heap.objs.size:=by simpa using hb
 subst e
 exact I1.fpOk (Nat.le_refl _) (I1.hok.fresh (Nat.le_refl _))
theorem aEm{l:Expr}{tl:TE}(hl:PE X l tl):PI X tg l (iTup X.K tl):=by
 intro pins s σ H R I h
 refine thn (hl pins s σ H _ I h) fun v s1 ⟨x,H1,I1,r1,q1⟩=>?_
 obtain⟨a,e,⟨xs,hq⟩,q⟩:=q1
 subst e
 cases r1
 obtain⟨its,rv,p,hz⟩:=I1.tuple hq
 refine wpAny_pyIter_tuple (show s1.heap.IsTuple a its.toArray from p) ?_
 refine⟨s1.heap.objs.size,[s1.heap.objs.size],_,_,H1,rfl,I1.kept (t':=s1.toks) fun b o e=>Heap.get?_push_of_some _ e,vY a _,⟨_,Heap.get?_push_size _ rfl,rfl,rfl⟩,fun b hb=>?_,q⟩
 have e:b=s1.heap.objs.size:=by simpa using hb
 subst e
 exact I1.fpOk (Nat.le_refl _) (I1.hok.fresh (Nat.le_refl _))
theorem aAC{pins:List (Addr×Obj)}{σ:St}{H:Hp}{s:Shared}{R:It→Hp→Prop}{E:Value→Shared→Prop}{lo hi:Int}{t u v:Tok}{tk:Nat}(I:Inv X pins σ H s)(h1:-(2 ^ 62)≤lo)(h2:lo<2 ^ 62)(h3:-(2 ^ 62)≤hi)(h4:hi<2 ^ 62)
  (q:R (Itr lo (hi - lo).toNat) H):wpAny (model X.prog X.w) X.A (pyIter (.ref s.heap.objs.size)) (PIE X pins σ tg R) E { s with heap:=s.heap.push { cls:=.type "range",data:=.fields #[.int lo t, .int hi u, .int 1 v] },toks:=tk }:=by
 refine wpAny_pyIter_range (IsRange.new ..) (small_one h1 h2 h3 h4) ?_
 have I1:Inv X pins σ H { s with heap:=s.heap.push { cls:=.type "range",data:=.fields #[.int lo t, .int hi u, .int 1 v] },toks:=tk }:=I.kept fun b o e=>Heap.get?_push_of_some _ e
 refine⟨(s.heap.push { cls:=.type "range",data:=.fields #[.int lo t, .int hi u, .int 1 v] }).objs.size,[(s.heap.push { cls:=.type "range",data:=.fields #[.int lo t, .int hi u, .int 1 v] }).objs.size],_,_,H,rfl,
  I1.kept (t':=tk) fun b o e=>Heap.get?_push_of_some _ e,vZ _ lo (hi - lo).toNat,?_,fun b hb=>?_,q⟩
 ·have e1:lo+((0:Nat):Int) * 1=lo:=by simp
  have e2:(((hi - lo).toNat:Nat):Int) - ((0:Nat):Int)=Builtin.Range.rangeSize lo hi 1:=by rw[rangeSize_one];split<;>omega
  show IsRangeIter _ _ (lo+((0:Nat):Int) * 1) ((((hi - lo).toNat:Nat):Int) - ((0:Nat):Int)) 1
  rw[e1,e2]
  exact Heap.get?_push_size _ rfl
 ·have e:b=(s.heap.push { cls:=.type "range",data:=.fields #[.int lo t, .int hi u, .int 1 v] }).objs.size:=by simpa using hb
  subst e
  exact I1.fpOk (Nat.le_refl _) (I1.hok.fresh (Nat.le_refl _))
def iRng1(ta:TA):TI:=fun σ H R=>ta σ H fun vs H1=>∃ j:Int,vs=[.int j]∧-(2 ^ 62)≤j∧j<2 ^ 62∧R (Itr 0 j.toNat) H1
theorem zI{a:Expr}{ta:TA}{p pos:Pos}(hg:Gl X "range")(hm:X.mg "range"=none)(ha:PA X [a] ta)(hs:starEach [a] X.env=[(false,eval a X.env)]:=by rfl):PI X tg (.Call (.Name "range" p) [a] [] pos) (iRng1 ta):=by
 intro pins s σ H R I h
 refine Call_ (kR I hg hm boot_range (PyProof.Rows.callWith_type1 (thn (ha pos pins s σ H _ I h) fun us s1 ⟨vs,H1,I1,r1,q1⟩=>?_) hs rfl))
 obtain⟨j,e,q1,q2,q⟩:=q1
 subst e
 cases r1 with
 |cons r rr=>
  cases rr
  obtain⟨t,rfl⟩:=r
  exact call_range_1 (aAC I1 (by omega) (by omega) q1 q2 (by simpa using q))
def tFor(wi:TI)(g:TG)(tb:TS):TS:=fun D σ H=>wi σ H fun J H1=>∃ W:Nat→Nat→St→Hp→Prop,(∃ m,W 0 m σ H1)∧∀ i m σ H,W i m σ H→
 (J.stop i H∧D.nx σ H)∨(J.go i H∧∃ N:St→Hp→Prop,(∀ σ' H',N σ' H'→∃ m',m'<m∧W (i+1) m' σ' H')∧∀ x H',J.yld i H x H'→g x σ H' fun σ2 H2=>tb { D with nx:=N,ct:=N,bk:=D.nx } σ2 H2)
def pinsAt(fp:List Addr)(h:Heap):List (Addr×Obj):=fp.filterMap fun b=>(h.get? b).map fun o=>(b,o)
theorem gI{fp:List Addr}{h:Heap}{b:Addr}{o:Obj}(hb:b∈fp)(e:h.get? b=some o):(b,o)∈pinsAt fp h:=List.mem_filterMap.mpr ⟨b,hb,by rw[e];rfl⟩
theorem zJ{fp:List Addr}{h:Heap}{p:Addr×Obj}(hp:p∈pinsAt fp h):p.1∈fp∧h.get? p.1=some p.2:=by
 obtain⟨b,hb,e⟩:=List.mem_filterMap.mp hp
 cases q:h.get? b with
 |none=>rw[q] at e;cases e
 |some o=>
  rw[q] at e
  have e':(b,o)=p:=Option.some.inj e
  subst e'
  exact⟨hb,q⟩
theorem Inv.pinned{pins:List (Addr×Obj)}{σ:St}{H:Hp}{s:Shared}{fp:List Addr}(I:Inv X pins σ H s)(hf:∀ b∈fp,FpOk X pins H b)(ho:∀ b∈fp,∃ o,s.heap.get? b=some o∧∀ v,o.data≠.cell v):Inv X (pins++pinsAt fp s.heap) σ H s:=
 I.pins_of fun p hp=>(List.mem_append.mp hp).elim (fun z=>I.pin p (List.mem_append_right _ z)) fun z=>by
  obtain⟨hb,e⟩:=zJ z
  obtain⟨f0,f1,f2,_⟩:=hf p.1 hb
  obtain⟨o,e',d⟩:=ho p.1 hb
  rw[e] at e';cases e'
  exact⟨e,f0,f1,f2,d⟩
theorem Inv.unpinned{pins pl:List (Addr×Obj)}{σ:St}{H:Hp}{s:Shared}(I:Inv X (pins++pl) σ H s):Inv X pins σ H s:=I.pins_of fun p hp=>I.pin p (List.mem_append_right _ (List.mem_append_left _ hp))
theorem aEn{iter:Expr}{body:List Stmt}{wi:TI}{g:TG}{tb:TS}{pos:Pos}(hp:PassesOwn (model X.prog X.w) X.A X.env X.xe)(hc:X.calm=true)(hi:PI X tg iter wi)(hg:PG X tg g)(hb:PSs X body tb)
  (hs:∀ x,foldedSetIterable iter X.env x=pure x:=by intro _;rfl):PS X (.For tg iter body [] pos) (tFor wi g tb):=by
 intro pins s σ H D I h
 refine wpAny_For (thn (hi pins s σ H _ I h) fun v s1 h1=>thn h1 fun itv s2 h2=>?_) hs
 obtain⟨it,fp,tn,J,H2,e,I2,T,st2,f2,W,⟨m0,w0⟩,turn⟩:=h2
 subst e
 have stat:∀ {H':Hp},(∀ b∈fp,H' b=none)→∀ b∈fp,FpOk X pins H' b:=fun hn b hb=>⟨hn b hb,(f2 b hb).2⟩
 refine codeAny_forLoop_any (fun n s'=>∃ i σ' H',Inv X pins σ' H' s'∧tn i s'.heap∧(∀ b∈fp,H' b=none)∧W i n σ' H') ?_ m0 ⟨0,σ,H2,I2,st2,fun b hb=>(f2 b hb).1,w0⟩
 rintro n s3 ⟨i,σ3,H3,I3,st3,fr3,w3⟩
 rcases turn i n σ3 H3 w3 with⟨stop,qn⟩|⟨go,N,hN,step⟩
 ·refine wpAny_passesOwn hp (thn (T.done X rfl rfl rfl hc i pins s3 σ3 H3 X.xe I3 (stat fr3) st3 stop) fun r s4 ⟨hr,I4⟩=>?_)
  subst hr
  exact wpAny_execs_nil ⟨σ3,H3,I4,qn⟩
 ·refine wpAny_passesOwn hp (thn (T.item X rfl rfl rfl hc i pins s3 σ3 H3 X.xe I3 (stat fr3) st3 go) fun r s4 ⟨u,hr,h4⟩=>?_)
  subst hr
  refine wpAny_passesOwn hp (thn h4 fun _ s5 ⟨x,H5,I5,r5,y5,st5,fr5⟩=>?_)
  have I5':=I5.pinned (stat fr5) (T.obj _ _ st5)
  refine wpAny_passesOwn hp (thn (hg _ s5 σ3 H5 x u _ I5' r5 (step x H5 y5)) fun _ s6 ⟨σ6,H6,I6,q6⟩=>?_)
  refine wpAny_passesOwn hp (thn (hb _ s6 σ6 H6 _ I6 q6) fun f s7 q7=>?_)
  have again:∀ {σ7:St} {H7:Hp},Inv X (pins++pinsAt fp s5.heap) σ7 H7 s7→N σ7 H7→∃ m,m<n∧∃ i σ' H',Inv X pins σ' H' s7∧tn i s7.heap∧(∀ b∈fp,H' b=none)∧W i m σ' H':=fun {σ7 H7} I7 n7=>by
   obtain⟨m',hm,w7⟩:=hN σ7 H7 n7
   refine⟨m',hm,i+1,σ7,H7,I7.unpinned,T.keep _ _ _ st5 fun b hb o e=>(I7.pin (b,o) (List.mem_append_right _ (List.mem_append_right _ (gI hb e)))).1,fun b hb=>?_,w7⟩
   obtain⟨o,e,d⟩:=T.obj _ _ st5 b hb
   exact(I7.pin (b,o) (List.mem_append_right _ (List.mem_append_right _ (gI hb e)))).2.1
  cases f with
  |next=>obtain⟨σ7,H7,I7,n7⟩:=q7;exact again I7 n7
  |cont=>obtain⟨σ7,H7,I7,n7⟩:=q7;exact again I7 n7
  |brk=>obtain⟨σ7,H7,I7,q7⟩:=q7;exact⟨σ7,H7,I7.unpinned,q7⟩
  |ret v=>obtain⟨x7,σ7,H7,I7,r7,q7⟩:=q7;exact⟨x7,σ7,H7,I7.unpinned,r7,q7⟩
end
end L2
namespace L2
open PySem PySem.Spec PyProof.Rows
abbrev R2:=V→V→Hp→VK→Prop
def OpR(X:Cx)(f:Value→Value→Sem Value)(r:R2):Prop:=
 ∀ (pins:List (Addr×Obj)) (s:Shared) (σ:St) (H:Hp) (x y:V) (v u:Value) (Q:VK),Inv X pins σ H s→RelV x v→RelV y u→r x y H Q→
  wpAny (model X.prog X.w) X.A (f v u) (EP X pins σ Q) X.xe s
def UnR(X:Cx)(f:Value→Sem Value)(r:V→Hp→VK→Prop):Prop:=
 ∀ (pins:List (Addr×Obj)) (s:Shared) (σ:St) (H:Hp) (x:V) (v:Value) (Q:VK),Inv X pins σ H s→RelV x v→r x H Q→
  wpAny (model X.prog X.w) X.A (f v) (EP X pins σ Q) X.xe s
def CallR(X:Cx)(f:Value)(r:List V→Hp→VK→Prop):Prop:=
 ∀ (pins:List (Addr×Obj)) (s:Shared) (σ:St) (H:Hp) (xs:List V) (us:List Value) (Q:VK),Inv X pins σ H s→Vals xs us→r xs H Q→
  wpAny (model X.prog X.w) X.A (call f us) (EP X pins σ Q) X.xe s
def TruR(X:Cx)(r:V→Hp→(Bool→Hp→Prop)→Prop):Prop:=
 ∀ (pins:List (Addr×Obj)) (s:Shared) (σ:St) (H:Hp) (x:V) (v:Value) (Q:Bool→Hp→Prop),Inv X pins σ H s→RelV x v→r x H Q→
  wpAny (model X.prog X.w) X.A (truthy v) (TP X pins σ Q) X.xe s
def tOp(r:R2)(ta tb:TE):TE:=fun σ H Q=>ta σ H fun x H1=>tb σ H1 fun y H2=>r x y H2 Q
def tUn(r:V→Hp→VK→Prop)(ta:TE):TE:=fun σ H Q=>ta σ H fun x H1=>r x H1 Q
def rI(C:Int→Int→Prop)(g:Int→Int→V):R2:=fun x y H Q=>∃ i j,x=.int i∧y=.int j∧C i j∧Q (g i j) H
def rI0(g:Int→Int→V):R2:=fun x y H Q=>∃ i j,x=.int i∧y=.int j∧Q (g i j) H
def rU(g:Int→V):V→Hp→VK→Prop:=fun x H Q=>∃ i,x=.int i∧Q (g i) H
section
variable{X:Cx}{a b c:Expr}{ta tb tc:TE}{pos:Pos}
theorem binT(ha:PE X a ta)(hb:PE X b tb){pins:List (Addr×Obj)}{s:Shared}{σ:St}{H:Hp}{R:V→V→Hp→Prop}(I:Inv X pins σ H s)
  (h:ta σ H fun x H1=>tb σ H1 fun y H2=>R x y H2){Q:Value→Shared→Prop}{f:Value→Value→Sem Value}
  (hf:∀ v u s2 x y H2,Inv X pins σ H2 s2→RelV x v→RelV y u→R x y H2→wpAny (model X.prog X.w) X.A (f v u) Q X.xe s2):
  wpAny (model X.prog X.w) X.A (eval a X.env) (fun v s₁=>wpAny (model X.prog X.w) X.A (eval b X.env) (fun u s₂=>wpAny (model X.prog X.w) X.A (f v u) Q X.xe s₂) X.xe s₁) X.xe s:=by
 refine thn (ha pins s σ H _ I h) fun v s1 ⟨x,H1,I1,r1,q1⟩=>?_
 refine thn (hb pins s1 σ H1 _ I1 q1) fun u s2 ⟨y,H2,I2,r2,q2⟩=>?_
 exact hf v u s2 x y H2 I2 r1 r2 q2
theorem aFY{op:Operator}{r:R2}(ho:OpR X (binaryOp op) r)(ha:PE X a ta)(hb:PE X b tb):PE X (.BinOp a op b pos) (tOp r ta tb):=by
 intro pins s σ H Q I h
 exact wpAny_BinOp (binT ha hb I h fun v u s2 x y H2 I2 rx ry q=>ho pins s2 σ H2 x y v u Q I2 rx ry q)
theorem aFZ{op:UnaryOp}{r:V→Hp→VK→Prop}(ho:UnR X (unaryOp op) r)(ha:PE X a ta):PE X (.UnaryOp op a pos) (tUn r ta):=by
 intro pins s σ H Q I h
 exact UnaryOp_ (thn (ha pins s σ H _ I h) fun v s1 ⟨x,H1,I1,r1,q1⟩=>ho pins s1 σ H1 x v Q I1 r1 q1)
theorem opI{f:Value→Value→Sem Value}{C:Int→Int→Prop}{g:Int→Int→Int}
  (rule:∀ (i j:Int) (t u:Tok) (s:Shared) (Q:Value→Shared→Prop) (E:Value→Shared→Prop),C i j→Q (.int (g i j) s.toks) { s with toks:=s.toks+1 }→wpAny (model X.prog X.w) X.A (f (.int i t) (.int j u)) Q E s):
  OpR X f (rI C fun i j=>.int (g i j)):=by
 intro pins s σ H x y v u Q I rx ry h
 obtain⟨i,j,rfl,rfl,hc,q⟩:=h
 obtain⟨t,rfl⟩:=rx
 obtain⟨t',rfl⟩:=ry
 exact rule i j t t' s _ _ hc ⟨.int (g i j),H,I.tok _,⟨_,rfl⟩,q⟩
theorem opI0{f:Value→Value→Sem Value}{g:Int→Int→Int}
  (rule:∀ (i j:Int) (t u:Tok) (s:Shared) (Q:Value→Shared→Prop) (E:Value→Shared→Prop),Q (.int (g i j) s.toks) { s with toks:=s.toks+1 }→wpAny (model X.prog X.w) X.A (f (.int i t) (.int j u)) Q E s):
  OpR X f (rI0 fun i j=>.int (g i j)):=by
 intro pins s σ H x y v u Q I rx ry h
 obtain⟨i,j,rfl,rfl,q⟩:=h
 obtain⟨t,rfl⟩:=rx
 obtain⟨t',rfl⟩:=ry
 exact rule i j t t' s _ _ ⟨.int (g i j),H,I.tok _,⟨_,rfl⟩,q⟩
theorem opB0{f:Value→Value→Sem Value}{g:Int→Int→Bool}
  (rule:∀ (i j:Int) (t u:Tok) (s:Shared) (Q:Value→Shared→Prop) (E:Value→Shared→Prop),Q (.bool (g i j)) s→wpAny (model X.prog X.w) X.A (f (.int i t) (.int j u)) Q E s):
  OpR X f (rI0 fun i j=>.bl (g i j)):=by
 intro pins s σ H x y v u Q I rx ry h
 obtain⟨i,j,rfl,rfl,q⟩:=h
 obtain⟨t,rfl⟩:=rx
 obtain⟨t',rfl⟩:=ry
 exact rule i j t t' s _ _ ⟨.bl (g i j),H,I,rfl,q⟩
def CDiv(i j:Int):Prop:=0<j∧j<1073741824
def CPow(i j:Int):Prop:=0≤j∧j≤1000000∧i.natAbs<2 ^ 64
def CMul(i j:Int):Prop:=(-(2 ^ 64)<i∧i<2 ^ 64)∨(-(2 ^ 64)<j∧j<2 ^ 64)
theorem CMul.ok{i j:Int}(h:CMul i j):IntMulOk i j:=by
 rcases h with⟨h1,h2⟩|⟨h1,h2⟩
 ·exact .of_left (intBits_le_64 h1 h2)
 ·exact .of_right (intBits_le_64 h1 h2)
theorem aEo:OpR X (binaryOp .Add) (rI0 fun i j=>.int (i+j)):=opI0 fun _ _ _ _ _ _ _ q=>add_int q
theorem aEp:OpR X (binaryOp .Sub) (rI0 fun i j=>.int (i - j)):=opI0 fun _ _ _ _ _ _ _ q=>sub_int q
theorem aEq:OpR X (binaryOp .Mult) (rI CMul fun i j=>.int (i * j)):=opI fun _ _ _ _ _ _ _ hc q=>mul_int q hc.ok
theorem aCt:OpR X (binaryOp .FloorDiv) (rI CDiv fun i j=>.int (i / j)):=opI fun i j _ _ _ _ _ hc q=>by
 have h1:(0:Int)<j:=hc.1
 have h2:j<1073741824:=hc.2
 exact floordiv_int (by omega) (by rw[Int.fdiv_eq_ediv_of_nonneg i (by omega)];exact q) (.inl (PyProof.noPylong_small (by omega)))
theorem aEr:OpR X (binaryOp .Mod) (rI (fun _ j=>0<j) fun i j=>.int (i % j)):=opI fun i j _ _ _ _ _ hc q=>by
 have h1:(0:Int)<j:=hc
 exact mod_int' (by omega) (by rw[Int.fmod_eq_emod_of_nonneg i (by omega)];exact q)
theorem aEs:OpR X (binaryOp .Pow) (rI CPow fun i j=>.int (i ^ j.toNat)):=opI fun _ _ _ _ _ _ _ hc q=>pow_int_small hc.1 hc.2.1 hc.2.2 q
theorem unI{f:Value→Sem Value}{g:Int→Int}
  (rule:∀ (i:Int) (t:Tok) (s:Shared) (Q:Value→Shared→Prop) (E:Value→Shared→Prop),Q (.int (g i) s.toks) { s with toks:=s.toks+1 }→wpAny (model X.prog X.w) X.A (f (.int i t)) Q E s):
  UnR X f (rU fun i=>.int (g i)):=by
 intro pins s σ H x v Q I rx h
 obtain⟨i,rfl,q⟩:=h
 obtain⟨t,rfl⟩:=rx
 exact rule i t s _ _ ⟨.int (g i),H,I.tok _,⟨_,rfl⟩,q⟩
theorem aEt:UnR X (unaryOp .USub) (rU fun i=>.int (-i)):=unI fun _ _ _ _ _ q=>neg_int q
end
section
variable{X:Cx}{a b c:Expr}{ta tb tc:TE}{pos:Pos}
theorem aAD{pins:List (Addr×Obj)}{σ:St}{H:Hp}{s:Shared}{Q:VK}{k k':Bool}(I:Inv X pins σ H s)(q:Q (.bl k) H)(e:k=k'):EP X pins σ Q (.bool k') s:=by
 subst e
 exact⟨.bl k,H,I,rfl,q⟩
theorem aGa:OpR X (compareOp .Lt) (rI0 fun i j=>.bl (decide (i<j))):=opB0 fun _ _ _ _ _ _ _ q=>lt_int q
theorem aGb:OpR X (compareOp .LtE) (rI0 fun i j=>.bl (decide (i≤j))):=opB0 fun _ _ _ _ _ _ _ q=>le_int q
theorem aGc:OpR X (compareOp .Gt) (rI0 fun i j=>.bl (decide (j<i))):=opB0 fun _ _ _ _ _ _ _ q=>gt_int q
theorem zK:OpR X (compareOp .In) (fun x y H Q=>∃ i j,x=.str i∧y=.str j∧Q (.bl (!(Builtin.Str.occurrences j i 0 j.length 1).isEmpty)) H):=by
 intro pins s σ H x y v u Q I rx ry h
 obtain⟨i,j,rfl,rfl,q⟩:=h
 obtain⟨t,rfl⟩:=rx
 obtain⟨t',rfl⟩:=ry
 exact in_str (aAD I q rfl)
theorem aCu:OpR X (compareOp .IsNot) (fun x y H Q=>y=.non∧Q (.bl (!decide (x=.non))) H):=by
 intro pins s σ H x y v u Q I rx ry h
 obtain⟨rfl,q⟩:=h
 cases ry
 refine isnot_none_gen (aAD I q ?_)
 cases x<;>first
  |(cases rx;rfl)
  |(obtain⟨t,rfl⟩:=rx;rfl)
theorem OpR.or{f:Value→Value→Sem Value}{r r':R2}(h:OpR X f r)(h':OpR X f r'):OpR X f (fun x y H Q=>r x y H Q∨r' x y H Q):=by
 intro pins s σ H x y v u Q I rx ry q
 rcases q with q|q
 ·exact h pins s σ H x y v u Q I rx ry q
 ·exact h' pins s σ H x y v u Q I rx ry q
theorem nomark(b:Expr){op:CmpOp}(h:op≠.In:=by decide)(h2:op≠.NotIn:=by decide):behindInMarks op b=false:=by
 have e1:(op==CmpOp.In)=false:=by cases op<;>first|rfl|exact absurd rfl h
 have e2:(op==CmpOp.NotIn)=false:=by cases op<;>first|rfl|exact absurd rfl h2
 cases b<;>simp[behindInMarks,e1,e2]
theorem aCv{op:CmpOp}{r:R2}(ho:OpR X (compareOp op) r)(ha:PE X a ta)(hb:PE X b tb)(hm:behindInMarks op b=false):PE X (.Compare a [op] [b] pos) (tOp r ta tb):=by
 intro pins s σ H Q I h
 exact wpAny_Compare1 (binT ha hb I h fun v u s2 x y H2 I2 rx ry q=>ho pins s2 σ H2 x y v u Q I2 rx ry q) hm
def tTest(t:TE):TT:=fun σ H Q=>t σ H fun x H'=>∃ k,x=.bl k∧Q k H'
theorem aCw{op:CmpOp}{r:R2}(ho:OpR X (compareOp op) r)(ha:PE X a ta)(hb:PE X b tb)(hm:behindInMarks op b=false):PT X (.Compare a [op] [b] pos) (tTest (tOp r ta tb)):=by
 intro pins s σ H Q I h
 refine wpAny_isTrue_Compare1 (thn (ha pins s σ H _ I h) fun v s1 ⟨x,H1,I1,r1,q1⟩=>thn (hb pins s1 σ H1 _ I1 q1) fun u s2 ⟨y,H2,I2,r2,q2⟩=>
  thn (ho pins s2 σ H2 x y v u _ I2 r1 r2 q2) fun c s3 ⟨z,H3,I3,r3,k,e,q3⟩=>?_) hm
 subst e
 cases r3
 exact wpAny_truthy_bool ⟨H3,I3,q3⟩
def TruV(K:PySem.W.Frag)(x:V)(H:Hp)(k:Bool):Prop:=
 match x with
 | .non=>k=false
 | .bl b=>k=b
 | .int i=>k=(i != 0)
 | .str y=>y.length≤sizeLine∧k=((y.length:Int) != 0)
 | .byt y=>y.size≤sizeLine∧k=((y.size:Int) != 0)
 | .ref p=>(∃ xs,SqL K H p xs∧k=!xs.isEmpty)∨(∃ xs,SqT K H p xs∧k=!xs.isEmpty)∨∃ kvs,H p=some (.dK kvs)∧k=!kvs.isEmpty
 |_=>False
theorem wA{κ:Type}{kvs:List (κ×V)}{vs:List (κ×Value)}(r:KV kvs vs):(!vs.isEmpty)=!kvs.isEmpty:=by
 cases r<;>rfl
theorem qF{xs:List V}{its:List Value}(r:Vals xs its):(!its.toArray.isEmpty)=!xs.isEmpty:=by
 cases r<;>simp
theorem line63:(sizeLine:Nat)<2 ^ 63:=by rw[sizeLine_eq];decide
theorem aEu:TruR X (fun x H Q=>∃ k,TruV X.K x H k∧Q k H):=by
 intro pins s σ H x v Q I rx h
 obtain⟨k,e,q⟩:=h
 have hl:=line63
 have hs:sizeLine=16777216:=sizeLine_eq
 cases x with
 |non=>
  cases rx
  have e':k=false:=e
  subst e'
  exact truthy_none ⟨H,I,q⟩
 |bl b=>
  cases rx
  have e':k=b:=e
  subst e'
  exact wpAny_truthy_bool ⟨H,I,q⟩
 |int i=>
  obtain⟨t,rfl⟩:=rx
  have e':k=(i != 0):=e
  subst e'
  exact PySem.P.truthy_int ⟨H,I,q⟩
 |str y=>
  obtain⟨t,rfl⟩:=rx
  obtain⟨hy,e'⟩:y.length≤sizeLine∧k=((y.length:Int) != 0):=e
  subst e'
  exact PySem.P.truthy_str (by omega) ⟨H,I.tok _,q⟩
 |byt y=>
  obtain⟨t,rfl⟩:=rx
  obtain⟨hy,e'⟩:y.size≤sizeLine∧k=((y.size:Int) != 0):=e
  subst e'
  exact PySem.W.truthy_bytes (by omega) ⟨H,I.tok _,q⟩
 |ref p=>
  cases rx
  have e':(∃ xs,SqL X.K H p xs∧k=!xs.isEmpty)∨(∃ xs,SqT X.K H p xs∧k=!xs.isEmpty)∨∃ kvs,H p=some (.dK kvs)∧k=!kvs.isEmpty:=e
  rcases e' with⟨xs,hx,e'⟩|⟨xs,hx,e'⟩|⟨kvs,hx,e'⟩
  ·subst e'
   obtain⟨its,r,pl,hz⟩:=I.list hx
   have hlen:=r.length
   exact wpAny_truthy_list pl.isList (by simp only[List.size_toArray];omega) ⟨H,I.tok _,by rw[qF r];exact q⟩
  ·subst e'
   obtain⟨its,r,pl,hz⟩:=I.tuple hx
   have hlen:=r.length
   exact truthy_tuple pl (by simp only[List.size_toArray];omega) ⟨H,I.tok _,by rw[qF r];exact q⟩
  ·subst e'
   obtain⟨hz,hS,vs,r,m⟩:kvs.length≤sizeLine∧(p==sysModules)=false∧∃ vs,KV kvs vs∧s.heap.DictOf (mixKind X.prog X.w) p vs:=I.hok p _ hx
   have hlen:kvs.length=vs.length:=Paired.length r
   exact wpAny_truthy_dict hS m (by omega) ⟨H,I.tok _,by rw[wA r];exact q⟩
 |_=>exact(show False from e).elim
theorem aAE(ha:PE X a ta)(he:∀ whole,isTrue a X.env whole=(do let v ← whole;standAt a.pos;holding [v] (truthy v))):
  PT X a (fun σ H Q=>ta σ H fun x H'=>∃ k,TruV X.K x H' k∧Q k H'):=by
 intro pins s σ H Q I h
 exact isTrue_plain (thn (ha pins s σ H _ I h) fun v s1 ⟨x,H1,I1,r1,q1⟩=>aEu pins s1 σ H1 x v Q I1 r1 q1) (he _)
theorem wB:OpR X (binaryOp .Add) (fun x y H Q=>∃ i j,x=.str i∧y=.str j∧i.length+j.length≤sizeLine∧Q (.str (i++j)) H):=by
 intro pins s σ H x y v u Q I rx ry h
 obtain⟨i,j,rfl,rfl,hz,q⟩:=h
 obtain⟨t,rfl⟩:=rx
 obtain⟨t',rfl⟩:=ry
 exact add_str (fun t' tk=>⟨.str (i++j),H,I.tok _,⟨_,rfl⟩,q⟩) hz
theorem vals1{x:V}{us:List Value}(r:Vals [x] us):∃ u,us=[u]∧RelV x u:=by
 cases r with
 |cons r1 r2=>cases r2;exact⟨_,rfl,r1⟩
theorem vals2{x y:V}{us:List Value}(r:Vals [x,y] us):∃ u w',us=[u,w']∧RelV x u∧RelV y w':=by
 cases r with
 |cons r1 r2=>
  cases r2 with
  |cons r3 r4=>cases r4;exact⟨_,_,rfl,r1,r3⟩
theorem aAF:CallR X (.builtin "abs") (fun xs H Q=>∃ i,xs=[.int i]∧Q (.int (if i<0 then -i else i)) H):=by
 intro pins s σ H xs us Q I r h
 obtain⟨i,rfl,q⟩:=h
 obtain⟨u,rfl,t,rfl⟩:=vals1 r
 exact call_abs_int fun u tk=>⟨.int (if i<0 then -i else i),H,I.tok _,⟨_,rfl⟩,q⟩
theorem zL(hc:X.calm=true):CallR X (.builtin "min") (fun xs H Q=>∃ i j,xs=[.int i, .int j]∧Q (.int (if j<i then j else i)) H):=by
 intro pins s σ H xs us Q I r h
 obtain⟨i,j,rfl,q⟩:=h
 obtain⟨u,w',rfl,⟨t,rfl⟩,⟨t',rfl⟩⟩:=vals2 r
 refine min_two_ints (I.ok.hd hc) fun h' tk k=>⟨_,H,I.kept k,?_,q⟩
 by_cases hj:j<i
 ·rw[if_pos hj,if_pos hj];exact⟨_,rfl⟩
 ·rw[if_neg hj,if_neg hj];exact⟨_,rfl⟩
theorem zM:CallR X (.type "int") (fun xs H Q=>(∃ i,xs=[.int i]∧Q (.int i) H)∨∃ k,xs=[.bl k]∧Q (.int (if k then 1 else 0)) H):=by
 intro pins s σ H xs us Q I r h
 rcases h with⟨i,rfl,q⟩|⟨k,rfl,q⟩
 ·obtain⟨u,rfl,t,rfl⟩:=vals1 r
  exact call_int_int ⟨.int i,H,I,⟨_,rfl⟩,q⟩
 ·obtain⟨u,rfl,r1⟩:=vals1 r
  cases r1
  exact call_int_bool ⟨.int (if k then 1 else 0),H,I.tok _,⟨_,rfl⟩,q⟩
def LenV(K:PySem.W.Frag)(x:V)(H:Hp)(n:Nat):Prop:=
 match x with
 | .str y=>y.length≤sizeLine∧n=y.length
 | .byt y=>y.size≤sizeLine∧n=y.size
 | .ref p=>(∃ xs,SqL K H p xs∧n=xs.length)∨∃ xs,SqT K H p xs∧n=xs.length
 |_=>False
theorem aAG:CallR X (.builtin "len") (fun xs H Q=>∃ x n,xs=[x]∧LenV X.K x H n∧Q (.int n) H):=by
 intro pins s σ H xs us Q I r h
 obtain⟨x,n,rfl,e,q⟩:=h
 obtain⟨u,rfl,rx⟩:=vals1 r
 have hl:=line63
 have hs:sizeLine=16777216:=sizeLine_eq
 cases x with
 |str y=>
  obtain⟨t,rfl⟩:=rx
  obtain⟨hy,e'⟩:y.length≤sizeLine∧n=y.length:=e
  subst e'
  exact len_str (by omega) ⟨.int _,H,I.tok _,⟨_,rfl⟩,q⟩
 |byt y=>
  obtain⟨t,rfl⟩:=rx
  obtain⟨hy,e'⟩:y.size≤sizeLine∧n=y.size:=e
  subst e'
  exact PySem.W.len_bytes (by omega) ⟨.int _,H,I.tok _,⟨_,rfl⟩,q⟩
 |ref p=>
  cases rx
  have e':(∃ xs,SqL X.K H p xs∧n=xs.length)∨∃ xs,SqT X.K H p xs∧n=xs.length:=e
  rcases e' with⟨xs,hx,e'⟩|⟨xs,hx,e'⟩
  ·subst e'
   obtain⟨its,r',pl,hz⟩:=I.list hx
   have hlen:=r'.length
   exact Calls.call_len_list pl.isList (by simp only[List.size_toArray];omega) ⟨.int xs.length,H,I.tok _,⟨_,by simp only[List.size_toArray];rw[hlen]⟩,q⟩
  ·subst e'
   obtain⟨its,r',pl,hz⟩:=I.tuple hx
   have hlen:=r'.length
   exact len_tuple pl (by simp only[List.size_toArray];omega) ⟨.int xs.length,H,I.tok _,⟨_,by simp only[List.size_toArray];rw[hlen]⟩,q⟩
 |_=>exact(show False from e).elim
theorem uR:CallR X (.builtin "divmod") (fun xs H Q=>∃ i j,xs=[.int i, .int j]∧CDiv i j∧∀ p,H p=none→Q (.ref p) (upd H p (.tup [.int (i / j), .int (i % j)]))):=by
 intro pins s σ H xs us Q I r h
 obtain⟨i,j,rfl,⟨h1,h2⟩,q⟩:=h
 obtain⟨u,w',rfl,⟨t,rfl⟩,⟨t',rfl⟩⟩:=vals2 r
 refine divmod_int (by omega) ?_ (.inl (PyProof.noPylong_small (by omega)))
 rw[Int.fdiv_eq_ediv_of_nonneg i (by omega),Int.fmod_eq_emod_of_nonneg i (by omega)]
 have hn:H s.heap.objs.size=none:=I.hok.fresh (Nat.le_refl _)
 refine⟨.ref s.heap.objs.size,_,?_,rfl,q _ hn⟩
 refine I.laid (fun b o e=>Heap.get?_push_of_some _ e) (Nat.le_refl _) ⟨by simp only[List.length_cons,List.length_nil];rw[sizeLine_eq];decide,[.int (i / j) s.toks, .int (i % j) (s.toks+1)], .cons ⟨_,rfl⟩ (.cons ⟨_,rfl⟩ .nil),?_⟩
 exact⟨_,Heap.get?_push_size s.heap rfl,rfl,0,rfl⟩
end
end L2
namespace L2
open PySem PySem.Spec PyProof.Rows
structure ObjM (h:Heap) (x dx C:Addr) (mA:Str→Option Value):Prop where
 obj:h.get? x=some (PySem.W.instObj C dx)
 ns:h.Ns1 dx mA
 ne:dx≠x
theorem zN{h:Heap}{dx:Addr}{mA:Str→Option Value}(n:h.Ns1 dx mA):∃ od,h.get? dx=some od∧∀ name,PySem.W.lookIn name od=some (mA name):=by
 obtain⟨o,es,ep,ho,hd,hk,_,hm⟩:=n
 refine⟨o,ho,fun name=>?_⟩
 have e:=hm name
 unfold nsFind findBy at e
 rw[← Array.find?_toList] at e
 unfold PySem.W.lookIn
 rw[hd]
 dsimp only
 split
 ·rename_i y q
  rw[q] at e
  exact congrArg some e
 ·rename_i q
  rw[q] at e
  have a:es.toList.any (·.refKey)=false:=by
   rw[List.any_eq_false]
   intro y hy
   obtain⟨z,t,hkey⟩:=hk y (Array.mem_toList_iff.mp hy)
   simp[DictEntry.refKey,hkey]
  have a':¬ es.toList.any (·.refKey)=true:=by rw[a];exact Bool.false_ne_true
  rw[if_neg a']
  exact congrArg some e
theorem ObjM.look{h:Heap}{x dx C:Addr}{mA:Str→Option Value}(I:ObjM h x dx C mA):∃ od,PySem.W.InstAt h x (PySem.W.instObj C dx) C (some od)∧∀ name,PySem.W.lookIn name od=some (mA name):=
 let ⟨od,ho,hl⟩:=zN I.ns
 ⟨od,⟨I.obj,rfl,rfl,ho⟩,hl⟩
theorem RelO.some_of{v:V}{o:Option Value}(r:RelO (some v) o):∃ u,o=some u∧RelV v u:=by
 cases o with
 |none=>exact(show False from r).elim
 |some u=>exact⟨u,rfl,r⟩
section
variable{P:Program}{w:World}{H H':Hp}{h h':Heap}{a C dx:Addr}{fs fs':List (Str×V)}
theorem aCx(hok:HOk P w H h)(e:H a=some (.ins C dx fs)):∃ mA,ObjM h a dx C mA∧(∀ f,RelO (fs.lookup f) (mA f))∧PySem.Within mA (fs.map (·.1))∧fs.length≤1000∧H dx=some (.own a):=by
 obtain⟨d,z,ne,ob,mA,n,r,q⟩:=(show ObjOk P w H h a (.ins C dx fs) from hok a _ e)
 exact⟨mA,⟨ob,n,ne⟩,r,q,z,d⟩
end
structure Cls (K:PySem.W.Frag) (C:Addr):Prop where
 pg:PySem.W.plainGet K C Str.empty=true
 hd:PySem.W.hasDictIn K C=true
 po:PySem.W.plainOver K C=true
 sa:PySem.W.findIn K (.ref C) "__setattr__"=some (some (.builtin "object.__setattr__"))
theorem Cls.get{K:PySem.W.Frag}{C:Addr}(c:Cls K C)(f:Str):PySem.W.plainGet K C f=true:=c.pg
section
variable{X:Cx}{pins:List (Addr×Obj)}{σ:St}{H:Hp}{s:Shared}{A:Around}{E:Value→Shared→Prop}{Q:Value→Shared→Prop}{c:Value}{b:Bool}
inductive TyOf (K:PySem.W.Frag) (H:Hp):V→Value→Prop where
 |non:TyOf K H .non (.type "NoneType")
 |bl (x:Bool):TyOf K H (.bl x) (.type "bool")
 |int (i:Int):TyOf K H (.int i) (.type "int")
 |str (x:Str):TyOf K H (.str x) (.type "str")
 |flt (x:UInt64):TyOf K H (.flt x) (.type "float")
 |lst {a:Addr} {xs:List V} (e:H a=some (.lst xs)):TyOf K H (.ref a) (.type "list")
 |frz {a:Addr} {o:Obj} {xs:List V} (e:H a=some (.frz o (.lst xs))):TyOf K H (.ref a) (.type "list")
 |tup {a:Addr} {xs:List V} (e:H a=some (.tup xs)):TyOf K H (.ref a) (.type "tuple")
 |dK {a:Addr} {kvs:List (Key×V)} (e:H a=some (.dK kvs)):TyOf K H (.ref a) (.type "dict")
 |dT {a:Addr} {kvs:List (List Key×V)} (e:H a=some (.dT kvs)):TyOf K H (.ref a) (.type "dict")
 |ins {a C dx:Addr} {fs:List (Str×V)} (e:H a=some (.ins C dx fs)) (cl:Cls K C) (ha:PySem.W.findIn K (.ref C) "__class__"=some (some (.builtin "object.__class__")))
   (hn:PySem.W.specialIn K (.builtin "object.__class__") "__get__"=some (some (.builtin "getset_descriptor.__get__"))) (htk:PySem.W.takesIn K (.builtin "object.__class__")=some true)
   (hm:PySem.W.mroIn K C (.type "object")=some true):TyOf K H (.ref a) (.ref C)
theorem zO{x:V}{u t:Value}(I:Inv X pins σ H s)(rx:RelV x u)(ty:TyOf X.K H x t)(e:PySem.W.kitOne X.K t c=some b)(h:∀ tk,Q (.bool b) { s with toks:=tk }):
  wpAny (model X.prog X.w) A (call (.builtin "isinstance") [u,c]) Q E s:=by
 cases ty with
 |non=>cases (show u=Value.none from rx);exact PySem.W.kia_one PySem.W.kitx_none I.kIn True.intro e (fun z=>nomatch z) h
 |bl y=>cases (show u=Value.bool y from rx);exact PySem.W.kia_one PySem.W.kitx_bool I.kIn True.intro e (fun z=>nomatch z) h
 |int i=>obtain⟨t,q⟩:=(show ∃ t,u=Value.int i t from rx);cases q;exact PySem.W.kia_one PySem.W.kitx_int I.kIn True.intro e (fun z=>nomatch z) h
 |str y=>obtain⟨t,q⟩:=(show ∃ t,u=Value.str y t from rx);cases q;exact PySem.W.kia_one PySem.W.kitx_str I.kIn True.intro e (fun z=>nomatch z) h
 |flt y=>obtain⟨t,q⟩:=(show ∃ t,u=Value.float y t from rx);cases q;exact PySem.W.kia_one PySem.W.kitx_float I.kIn True.intro e (fun z=>nomatch z) h
 |@lst a xs ea=>
  cases (show u=Value.ref a from rx)
  obtain⟨_,_,n,_,h1⟩:=(show ObjOk X.prog X.w H s.heap a (.lst xs) from I.hok a _ ea)
  exact PySem.W.kia_one PySem.W.kitx_list I.kIn ⟨_,h1,rfl⟩ e (fun z=>nomatch z) h
 |@frz a ob xs ea=>
  cases (show u=Value.ref a from rx)
  obtain⟨_,_,_,n,_,h1⟩:=(show ObjOk X.prog X.w H s.heap a (.frz ob (.lst xs)) from I.hok a _ ea)
  exact PySem.W.kia_one PySem.W.kitx_list I.kIn ⟨_,h1,rfl⟩ e (fun z=>nomatch z) h
 |@tup a xs ea=>
  cases (show u=Value.ref a from rx)
  obtain⟨_,_,_,p⟩:=(show ObjOk X.prog X.w H s.heap a (.tup xs) from I.hok a _ ea)
  obtain⟨o,h1,h2,_⟩:=p
  exact PySem.W.kia_one PySem.W.kitx_tuple I.kIn ⟨o,h1,h2⟩ e (fun z=>nomatch z) h
 |@dK a kvs ea=>
  cases (show u=Value.ref a from rx)
  obtain⟨_,_,vs,_,p⟩:=(show ObjOk X.prog X.w H s.heap a (.dK kvs) from I.hok a _ ea)
  obtain⟨o,es,ep,h1,h2,_⟩:=p
  exact PySem.W.kia_one PySem.W.kitx_dict I.kIn ⟨o,h1,h2.1⟩ e (fun z=>nomatch z) h
 |@dT a kvs ea=>
  cases (show u=Value.ref a from rx)
  obtain⟨_,_,xs,_,o,es,ep,h1,h2,_⟩:=(show ObjOk X.prog X.w H s.heap a (.dT kvs) from I.hok a _ ea)
  exact PySem.W.kia_one PySem.W.kitx_dict I.kIn ⟨o,h1,h2.1⟩ e (fun z=>nomatch z) h
 |@ins a C dx fs ea cl ha hn htk hm=>
  cases (show u=Value.ref a from rx)
  obtain⟨mA,O,_⟩:=aCx I.hok ea
  obtain⟨od,J,_⟩:=O.look
  exact PySem.W.kia_one (PySem.W.kitx_own (cl.get _) cl.hd ha hn htk hm) I.kIn J e (fun z=>nomatch z) h
end
end L2
namespace L2
open PySem PySem.Spec PyProof.Rows
structure Room (k:Nat) (A:Around):Prop where
 hd:A.handled=none
 dp:A.depth+3 * k+5<recursionLimit
 un:A.units+16 * k+200<cLine
theorem Room.mono{j k:Nat}{A:Around}(r:Room k A)(h:j≤k):Room j A:=⟨r.hd,by have:=r.dp;omega,by have:=r.un;omega⟩
theorem Room.deeper{k:Nat}{A:Around}(r:Room (k+1) A)(env:Env):Room k (A.deeper env):=
 ⟨r.hd,by have:=r.dp;show A.depth+1+3 * k+5 < _;omega,by have:=r.un;show A.units+3+16 * k+200 < _;omega⟩
theorem Room.depth{k:Nat}{A:Around}(r:Room k A):A.depth<recursionLimit:=by have:=r.dp;omega
theorem Room.units{k:Nat}{A:Around}(r:Room k A):A.units+64<cLine:=by have:=r.un;omega
def tNil:TA:=fun _ H Q=>Q [] H
def tCons(ta:TE)(tr:TA):TA:=fun σ H Q=>ta σ H fun x H1=>tr σ H1 fun xs H2=>Q (x::xs) H2
section
variable{X:Cx}{e:Expr}{es:List Expr}{te:TE}{t:TA}{pos:Pos}
theorem aEv:PA X [] tNil:=fun _ _ _ _ H Q I h=>Calls.spliced_nil ⟨[],H,I, .nil,h⟩
theorem aCy(ha:PE X e te)(hr:PA X es t)(hs:starEach (e::es) X.env=(false,eval e X.env)::starEach es X.env:=by rfl):PA X (e::es) (tCons te t):=by
 intro pos pins s σ H Q I h
 rw[hs]
 show wpAny _ _ (spliced ((false,eval e X.env)::backTo pos (starEach es X.env))) _ _ s
 refine Calls.spliced_cons (thn (ha pins s σ H _ I h) fun u s1 ⟨x,H1,I1,r1,q1⟩=>?_)
 exact thn (hr pos pins s1 σ H1 _ I1 q1) fun us s2 ⟨xs,H2,I2,r2,q2⟩=>⟨x::xs,H2,I2, .cons r1 r2,q2⟩
def tTup(t:TA):TE:=fun σ H Q=>t σ H fun xs H1=>xs.length≤sizeLine∧∀ p,H1 p=none→Q (.ref p) (upd H1 p (.tup xs))
def tLst(t:TA):TE:=fun σ H Q=>t σ H fun xs H1=>xs.length≤sizeLine∧∀ p,H1 p=none→Q (.ref p) (upd H1 p (.lst xs))
theorem aEw{x1}(h:PA X es t):PE X (.Tuple es x1 pos) (tTup t):=by
 intro pins s σ H Q I hq
 refine wpAny_Tuple_spliced (thn (h pos pins s σ H _ I hq) fun us s1 ⟨xs,H1,I1,r,z,q⟩=>⟨by rw[← r.length];exact z,?_⟩)
 have hf:H1 s1.heap.objs.size=none:=I1.hok.fresh (Nat.le_refl _)
 refine⟨.ref s1.heap.objs.size,upd H1 s1.heap.objs.size (.tup xs),I1.laid (t':=s1.toks) (fun b u e=>Heap.get?_push_of_some _ e) (Nat.le_refl _) ?_,rfl,q _ hf⟩
 exact⟨z,us,r,⟨_,Heap.get?_push_size _ rfl,rfl,_,rfl⟩⟩
theorem aEx(h:PA X es t):PE X (.List es pos) (tLst t):=by
 intro pins s σ H Q I hq
 refine wpAny_List_spliced (thn (h pos pins s σ H _ I hq) fun us s1 ⟨xs,H1,I1,r,z,q⟩=>⟨by rw[← r.length];exact z,?_⟩)
 have hf:H1 s1.heap.objs.size=none:=I1.hok.fresh (Nat.le_refl _)
 refine⟨.ref s1.heap.objs.size,upd H1 s1.heap.objs.size (.lst xs),I1.laid (t':=s1.toks) (fun b u e=>Heap.get?_push_of_some _ e) (Nat.le_refl _) ?_,rfl,q _ hf⟩
 exact⟨z,us,0,r,Heap.get?_push_size _ rfl⟩
end
abbrev Sp:=List V→Hp→VK→XK→Prop
abbrev CXT:=List Env→Hp→Shared→XK→Value→Shared→Prop
structure Env0 (P:Program) (w:World) (K:PySem.W.Frag) (mg:Str→Option Value) (base:Heap) (A:Around) (outer:List Env) (s:Shared) (H:Hp):Prop where
 frames:A.frames=some outer
 mod:Mod K mg base
 bs:∀ b o,base.get? b=some o→s.heap.get? b=some o∧H b=none
 bsz:base.objs.size≤s.heap.objs.size
 funs:s.heap.FunFrames base outer
 frf:∀ b∈frs outer,H b=none
 hok:HOk P w H s.heap
 bare:AllBare s.gens
def CE(outer:List Env)(P:Program)(w:World)(H:Hp)(s:Shared)(Q:VK)(u:Value)(s':Shared):Prop:=
 ∃ v H',s'.os=s.os∧AllBare s'.gens∧Un (frs outer) [] H H' s.heap s'.heap∧HOk P w H' s'.heap∧RelV v u∧Q v H'
def CR(CX:CXT)(outer:List Env)(P:Program)(w:World)(H:Hp)(s:Shared)(Q:VK)(E:XK)(r:Result)(s':Shared):Prop:=
 match r with
 | .ok (.ret u)=>CE outer P w H s Q u s'
 | .ok _=>False
 | .error e=>CX outer H s E e s'
structure FnOk (P:Program) (w:World) (K:PySem.W.Frag) (mg:Str→Option Value) (base:Heap) (CX:CXT) (k:Nat) (f:Addr) (fd:FuncData) (ps:List Str) (sp:Sp):Prop where
 len:∀ vs H Q E,sp vs H Q E→vs.length=ps.length
 run:∀ (A:Around) (outer:List Env) (s:Shared) (H:Hp) (args:Args) (us:List Value) (vs:List V) (Q:VK) (E:XK),Room k A→Env0 P w K mg base A outer s H→BindsTo s fd args (ps.zip us)→Vals vs us→sp vs H Q E→
  codeAny (model P w) A (.call (.ref f) args) (CR CX outer P w H s Q E) s
section
variable{X:Cx}{pins:List (Addr×Obj)}{σ:St}{H:Hp}{s s':Shared}
theorem Inv.env0(I:Inv X pins σ H s):Env0 X.prog X.w X.K X.mg X.base X.A X.stack s H:=
 ⟨I.ok.frames,I.ok.mod,I.bs,Nat.le_trans I.ok.bsz I.sz,I.stack,I.stkFree,I.hok,I.bare⟩
theorem Inv.after{Q:VK}{u:Value}(I:Inv X pins σ H s)(h:CE X.stack X.prog X.w H s Q u s'):EP X pins σ Q u s':=by
 obtain⟨v,H',os,bare,un,hok,r,q⟩:=h
 obtain⟨hh,g,d,t,os'⟩:=s'
 obtain rfl:os'=s.os:=os
 exact⟨v,H',I.call (h':=hh) (g':=g) (d':=d) (t':=t) (ch:=[]) un hok bare (fun b z=>absurd z (by simp)),r,q⟩
end
def tCall(sp:Sp)(dvs:List V)(E:XK)(t:TA):TE:=fun σ H Q=>t σ H fun vs H1=>sp (vs++dvs) H1 Q E
def Binds(K:PySem.W.Frag)(fd:FuncData)(ps:List Str)(ds:List Value):Prop:=
 ∀ (s:Shared) (us:List Value),K.In s.heap→(us++ds).length=ps.length→BindsTo s fd ⟨us,[]⟩ (ps.zip (us++ds))
theorem Binds.all{K:PySem.W.Frag}{fd:FuncData}{ps:List Str}(h:∀ us:List Value,us.length=ps.length→bindArgs fd ⟨us,[]⟩=pure (ps.zip us)):Binds K fd ps []:=fun s us _ hl=>by
 rw[List.append_nil] at hl ⊢
 exact .of_eq (h us hl)
def Passes(CX:CXT)(X:Cx)(E:XK):Prop:=∀ (pins:List (Addr×Obj)) (σ:St) (H:Hp) (s:Shared) (e:Value) (s':Shared),Inv X pins σ H s→CX X.stack H s E e s'→X.xe e s'
section
variable{X:Cx}{CX:CXT}{k:Nat}{f C:Addr}{fd:FuncData}{ps:List Str}{sp:Sp}{dvs:List V}{ds:List Value}{E:XK}{x m:Str}{p pos apos:Pos}{e o:Expr}{es:List Expr}{ta:TE}{t:TA}
theorem aEy{pins:List (Addr×Obj)}{σ:St}{H:Hp}{s:Shared}{Q:VK}{us:List Value}{vs:List V}(F:FnOk X.prog X.w X.K X.mg X.base CX k f fd ps sp)(hr:Room k X.A)(hb:Binds X.K fd ps ds)(hd:Vals dvs ds)(hx:Passes CX X E)
  (I:Inv X pins σ H s)(r:Vals vs us)(h:sp (vs++dvs) H Q E):wpAny (model X.prog X.w) X.A (call (.ref f) us) (EP X pins σ Q) X.xe s:=by
 have r2:Vals (vs++dvs) (us++ds):=r.append hd
 have hl:(us++ds).length=ps.length:=by rw[← r2.length];exact F.len _ _ _ _ h
 refine wpAny_call (codeAny_mono (F.run X.A X.stack s H ⟨us,[]⟩ (us++ds) (vs++dvs) Q E hr I.env0 (hb s us I.kIn hl) r2 h) fun r s' hq=>?_)
 cases r with
 |error e=>exact hx pins σ H s e s' I hq
 |ok fl=>
  cases fl with
  |ret u=>exact I.after hq
  |next=>exact False.elim hq
  |brk=>exact False.elim hq
  |cont=>exact False.elim hq
theorem aCz(F:FnOk X.prog X.w X.K X.mg X.base CX k f fd ps sp)(hr:Room k X.A)(hg:Gl X x)(hm:X.mg x=some (.ref f))(hk:PySem.W.keepIn X.K (.ref f)=true)(hb:Binds X.K fd ps ds)(hd:Vals dvs ds)(hx:Passes CX X E)
  (ha:PA X (e::es) t)(hdb:(x==("__debug__":Str))=false:=by decide)(he:starEach (e::es) X.env=(false,eval e X.env)::starEach es X.env:=by rfl)(hpl:(backTo pos (starEach es X.env)).any (·.1)=false:=by rfl):
  PE X (.Call (.Name x p) (e::es) [] pos) (tCall sp dvs E t):=by
 intro pins s σ H Q I h
 refine wpAny_Call_Name_kw (xP I hg hm ?_ hdb)
 refine PySem.W.callWith_K (h₀:=X.base) I.ok.mod.kin hk (thn (ha pos pins s σ H _ I h) fun us s1 ⟨vs,H1,I1,r,q⟩=>⟨I1.kIn,?_⟩) he hpl
 exact aEy F hr hb hd hx I1 r q
end
structure FnScope (N P:List Str) (sc:Scope):Prop where
 kind:sc.kind=.function
 co:sc.isCoroutine=false
 gen:sc.isGenerator=false
 nd:N.Nodup
 pre:N.take P.length=P
 par:∀ x∈P,sc.names.lookup x=some .local∨sc.names.lookup x=some .cell
 nofree:∀ y∈sc.names,y.2≠.free
theorem rV{kindOf:Str→Option NameKind}{x:Str}:∀ {binds:List (Str×Value)} {m:Str→Option Value},(∀ v,(x,v)∉binds)→bindL kindOf binds m x=m x
 |[],_,_=>rfl
 |(n,v)::r,m,h=>by
  unfold bindL
  rw[rV fun w hw=>h w (List.mem_cons_of_mem _ hw)]
  split
  ·have:x≠n:=by rintro rfl;exact h v List.mem_cons_self
   simp[this]
  ·rfl
theorem rW{kindOf:Str→Option NameKind}{x:Str}:∀ {binds:List (Str×Value)} {m:Str→Option Value},(∀ v,(x,v)∉binds)→bindC kindOf binds m x=m x
 |[],_,_=>rfl
 |(n,v)::r,m,h=>by
  unfold bindC
  rw[rW fun w hw=>h w (List.mem_cons_of_mem _ hw)]
  split
  ·rfl
  ·have:x≠n:=by rintro rfl;exact h v List.mem_cons_self
   simp[this]
theorem rX{kindOf:Str→Option NameKind}{x:Str}{v:Value}:∀ {P:List Str} {vs:List Value} {i:Nat} {m:Str→Option Value},P.Nodup→P[i]?=some x→vs[i]?=some v→kindOf x=some .local→
  bindL kindOf (P.zip vs) m x=some v
 |[],_,_,_,_,h,_,_=>by simp at h
 |_::_,[],_,_,_,_,h,_=>by simp at h
 |p::P,w::vs,0,m,nd,h1,h2,hk=>by
  simp at h1 h2;subst h1;subst h2
  show bindL kindOf ((p,w)::P.zip vs) m p=_
  unfold bindL
  rw[rV fun v hv=>(List.nodup_cons.mp nd).1 (List.of_mem_zip hv).1,if_pos hk]
  simp
 |p::P,w::vs,i+1,m,nd,h1,h2,hk=>by
  show bindL kindOf ((p,w)::P.zip vs) m x=_
  unfold bindL
  exact rX (i:=i) (List.nodup_cons.mp nd).2 (by simpa using h1) (by simpa using h2) hk
theorem rY{kindOf:Str→Option NameKind}{x:Str}{v:Value}:∀ {P:List Str} {vs:List Value} {i:Nat} {m:Str→Option Value},P.Nodup→P[i]?=some x→vs[i]?=some v→kindOf x≠some .local→
  bindC kindOf (P.zip vs) m x=some v
 |[],_,_,_,_,h,_,_=>by simp at h
 |_::_,[],_,_,_,_,h,_=>by simp at h
 |p::P,w::vs,0,m,nd,h1,h2,hk=>by
  simp at h1 h2;subst h1;subst h2
  show bindC kindOf ((p,w)::P.zip vs) m p=_
  unfold bindC
  rw[rW fun v hv=>(List.nodup_cons.mp nd).1 (List.of_mem_zip hv).1,if_neg hk]
  simp
 |p::P,w::vs,i+1,m,nd,h1,h2,hk=>by
  show bindC kindOf ((p,w)::P.zip vs) m x=_
  unfold bindC
  exact rY (i:=i) (List.nodup_cons.mp nd).2 (by simpa using h1) (by simpa using h2) hk
def start(N:List Str)(vs:List V):St:=vs.map some++List.replicate (N.length - vs.length) none
def cxOf(CX:CXT)(P:Program)(w:World)(K:PySem.W.Frag)(mg:Str→Option Value)(base:Heap)(N:List Str)(qual:Str)(scope:Scope)(f:Addr)(cd:Value)(A:Around)(outer:List Env)(s:Shared)(H:Hp)(E:XK):Cx where
 prog:=P
 w:=w
 K:=K
 mg:=mg
 base:=base
 A:=A.deeper (envOfC qual scope s.heap.objs.size f cd)
 N:=N
 s₀:=s
 H₀:=H
 env:=envOfC qual scope s.heap.objs.size f cd
 outer:=outer
 stack:=envOfC qual scope s.heap.objs.size f cd::outer
 ex:=[]
 calm:=true
 fn:=fun _=>true
 pn:=[]
 xe:=fun e s'=>wpAny (model P w) (A.deeper (envOfC qual scope s.heap.objs.size f cd)) (leaving (envOfC qual scope s.heap.objs.size f cd) e) (fun _ s''=>CX outer H s E e s'') (fun e' s''=>CX outer H s E e' s'') s'
theorem uS{sc:Scope}{n:Nat}{x:Str}(h:sc.names.lookup x=some .cell):∃ c,(cellsFrom n sc.names []).lookup x=some c:=by
 have q:=PySem.W.cellsFrom_some sc.names n [] (.inl h)
 exact Option.isSome_iff_exists.mp q
theorem zP{CX:CXT}{P:Program}{w:World}{K:PySem.W.Frag}{mg:Str→Option Value}{base:Heap}{N ps:List Str}{qual:Str}{scope:Scope}{f:Addr}{cd:Value}{A:Around}{outer:List Env}{s s1:Shared}{H:Hp}{E:XK}{us:List Value}{vs:List V}
  (S:FnScope N ps scope)(hd:A.handled=none)(e0:Env0 P w K mg base A outer s H)(hl:vs.length=ps.length)(r:Vals vs us)
  (x:InCallC s s.heap.objs.size (bindL (envOfC qual scope s.heap.objs.size f cd).kindOf (ps.zip us) fun _=>none) (cellsFrom (s.heap.objs.size+1) scope.names []) (bindC (envOfC qual scope s.heap.objs.size f cd).kindOf (ps.zip us) fun _=>none) s1):
  Inv (cxOf CX P w K mg base N qual scope f cd A outer s H E) [] (start N vs) H s1:=by
 have hpl:ps.length≤N.length:=by have:=congrArg List.length S.pre;rw[List.length_take] at this;omega
 obtain⟨h1,tk,rfl,hk⟩:=x.done
 have noA:∀ b:Addr,b∉(cxOf CX P w K mg base N qual scope f cd A outer s H E).ex:=fun b z=>absurd (show b∈([]:List Addr) from z) (by simp)
 refine⟨⟨e0.mod,S.kind,rfl,rfl,Nat.le_refl _,fun y z c h1 h2=>?_,fun y hy=>?_,fun y c _ h=>?_,fun _=>hd,Around.frames_deeper e0.frames, .inr ⟨rfl,rfl⟩,fun b z=>absurd z (noA b),e0.bs,e0.bsz,fun b _ _=>noA b,fun b z=>absurd z (noA b),e0.funs,e0.frf⟩,
  rfl,e0.bare,Un.kept hk,⟨_,x.toInCall.ns,fun i y v h1 h2 h3=>?_⟩,fun y c h=>⟨_,x.cell y c h⟩,e0.hok.fresh (Nat.le_refl _),fun y c h=>?_,fun p hp=>absurd (show p∈([]:List (Addr×Obj)) from hp) (by simp),e0.hok.kept hk,?_⟩
 ·exact name_of_addr x.apart (PySem.mem_of_lookup h1) (PySem.mem_of_lookup h2)
 ·have hy:scope.names.lookup y=some .cell∨scope.names.lookup y=some .free:=hy
  rcases hy with hy|hy
  ·exact uS hy
  ·exact absurd rfl (S.nofree _ (PySem.mem_of_lookup hy))
 ·exact Nat.le_of_lt (x.above y c (PySem.mem_of_lookup h))
 ·have hi:i<vs.length:=by
   unfold start at h2
   by_cases hi:i<vs.length
   ·exact hi
   ·rw[List.getElem?_append_right (by simpa using hi)] at h2
    rw[List.getElem?_replicate] at h2
    split at h2<;>cases h2
  have ha:vs[i]?=some v:=by
   unfold start at h2
   rw[List.getElem?_append_left (by simpa using hi),List.getElem?_map] at h2
   cases e:vs[i]? with
   |none=>rw[e] at h2;cases h2
   |some a=>rw[e] at h2;cases h2;rfl
  obtain⟨u,hu,rv⟩:=r.get ha
  have hp:ps[i]?=some y:=by
   rw[← S.pre,List.getElem?_take_of_lt (by omega)];exact h1
  have ndP:ps.Nodup:=by rw[← S.pre];exact S.nd.sublist (List.take_sublist _ _)
  refine⟨u,rv,?_⟩
  rcases S.par y (List.mem_of_getElem? hp) with k|k
  ·exact .inl ⟨k,rX ndP hp hu k⟩
  ·obtain⟨c,e⟩:=uS (n:=s.heap.objs.size+1) k
   refine .inr ⟨.inl k,c,e,?_⟩
   have q:=x.cell y c e
   rw[rY ndP hp hu (by show scope.names.lookup y≠_;rw[k];decide)] at q
   exact q
 ·exact e0.hok.fresh (Nat.le_of_lt (x.above y c (PySem.mem_of_lookup h)))
 ·unfold start
  show _=N.length
  rw[List.length_append,List.length_map,List.length_replicate]
  omega
theorem aGd{CX:CXT}{P:Program}{w:World}{K:PySem.W.Frag}{mg:Str→Option Value}{base:Heap}{k:Nat}{f:Addr}{name qual:Str}{params:Arguments}{body:List Stmt}{scope:Scope}{dV kV doc pm cdv ct oc:Value}{an od:Option Addr}
  {osl:Array (Option Value)}{N ps:List Str}{sp:Sp}(lk:K.lookup f=some ⟨oc,od, .func (PySem.W.fnOf name qual params body scope dV kV doc pm an cdv ct),osl⟩)(hcd:PySem.W.codeIn K cdv qual=true)(S:FnScope N ps scope)
  (len:∀ vs H Q E,sp vs H Q E→vs.length=ps.length)
  (hbody:∀ (A:Around) (outer:List Env) (s:Shared) (H:Hp) (vs:List V) (Q:VK) (E:XK),Room k (A.deeper (envOfC qual scope s.heap.objs.size f cdv))→sp vs H Q E→
   ∃ t,PSs (cxOf CX P w K mg base N qual scope f cdv A outer s H E) body t∧t { nx:=fun _ H'=>Q .non H',rt:=Q } (start N vs) H):
  FnOk P w K mg base CX (k+1) f (PySem.W.fnOf name qual params body scope dV kV doc pm an cdv ct) ps sp:=by
 refine⟨len,fun A outer s H args us vs Q E hr e0 hb r hsp=>?_⟩
 have hl:=len _ _ _ _ hsp
 have KX:K.In s.heap:=e0.mod.kin.keeps fun b o e=>(e0.bs b o e).1
 have lim:s.heap.NoLimit:=e0.mod.nolimit.keeps fun b o e=>(e0.bs b o e).1
 have hkind:∀ y∈ps.zip us,scope.names.lookup y.1=some .local∨(scope.names.lookup y.1=some .cell∧((cellsFrom (s.heap.objs.size+1) scope.names []).lookup y.1).isSome=true):=fun⟨n,v⟩ hy=>by
  rcases S.par n (List.of_mem_zip hy).1 with q|q
  ·exact .inl q
  ·exact .inr ⟨q,PySem.W.cellsFrom_some _ _ _ (.inl q)⟩
 refine codeAny_call_function hr.depth (KX _ _ lk) rfl S.co S.gen rfl (PySem.W.codeRec_of KX hcd) (hb _ _ _ _ ?_)
 refine wpAny_newFunctionEnv_cells S.kind hkind fun env he s1 x=>?_
 subst he
 refine⟨lim.keeps x.toInCall.keep,codeAny_func ?_⟩
 obtain⟨t,ht,hq⟩:=hbody A outer s H vs Q E (hr.deeper _) hsp
 have I:Inv (cxOf CX P w K mg base N qual scope f cdv A outer s H E) [] (start N vs) H s1:=zP S hr.hd e0 hl r x
 refine wpAny_mono (ht [] s1 (start N vs) H _ I hq) (fun fl s' hs=>?_) fun e s' hs=>hs
 have fin:∀ {σ':St} {H':Hp} {v:V} {u:Value},Inv (cxOf CX P w K mg base N qual scope f cdv A outer s H E) [] σ' H' s'→RelV v u→Q v H'→CE outer P w H s Q u s':=
  fun {σ' H' v u} J rv q=>⟨v,H',J.os,J.bare,J.base,J.hok,rv,q⟩
 cases fl with
 |ret u=>
  obtain⟨v,σ',H',J,rv,q⟩:=hs
  exact fin J rv q
 |next=>
  obtain⟨σ',H',J,q⟩:=hs
  exact fin (v:=V.non) (u:=Value.none) J rfl q
 |brk=>
  obtain⟨_,_,_,q⟩:=hs
  exact False.elim q
 |cont=>
  obtain⟨_,_,_,q⟩:=hs
  exact False.elim q
end L2
namespace L2
open PySem PySem.Spec PyProof.Rows
section
variable{X:Cx}{x:Str}{p pos:Pos}{e:Expr}{es:List Expr}{t:TA}{id T:String}{r:List V→Hp→VK→Prop}
def tCB(r:List V→Hp→VK→Prop)(t:TA):TE:=fun σ H Q=>t σ H fun vs H1=>r vs H1 Q
theorem aAH(hc:CallR X (.builtin id) r)(hg:Gl X x)(hm:X.mg x=none)(hv:bootBuiltins x=some (.builtin id))(ha:PA X (e::es) t)(hn:x≠"__name__":=by decide)(hdb:(x==("__debug__":Str))=false:=by decide)
  (he:starEach (e::es) X.env=(false,eval e X.env)::starEach es X.env:=by rfl)(hpl:(backTo pos (starEach es X.env)).any (·.1)=false:=by rfl):PE X (.Call (.Name x p) (e::es) [] pos) (tCB r t):=by
 intro pins s σ H Q I h
 refine wpAny_Call_Name_kw (kR I hg hm hv ?_ hn hdb)
 exact PyProof.Rows.callWith_builtin1 (thn (ha pos pins s σ H _ I h) fun us s1 ⟨vs,H1,I1,r1,q1⟩=>hc pins s1 σ H1 vs us Q I1 r1 q1) he hpl
theorem zQ(hc:CallR X (.type T) r)(hg:Gl X x)(hm:X.mg x=none)(hv:bootBuiltins x=some (.type T))(ha:PA X (e::es) t)(hn:x≠"__name__":=by decide)(hdb:(x==("__debug__":Str))=false:=by decide)
  (he:starEach (e::es) X.env=(false,eval e X.env)::starEach es X.env:=by rfl)(hpl:(backTo pos (starEach es X.env)).any (·.1)=false:=by rfl):PE X (.Call (.Name x p) (e::es) [] pos) (tCB r t):=by
 intro pins s σ H Q I h
 refine wpAny_Call_Name_kw (kR I hg hm hv ?_ hn hdb)
 exact PyProof.Rows.callWith_type1 (thn (ha pos pins s σ H _ I h) fun us s1 ⟨vs,H1,I1,r1,q1⟩=>hc pins s1 σ H1 vs us Q I1 r1 q1) he hpl
end
end L2
namespace HT
open PySem PyProof.Rows
section
variable{prog:Program}{w:World}{A:Around}{E:Value→Shared→Prop}{s:Shared}
theorem aCA{t b:Addr}{vs ws:List Value}{Q:Value→Shared→Prop}(ht:IsTup s.heap t vs.toArray)(hb:IsTup s.heap b ws.toArray)(hv:vs≠[])
  (h1:ws=[]→Q (.ref t) s)(h2:ws≠[]→Q (.ref s.heap.objs.size) { s with heap:=s.heap.push { cls:=.type "tuple",data:=.seq (vs++ws).toArray } })
  (hsz:vs.length+ws.length≤sizeLine):wpAny (model prog w) A (binaryOp .Add (.ref t) (.ref b)) Q E s:=by
 obtain⟨⟨cls,dd,data,sl⟩,ho,hc,n,hd⟩:=id ht
 obtain⟨⟨cls2,dd2,data2,sl2⟩,ho2,hc2,n2,hd2⟩:=id hb
 simp only at hc hd hc2 hd2
 subst hc hd hc2 hd2
 have e:vs.toArray++ws.toArray=(vs++ws).toArray:=by simp
 by_cases hw:ws=[]
 ·exact concat_meets ⟨_,ho,rfl⟩ ⟨_,ho2,rfl⟩ noFill_tuple_add seq_tuple_add PySem.F.slot_tuple_add PySem.F.entry_tuple_add (PySem.F.args_tuple_add_2 _ _)
   (tuple_addW1 t b vs.toArray ws.toArray n n2 dd dd2 sl sl2 (by simpa using hv) (by simp[hw])) ⟨ho,ho2,h1 hw⟩
 ·refine concat_meets ⟨_,ho,rfl⟩ ⟨_,ho2,rfl⟩ noFill_tuple_add seq_tuple_add PySem.F.slot_tuple_add PySem.F.entry_tuple_add (PySem.F.args_tuple_add_2 _ _)
   (tuple_addW2 t b vs.toArray ws.toArray n n2 dd dd2 sl sl2 (by simpa using hv) (by simpa using hw) (by rw[List.size_toArray,List.size_toArray];exact hsz)) ⟨ho,ho2,?_⟩
  rw[e]
  exact h2 hw
def sIx(n d:Nat):Option Int→Nat
 |none=>d
 |some v=>if v<0 then(v+(n:Int)).toNat else min v.toNat n
theorem qG(n d:Nat):sIx n d none=d:=rfl
theorem nP(n d k:Nat):sIx n d (some (k:Int))=min k n:=by
 show(if(k:Int)<0 then((k:Int)+(n:Int)).toNat else min (k:Int).toNat n)=min k n
 rw[if_neg (by omega),Int.toNat_natCast]
theorem aEz(n d:Nat)(hd:d≤n)(o:Option Int):sIx n d o≤n:=by
 cases o with
 |none=>exact hd
 |some v=>
  show(if v<0 then(v+(n:Int)).toNat else min v.toNat n)≤n
  by_cases hv:v<0
  ·rw[if_pos hv];omega
  ·rw[if_neg hv];exact Nat.min_le_right _ _
theorem xR(v:Int)(n d:Nat):(if v<0 then max (v+(n:Int)) 0 else min v (n:Int))=((sIx n d (some v):Nat):Int):=by
 show(if v<0 then max (v+(n:Int)) 0 else min v (n:Int))=(((if v<0 then(v+(n:Int)).toNat else min v.toNat n):Nat):Int)
 by_cases hv:v<0
 ·simp only[if_pos hv];omega
 ·simp only[if_neg hv];omega
theorem wC(lo hi:Option Int)(n:Nat):Builtin.Slice.sliceAdjust lo hi 1 (n:Int)=(((sIx n 0 lo:Nat):Int),((sIx n n hi:Nat):Int)):=by
 have h1:¬ ((1:Int)<0):=by omega
 unfold Builtin.Slice.sliceAdjust
 simp only[h1,if_false]
 refine Prod.ext ?_ ?_
 ·cases lo with
  |none=>rfl
  |some v=>exact xR v n 0
 ·cases hi with
  |none=>rfl
  |some v=>exact xR v n n
theorem wD(i j:Nat):Builtin.Slice.slicePlaces (i:Int) (j:Int) 1=j - i:=by
 unfold Builtin.Slice.slicePlaces
 have h1:(1:Int) > 0:=by omega
 simp only[h1,if_true,Int.ediv_one]
 split<;>omega
theorem qH{v:Value}{o:Option Int}{Q:Option Int→Shared→Prop}(p:IsPart v o)(h:Q o s):wpAny (model prog w) A (Builtin.Slice.slicePartIndex v) Q E s:=by
 cases p with
 |none=>exact slicePart_none h
 |int i t=>exact slicePart_int h
theorem kZ{sl:Addr}{vl vu:Value}{lo hi:Option Int}{n:Nat}{Q:Int×Int×Nat→Shared→Prop}(hs:s.heap.IsSliceOf sl vl vu .none)(pl:IsPart vl lo)(pu:IsPart vu hi)
  (h:Q (((sIx n 0 lo:Nat):Int),1,sIx n n hi - sIx n 0 lo) s):wpAny (model prog w) A (Builtin.Slice.sliceApplied (.ref sl) (pure (n:Int))) Q E s:=by
 obtain⟨os,hos,hcs,hds⟩:=id hs
 unfold Builtin.Slice.sliceApplied Builtin.Slice.sliceFields
 refine wpAny_bind (wpAny_bind (wpAny_field hos hds (x:=vl) rfl (wpAny_bind (wpAny_field hos hds (x:=vu) rfl (wpAny_bind (wpAny_field hos hds (x:=.none) rfl (wpAny_pure ?_)))))))
 refine wpAny_bind (slicePart_none ?_)
 show wpAny _ _ (if((1:Int)==0)=true then _ else _) _ _ s
 rw[if_neg (by decide)]
 refine wpAny_bind (qH pl (wpAny_bind (qH pu (wpAny_bind (wpAny_pure ?_)))))
 show wpAny _ _ (match Builtin.Slice.sliceAdjust lo hi 1 (n:Int) with |(lo,hi)=>pure (lo,(1:Int),Builtin.Slice.slicePlaces lo hi 1)) _ _ s
 rw[wC lo hi n]
 show wpAny _ _ (pure (((sIx n 0 lo:Nat):Int),(1:Int),Builtin.Slice.slicePlaces ((sIx n 0 lo:Nat):Int) ((sIx n n hi:Nat):Int) 1)) _ _ s
 rw[wD]
 exact wpAny_pure h
theorem aAI(xs:Array Value)(i k:Nat):((List.range k).filterMap fun(m:Nat)=>xs[((i:Int)+(m:Int) * 1).toNat]?).toArray=((xs.toList.drop i).take k).toArray:=by
 have e:(fun(m:Nat)=>xs[((i:Int)+(m:Int) * 1).toNat]?)=fun m=>xs[i+m]?:=by
  funext m
  have:((i:Int)+(m:Int) * 1).toNat=i+m:=by omega
  rw[this]
 rw[e]
 have:=pick_run xs i k
 rw[List.filterMap_map] at this
 have e2:((fun x=>xs[x]?) ∘ fun x=>i+x)=fun m=>xs[i+m]?:=rfl
 rw[e2] at this
 rw[this]
theorem nQ{t sl:Addr}{items:Array Value}{vl vu:Value}{lo hi:Option Int}{Q:Value→Shared→Prop}(ht:IsTup s.heap t items)(hs:s.heap.IsSliceOf sl vl vu .none)(pl:IsPart vl lo)(pu:IsPart vu hi)
  (hw:¬ (sIx items.size 0 lo=0∧sIx items.size items.size hi=items.size))
  (h:Q (.ref s.heap.objs.size) { s with heap:=s.heap.push { cls:=.type "tuple",data:=.seq ((items.toList.drop (sIx items.size 0 lo)).take (sIx items.size items.size hi - sIx items.size 0 lo)).toArray } })
  (hsz:items.size≤sizeLine):wpAny (model prog w) A (getItem (.ref t) (.ref sl)) Q E s:=by
 have htake:sizeOk (.seq ((items.toList.drop (sIx items.size 0 lo)).take (sIx items.size items.size hi - sIx items.size 0 lo)).toArray):=by
  show((items.toList.drop (sIx items.size 0 lo)).take (sIx items.size items.size hi - sIx items.size 0 lo)).toArray.size≤sizeLine
  rw[List.size_toArray,List.length_take,List.length_drop,Array.length_toList]
  omega
 have hj:sIx items.size items.size hi≤items.size:=aEz _ _ (Nat.le_refl _) hi
 obtain⟨os,hos,hcs,hds⟩:=id hs
 have hTs:s.TypeIs (.ref sl) "slice":=⟨os,hos,hcs⟩
 unfold getItem
 try with_reducible refine wpAny_holding ?_
 first|refine wpAny_bind (wpAny_pure ?_)|skip
 refine wpAny_bind (wpAny_sequenceKey ht.typeIs (by decide) ?_)
 refine wpAny_bind (wpAny_callSpecial?_slot (name:=Str.ofString "__getitem__") ht.typeIs PyProof.Rows.slot_tuple_getitem
  (wpAny_call_entry PyProof.Rows.slot_tuple_getitem ht.typeIs entry_tuple_getitem ?_ (args_tuple_getitem _ _)))
 show wpAny _ _ (Builtin.Tuple.tupleItemsOf (.ref t) >>=_) _ _ s
 refine wpAny_bind (tupleItemsOf_ ht ?_)
 refine wpAny_bind (wpAny_typeOf hTs ?_)
 rw[if_pos (by decide)]
 refine wpAny_bind (kZ hs pl pu ?_)
 have hno:¬ ((((sIx items.size 0 lo:Nat):Int)==0&&(1:Int)==1&&(sIx items.size items.size hi - sIx items.size 0 lo)==items.size)=true):=by
  intro q
  rw[Bool.and_eq_true,Bool.and_eq_true] at q
  have q1:((sIx items.size 0 lo:Nat):Int)=0:=eq_of_beq q.1.1
  have q2:sIx items.size items.size hi - sIx items.size 0 lo=items.size:=eq_of_beq q.2
  exact hw ⟨by omega,by omega⟩
 show wpAny _ _ (if(((sIx items.size 0 lo:Nat):Int)==0&&(1:Int)==1&&(sIx items.size items.size hi - sIx items.size 0 lo)==items.size)=true then _ else _) _ _ s
 rw[if_neg hno,aAI]
 first
  |exact wpAny_bind (m:=Builtin.Tuple.tupleExact _) (wpAny_newObj_type (wpAny_pure ⟨_,rfl,wpAny_pure h⟩) htake)
  |exact wpAny_bind (m:=Builtin.Tuple.tupleExact _) (wpAny_newObj_type (wpAny_bind (wpAny_pure (wpAny_pure ⟨_,rfl,wpAny_pure h⟩))) htake)
  |exact wpAny_bind (wpAny_bind (m:=Builtin.Tuple.tupleExact _) (wpAny_newObj_type (wpAny_pure (wpAny_pure ⟨_,rfl,wpAny_pure h⟩)) htake))
  |exact wpAny_bind (wpAny_bind (m:=Builtin.Tuple.tupleExact _) (wpAny_newObj_type (wpAny_pure ⟨_,rfl,wpAny_pure h⟩) htake))
end
end HT
namespace L2
open PySem PySem.Spec PyProof.Rows
abbrev TO:=St→Hp→(Option Int→Hp→Prop)→Prop
def PO(X:Cx)(e:Option Expr)(t:TO):Prop:=
 ∀ (pins:List (Addr×Obj)) (s:Shared) (σ:St) (H:Hp) (Q:Option Int→Hp→Prop),Inv X pins σ H s→t σ H Q→
  wpAny (model X.prog X.w) X.A (evalPart e X.env) (fun u s'=>∃ o H',Inv X pins σ H' s'∧IsPart u o∧Q o H') X.xe s
def tNoPart:TO:=fun _ H Q=>Q none H
def tPart(t:TE):TO:=fun σ H Q=>t σ H fun x H1=>∃ i,x=.int i∧Q (some i) H1
section
variable{X:Cx}{e:Expr}{te:TE}{lo hi:Option Expr}{tl th:TO}{pos p2:Pos}
theorem aCB:PO X none tNoPart:=by
 intro pins s σ H Q I h
 rw[evalPart_none]
 exact wpAny_pure ⟨none,H,I, .none,h⟩
theorem aCC(h:PE X e te):PO X (some e) (tPart te):=by
 intro pins s σ H Q I hw
 rw[evalPart_some]
 refine thn (h pins s σ H _ I hw) fun u s1 ⟨x,H1,I1,r1,q1⟩=>?_
 obtain⟨i,rfl,q⟩:=q1
 obtain⟨t,rfl⟩:=r1
 exact⟨some i,H1,I1, .int i t,q⟩
def SlR(X:Cx)(r:V→Option Int→Option Int→Hp→VK→Prop):Prop:=
 ∀ (pins:List (Addr×Obj)) (s:Shared) (σ:St) (H:Hp) (x:V) (v vl vu:Value) (lo hi:Option Int) (sl:Addr) (Q:VK),Inv X pins σ H s→RelV x v→s.heap.IsSliceOf sl vl vu .none→IsPart vl lo→IsPart vu hi→r x lo hi H Q→
  ∃ T id,typeLookup (.type T) "__getitem__"=pure (some (.builtin id))∧s.TypeIs v T∧wpAny (model X.prog X.w) X.A (getItem v (.ref sl)) (EP X pins σ Q) X.xe s
theorem SlR.or{r r':V→Option Int→Option Int→Hp→VK→Prop}(h:SlR X r)(h':SlR X r'):SlR X (fun x lo hi H Q=>r x lo hi H Q∨r' x lo hi H Q):=by
 intro pins s σ H x v vl vu lo hi sl Q I rx hs pl pu q
 rcases q with q|q
 ·exact h pins s σ H x v vl vu lo hi sl Q I rx hs pl pu q
 ·exact h' pins s σ H x v vl vu lo hi sl Q I rx hs pl pu q
def tSl(r:V→Option Int→Option Int→Hp→VK→Prop)(te:TE)(tl th:TO):TE:=fun σ H Q=>te σ H fun x H1=>tl σ H1 fun l H2=>th σ H2 fun u H3=>r x l u H3 Q
theorem aAJ{r:V→Option Int→Option Int→Hp→VK→Prop}(hr:SlR X r)(he:PE X e te)(hl:PO X lo tl)(hu:PO X hi th):PE X (.Subscript e (.Slice lo hi none p2) pos) (tSl r te tl th):=by
 intro pins s σ H Q I h
 refine Subscript_ (thn (he pins s σ H _ I h) fun v s1 ⟨x,H1,I1,r1,q1⟩=>?_)
 refine wpAny_Slice (thn (hl pins s1 σ H1 _ I1 q1) fun vl s2 ⟨l,H2,I2,pl,q2⟩=>thn (hu pins s2 σ H2 _ I2 q2) fun vu s3 ⟨u,H3,I3,pu,q3⟩=>?_)
 rw[evalPart_none]
 refine wpAny_pure ?_
 have I4:Inv X pins σ H3 { s3 with heap:=s3.heap.push { cls:=.type "slice",data:=.fields #[vl,vu, .none] } }:=I3.kept (t':=s3.toks) fun b ob q=>Heap.get?_push_of_some _ q
 obtain⟨T,id,hT,ht,hg⟩:=hr pins { s3 with heap:=s3.heap.push { cls:=.type "slice",data:=.fields #[vl,vu, .none] } } σ H3 x v vl vu l u s3.heap.objs.size Q I4 r1 (Heap.IsSliceOf.new ..) pl pu q3
 show wpAny (model X.prog X.w) X.A (subscriptTail e (.Slice lo hi none p2) v (.ref s3.heap.objs.size)) (EP X pins σ Q) X.xe { s3 with heap:=s3.heap.push { cls:=.type "slice",data:=.fields #[vl,vu, .none] } }
 exact tail_any (ops:=[.ref s3.heap.objs.size,v]) ht hT hg (by with_unfolding_all rfl)
def cutV(xs:List V)(lo hi:Option Int):List V:=(xs.drop (HT.sIx xs.length 0 lo)).take (HT.sIx xs.length xs.length hi - HT.sIx xs.length 0 lo)
theorem pJ(xs:List V)(lo hi:Option Int):(cutV xs lo hi).length≤xs.length:=by
 unfold cutV
 rw[List.length_take,List.length_drop]
 omega
def rSlT(K:PySem.W.Frag):V→Option Int→Option Int→Hp→VK→Prop:=fun x lo hi H Q=>∃ a xs,x=.ref a∧SqT K H a xs∧
 ¬ (HT.sIx xs.length 0 lo=0∧HT.sIx xs.length xs.length hi=xs.length)∧∀ p,H p=none→Q (.ref p) (upd H p (.tup (cutV xs lo hi)))
theorem aEA:SlR X (rSlT X.K):=by
 intro pins s σ H x v vl vu lo hi sl Q I rx hs pl pu h
 obtain⟨a,xs,rfl,hx,hw,q⟩:=h
 cases rx
 obtain⟨its,r,ht,hz⟩:=I.tuple hx
 have hlen:its.toArray.size=xs.length:=by rw[List.size_toArray];exact r.length.symm
 refine⟨"tuple",_,PyProof.Rows.slot_tuple_getitem.lookup,ht.typeIs,?_⟩
 refine HT.nQ ht hs pl pu (by rw[hlen];exact hw) ?_ (by rw[hlen];exact hz)
 rw[hlen]
 refine⟨.ref s.heap.objs.size,_,I.laid (t':=s.toks) (o:=.tup (cutV xs lo hi)) (fun b ob q=>Heap.get?_push_of_some _ q) (Nat.le_refl _) ?_,rfl,q _ (I.hok.fresh (Nat.le_refl _))⟩
 exact⟨Nat.le_trans (pJ xs lo hi) hz,_,(r.drop (HT.sIx xs.length 0 lo)).take (HT.sIx xs.length xs.length hi - HT.sIx xs.length 0 lo),IsTup.new _ _⟩
def rCatT(K:PySem.W.Frag):R2:=fun x y H Q=>∃ a b xs ys,x=.ref a∧y=.ref b∧SqT K H a xs∧SqT K H b ys∧xs≠[]∧xs.length+ys.length≤sizeLine∧
 (ys=[]→Q (.ref a) H)∧(ys≠[]→∀ p,H p=none→Q (.ref p) (upd H p (.tup (xs++ys))))
theorem Vals.nil_iff{xs:List V}{us:List Value}(r:Vals xs us):us=[] ↔ xs=[]:=by
 cases r with
 |nil=>simp
 |cons _ _=>simp
theorem aCD:OpR X (binaryOp .Add) (rCatT X.K):=by
 intro pins s σ H x y v u Q I rx ry h
 obtain⟨a,b,xs,ys,rfl,rfl,ha,hb,hx,hz,q1,q2⟩:=h
 cases rx
 cases ry
 obtain⟨its,r1,p1,_⟩:=I.tuple ha
 obtain⟨its2,r2,p2,_⟩:=I.tuple hb
 refine HT.aCA p1 p2 (fun z=>hx (r1.nil_iff.mp z)) (fun z=>⟨.ref a,H,I,rfl,q1 (r2.nil_iff.mp z)⟩) (fun z=>?_) (by rw[← r1.length,← r2.length];exact hz)
 refine⟨.ref s.heap.objs.size,_,I.laid (t':=s.toks) (o:=.tup (xs++ys)) (fun b ob q=>Heap.get?_push_of_some _ q) (Nat.le_refl _) ?_,rfl,q2 (fun w=>z (r2.nil_iff.mpr w)) _ (I.hok.fresh (Nat.le_refl _))⟩
 exact⟨by rw[List.length_append];exact hz,_,r1.append r2,IsTup.new _ _⟩
end
end L2
namespace L2
open PySem PySem.Spec PyProof.Rows
def ixN(n:Nat)(i:Int):Option Nat:=if 0≤i then(if i<n then some i.toNat else none) else if -(n:Int)≤i then some (i+n).toNat else none
def atI{α:Type}(xs:List α)(i:Int):Option α:=(ixN xs.length i).bind fun j=>xs[j]?
theorem xS{n:Nat}{i:Int}{j:Nat}(h:ixN n i=some j):seqIndex? i n=some j∧j<n∧-(n:Int)≤i∧i<n:=by
 unfold ixN at h
 by_cases h0:0≤i
 ·rw[if_pos h0] at h
  by_cases h1:i<n
  ·rw[if_pos h1] at h
   have e:i.toNat=j:=Option.some.inj h
   exact⟨by rw[seqIndex_of h0 h1,e],by omega,by omega,h1⟩
  ·rw[if_neg h1] at h;cases h
 ·rw[if_neg h0] at h
  by_cases h1:-(n:Int)≤i
  ·rw[if_pos h1] at h
   have e:(i+n).toNat=j:=Option.some.inj h
   exact⟨by rw[seqIndex_neg (by omega) h1,e],by omega,h1,by omega⟩
  ·rw[if_neg h1] at h;cases h
theorem tG{α:Type}{xs:List α}{i:Int}{v:α}(h:atI xs i=some v):∃ j,seqIndex? i xs.length=some j∧xs[j]?=some v∧j<xs.length∧-(xs.length:Int)≤i∧i<xs.length:=by
 unfold atI at h
 cases e:ixN xs.length i with
 |none=>rw[e] at h;cases h
 |some j=>
  rw[e] at h
  obtain⟨h1,h2,h3,h4⟩:=xS e
  exact⟨j,h1,h,h2,h3,h4⟩
theorem jL{α:Type}{xs:List α}{j:Nat}{v:α}(h:xs[j]?=some v):atI xs (j:Int)=some v:=by
 have hj:j<xs.length:=(List.getElem?_eq_some_iff.mp h).1
 have e:ixN xs.length (j:Int)=some j:=by
  unfold ixN
  rw[if_pos (by omega),if_pos (by omega)];simp
 unfold atI;rw[e];exact h
theorem aAK{α:Type}(xs:List α)(v:α):atI (xs++[v]) (-1)=some v:=by
 have hl:(xs++[v]).length=xs.length+1:=by simp
 have e:ixN (xs++[v]).length (-1)=some xs.length:=by
  unfold ixN
  rw[hl,if_neg (by decide),if_pos (by omega)]
  congr 1
  omega
 unfold atI
 rw[e]
 show(xs++[v])[xs.length]?=some v
 simp
def PlainIx(b:Expr):Prop:=∀ o i,subscripted b false o i=operate [o,i] (getItem o i)
def IxR(X:Cx)(r:R2):Prop:=
 ∀ (value slice:Expr) (pins:List (Addr×Obj)) (s:Shared) (σ:St) (H:Hp) (x y:V) (v u:Value) (Q:VK),Inv X pins σ H s→RelV x v→RelV y u→r x y H Q→
  subscripted slice false v u=operate [v,u] (getItem v u)→wpAny (model X.prog X.w) X.A (subscriptTail value slice v u) (EP X pins σ Q) X.xe s
def MtR(X:Cx)(id:String)(r:V→List V→Hp→VK→Prop):Prop:=
 ∀ (pins:List (Addr×Obj)) (s:Shared) (σ:St) (H:Hp) (x:V) (xs:List V) (v:Value) (us:List Value) (Q:VK),Inv X pins σ H s→RelV x v→Vals xs us→r x xs H Q→
  wpAny (model X.prog X.w) X.A (call (.builtin id) (v::us)) (EP X pins σ Q) X.xe s
section
variable{X:Cx}{a b:Expr}{ta tb:TE}{pos:Pos}
theorem IxR.or{r r':R2}(h:IxR X r)(h':IxR X r'):IxR X (fun x y H Q=>r x y H Q∨r' x y H Q):=by
 intro value slice pins s σ H x y v u Q I rx ry q hs
 rcases q with q|q
 ·exact h value slice pins s σ H x y v u Q I rx ry q hs
 ·exact h' value slice pins s σ H x y v u Q I rx ry q hs
theorem MtR.or{id:String}{r r':V→List V→Hp→VK→Prop}(h:MtR X id r)(h':MtR X id r'):MtR X id (fun x xs H Q=>r x xs H Q∨r' x xs H Q):=by
 intro pins s σ H x xs v us Q I rx rs q
 rcases q with q|q
 ·exact h pins s σ H x xs v us Q I rx rs q
 ·exact h' pins s σ H x xs v us Q I rx rs q
theorem aGe{r:R2}(hr:IxR X r)(ha:PE X a ta)(hb:PE X b tb)(hs:PlainIx b):PE X (.Subscript a b pos) (tOp r ta tb):=by
 intro pins s σ H Q I h
 exact Subscript_ (binT ha hb I h fun v u s2 x y H2 I2 rx ry q=>hr a b pins s2 σ H2 x y v u Q I2 rx ry q (hs _ _))
def rIxL(K:PySem.W.Frag):R2:=fun x y H Q=>∃ p xs i v,x=.ref p∧y=.int i∧SqL K H p xs∧atI xs i=some v∧Q v H
def rIxT(K:PySem.W.Frag):R2:=fun x y H Q=>∃ p xs i v,x=.ref p∧y=.int i∧SqT K H p xs∧atI xs i=some v∧Q v H
def rIxS:R2:=fun x y H Q=>∃ z i c,x=.str z∧y=.int i∧z.length≤sizeLine∧atI z.cps.toList i=some c∧Q (.str ⟨#[c]⟩) H
theorem aCE:IxR X (rIxL X.K):=by
 intro value slice pins s σ H x y v u Q I rx ry h hs
 obtain⟨p,xs,i,z,rfl,rfl,hq,he,q⟩:=h
 cases rx
 obtain⟨t,rfl⟩:=ry
 obtain⟨its,r,pl,hz⟩:=I.list hq
 obtain⟨j,h1,h2,h3,h4,h5⟩:=tG he
 obtain⟨w,ew,rw'⟩:=r.get h2
 have hl:=r.length
 have hn:=line63
 have fin:EP X pins σ Q w s:=⟨z,H,I,rw',q⟩
 by_cases h0:0≤i
 ·have hj:i.toNat=j:=by
   rw[seqIndex_of h0 h5] at h1
   exact Option.some.inj h1
  exact item_listR pl.isList h0 (by omega) (by rw[hj];simpa using ew) fin hs
 ·have hj:(i+(its.toArray.size:Int)).toNat=j:=by
   rw[seqIndex_neg (by omega) h4] at h1
   rw[List.size_toArray,← hl]
   exact Option.some.inj h1
  exact subscriptTail_builtinR (x:=w) pl.isList.typeIs slot_list_getitem.lookup
   (wpAny_getItem_list_neg (Q:=fun r s'=>r=w∧EP X pins σ Q r s') pl.isList (by omega) (by rw[List.size_toArray]<;>omega) (by omega) (by rw[hj];simpa using ew) ⟨rfl,fin⟩) hs
theorem aEB:IxR X (rIxT X.K):=by
 intro value slice pins s σ H x y v u Q I rx ry h hs
 obtain⟨p,xs,i,z,rfl,rfl,hq,he,q⟩:=h
 cases rx
 obtain⟨t,rfl⟩:=ry
 obtain⟨its,r,pl,hz⟩:=I.tuple hq
 obtain⟨j,h1,h2,h3,h4,h5⟩:=tG he
 obtain⟨w,ew,rw'⟩:=r.get h2
 have hl:=r.length
 have hn:=line63
 have fin:EP X pins σ Q w s:=⟨z,H,I,rw',q⟩
 exact subscriptTail_builtinR (x:=w) pl.typeIs slot_tuple_getitem.lookup
  (getItem_tuple (j:=j) (Q:=fun r s'=>r=w∧EP X pins σ Q r s') pl (by omega) (by omega) (by rw[List.size_toArray,← hl];exact h1) (by simpa using ew) ⟨rfl,fin⟩) hs
theorem aEC:IxR X rIxS:=by
 intro value slice pins s σ H x y v u Q I rx ry h hs
 obtain⟨z,i,c,rfl,rfl,hz,he,q⟩:=h
 obtain⟨t,rfl⟩:=rx
 obtain⟨t',rfl⟩:=ry
 obtain⟨j,h1,h2,h3,h4,h5⟩:=tG he
 have hl:z.cps.toList.length=z.length:=by simp[Str.length]
 rw[hl] at h1 h4 h5
 have hn:=line63
 exact tail_any (typeIs_str s z t) slot_str_getitem.lookup (getItem_str (c:=c) (by
  have e1:decide (i < -(2 ^ 63:Int))=false:=decide_eq_false (by omega)
  have e2:decide (i≥2 ^ 63)=false:=decide_eq_false (by omega)
  rw[e1,e2,Bool.or_false]) (by rw[h1];simpa using h2) ⟨.str ⟨#[c]⟩,H,I.tok _,⟨_,rfl⟩,q⟩) hs
def rIx(K:PySem.W.Frag):R2:=fun x y H Q=>rIxL K x y H Q∨rIxT K x y H Q∨rIxS x y H Q
theorem aED:IxR X (rIx X.K):=aCE.or (aEB.or aEC)
theorem wF(its:List Value)(n j:Nat)(u:Value):Obj.mapSeq (·.setIfInBounds j u) { cls:=.type "list",data:=.seq its.toArray n }={ cls:=.type "list",data:=.seq (its.set j u).toArray n }:=by
 simp[Obj.mapSeq]
theorem Inv.lst{pins:List (Addr×Obj)}{σ:St}{H:Hp}{s:Shared}{p:Addr}{xs:List V}(I:Inv X pins σ H s)(h:H p=some (.lst xs)):
  ∃ (its:List Value) (n:Nat),Vals xs its∧s.heap.get? p=some { cls:=.type "list",data:=.seq its.toArray n }∧xs.length≤sizeLine:=by
 obtain⟨z,its,n,r,e⟩:=I.hok p _ h
 exact⟨its,n,r,e,z⟩
theorem Inv.lstUpd{pins:List (Addr×Obj)}{σ:St}{H:Hp}{s:Shared}{p:Addr}{xs ys:List V}{its its':List Value}{n n':Nat}{f:Obj→Obj}(I:Inv X pins σ H s)(h:H p=some (.lst xs))
  (ho:s.heap.get? p=some { cls:=.type "list",data:=.seq its.toArray n })(hf:f { cls:=.type "list",data:=.seq its.toArray n }={ cls:=.type "list",data:=.seq its'.toArray n' })(r:Vals ys its')(hz:ys.length≤sizeLine)(t:Nat):
  Inv X pins σ (upd H p (.lst ys)) { s with heap:=s.heap.update p f,toks:=t }:=by
 have e:(s.heap.update p f).get? p=some { cls:=.type "list",data:=.seq its'.toArray n' }:=by
  rw[Heap.get?_update_self f ho (by rw[hf]<;>rfl),hf]
 refine I.write (x:=p) (e:=p) (by rw[h];trivial) (.inl rfl) (fun b u hb q=>(Heap.get?_update_other _ _ (Ne.symm hb)).trans q) ⟨_,e⟩ ?_
 exact⟨hz,its',n',r,e⟩
def rSetL:V→V→V→Hp→(Hp→Prop)→Prop:=fun o i v H Q=>∃ p xs k j,o=.ref p∧i=.int k∧H p=some (.lst xs)∧ixN xs.length k=some j∧Q (upd H p (.lst (xs.set j v)))
theorem set_list:PSet X rSetL:=by
 intro pins s σ H o i v ov iv u Q I ro ri rv h
 obtain⟨p,xs,k,j,rfl,rfl,hp,hj,q⟩:=h
 cases ro
 obtain⟨t,rfl⟩:=ri
 obtain⟨its,n,r,ho,hz⟩:=I.lst hp
 obtain⟨h1,h2,h3,h4⟩:=xS hj
 have hl:=r.length
 have hn:=line63
 have I':Inv X pins σ (upd H p (.lst (xs.set j v))) { s with heap:=s.heap.update p (Obj.mapSeq (·.setIfInBounds j u)) }:=
  I.lstUpd hp ho (wF its n j u) (r.set rv j) (by rw[List.length_set];exact hz) s.toks
 by_cases h0:0≤k
 ·have hk:k.toNat=j:=by
   rw[seqIndex_of h0 h4] at h1
   exact Option.some.inj h1
  exact PySem.W.ki_setAt ho h0 (by omega) (by rw[List.size_toArray,← hl];exact h4) (by rw[hk];exact⟨_,I',q⟩)
 ·have hk:(k+(its.toArray.size:Int)).toNat=j:=by
   rw[seqIndex_neg (by omega) h3] at h1
   rw[List.size_toArray,← hl]
   exact Option.some.inj h1
  exact PySem.W.ki_setBack ho (by omega) (by rw[List.size_toArray,← hl];exact h3) (by omega) (by rw[hk];exact⟨_,I',q⟩)
theorem tH(lo hi:Option Int)(n:Nat):(sliceBounds lo hi none n).1=((HT.sIx n 0 lo:Nat):Int)∧(sliceBounds lo hi none n).2.1=((HT.sIx n n hi:Nat):Int)∧(sliceBounds lo hi none n).2.2=1:=by
 refine⟨?_,?_,rfl⟩
 ·cases lo with
  |none=>simp[sliceBounds,HT.sIx]
  |some i=>
   simp only[sliceBounds,HT.sIx,Option.getD_none,show(1:Int) > 0 by decide,if_true]
   by_cases h:i<0
   ·simp only[h,if_true]<;>omega
   ·simp only[h,if_false]<;>omega
 ·cases hi with
  |none=>simp[sliceBounds,HT.sIx]
  |some i=>
   simp only[sliceBounds,HT.sIx,Option.getD_none,show(1:Int) > 0 by decide,if_true]
   by_cases h:i<0
   ·simp only[h,if_true]<;>omega
   ·simp only[h,if_false]<;>omega
theorem rL(its:List Value)(lo hi:Option Int):slicePick its.toArray lo hi none=((its.drop (HT.sIx its.length 0 lo)).take (HT.sIx its.length its.length hi - HT.sIx its.length 0 lo)).toArray:=by
 obtain⟨h1,h2,h3⟩:=tH lo hi its.toArray.size
 unfold slicePick
 rw[h1,h2,h3]
 simp only[sliceRange_one,pick_run,List.size_toArray]<;>rfl
def rSlL(K:PySem.W.Frag):V→Option Int→Option Int→Hp→VK→Prop:=fun x lo hi H Q=>∃ a xs,x=.ref a∧SqL K H a xs∧∀ p,H p=none→Q (.ref p) (upd H p (.lst (cutV xs lo hi)))
theorem aCF:SlR X (rSlL X.K):=by
 intro pins s σ H x v vl vu lo hi sl Q I rx hs pl pu h
 obtain⟨a,xs,rfl,hx,q⟩:=h
 cases rx
 obtain⟨its,r,ht,hz⟩:=I.list hx
 have hlen:=r.length
 refine⟨"list",_,slot_list_getitem.lookup,ht.isList.typeIs,?_⟩
 refine wpAny_getItem_list_slice ht.isList hs pl pu .none (by simp) ?_ (by rw[List.size_toArray]<;>omega)
 rw[rL,← hlen]
 refine⟨.ref s.heap.objs.size,_,I.laid (t':=s.toks) (o:=.lst (cutV xs lo hi)) (fun b ob q=>Heap.get?_push_of_some _ q) (Nat.le_refl _) ?_,rfl,q _ (I.hok.fresh (Nat.le_refl _))⟩
 exact⟨Nat.le_trans (pJ xs lo hi) hz,_,0,(r.drop (HT.sIx xs.length 0 lo)).take (HT.sIx xs.length xs.length hi - HT.sIx xs.length 0 lo),Heap.get?_push_size _ rfl⟩
def flatV:V→Bool
 | .non=>true
 | .bl _=>true
 | .int _=>true
 | .str _=>true
 |_=>false
def eqV:V→V→Bool
 | .non, .non=>true
 | .bl a, .bl b=>a==b
 | .bl a, .int b=>(if a then 1 else 0)==b
 | .int a, .bl b=>a==(if b then 1 else 0)
 | .int a, .int b=>a==b
 | .str a, .str b=>a==b
 |_,_=>false
theorem aAL{A:Around}{s:Shared}{y x:V}{u v:Value}(ry:RelV y u)(rx:RelV x v)(fy:flatV y=true)(fx:flatV x=true):SeqAt.EqAt A s u v (eqV y x):=by
 cases y with
 |non=>
  cases ry
  cases x with
  |non=>cases rx;exact SeqAt.EqAt.same _
  |bl b=>cases rx;exact SeqAt.EqAt.none_bool b
  |int b=>obtain⟨t,rfl⟩:=rx;exact SeqAt.EqAt.none_int b t
  |str b=>obtain⟨t,rfl⟩:=rx;exact SeqAt.EqAt.none_str b t
  |_=>exact absurd (show false=true from fx) Bool.false_ne_true
 |bl a=>
  cases ry
  cases x with
  |non=>cases rx;exact SeqAt.EqAt.bool_none a
  |bl b=>cases rx;exact SeqAt.EqAt.bool_bool a b
  |int b=>obtain⟨t,rfl⟩:=rx;exact SeqAt.EqAt.bool_int a b t
  |str b=>obtain⟨t,rfl⟩:=rx;exact SeqAt.EqAt.bool_str a b t
  |_=>exact absurd (show false=true from fx) Bool.false_ne_true
 |int a=>
  obtain⟨t',rfl⟩:=ry
  cases x with
  |non=>cases rx;exact SeqAt.EqAt.int_none a t'
  |bl b=>cases rx;exact SeqAt.EqAt.int_bool a t' b
  |int b=>obtain⟨t,rfl⟩:=rx;exact SeqAt.EqAt.int_int a t' b t
  |str b=>obtain⟨t,rfl⟩:=rx;exact SeqAt.EqAt.int_str a t' b t
  |_=>exact absurd (show false=true from fx) Bool.false_ne_true
 |str a=>
  obtain⟨t',rfl⟩:=ry
  cases x with
  |non=>cases rx;exact SeqAt.EqAt.str_none a t'
  |bl b=>cases rx;exact SeqAt.EqAt.str_bool a t' b
  |int b=>obtain⟨t,rfl⟩:=rx;exact SeqAt.EqAt.str_int a t' b t
  |str b=>obtain⟨t,rfl⟩:=rx;exact SeqAt.EqAt.str_str a t' b t
  |_=>exact absurd (show false=true from fx) Bool.false_ne_true
 |_=>exact absurd (show false=true from fy) Bool.false_ne_true
def eqU(x:V)(u:Value):Bool:=match u with
 | .none=>eqV .non x
 | .bool b=>eqV (.bl b) x
 | .int i _=>eqV (.int i) x
 | .str z _=>eqV (.str z) x
 |_=>false
theorem aAM{x y:V}{u:Value}(r:RelV y u)(f:flatV y=true):eqU x u=eqV y x:=by
 cases y with
 |non=>cases r;rfl
 |bl b=>cases r;rfl
 |int i=>obtain⟨t,rfl⟩:=r;rfl
 |str z=>obtain⟨t,rfl⟩:=r;rfl
 |_=>exact absurd (show false=true from f) Bool.false_ne_true
theorem tI{x:V}:∀ {xs:List V} {us:List Value},Vals xs us→xs.all flatV=true→us.any (eqU x)=xs.any fun y=>eqV y x
 |_,_, .nil,_=>rfl
 |y::xs,u::us, .cons r t,f=>by
  rw[List.all_cons,Bool.and_eq_true] at f
  rw[List.any_cons,List.any_cons,aAM r f.1,tI t f.2]
theorem qI{A:Around}{s:Shared}{x:V}{v:Value}(rx:RelV x v)(fx:flatV x=true):∀ {xs:List V} {us:List Value},Vals xs us→xs.all flatV=true→∀ u∈us,SeqAt.EqAt A s u v (eqU x u)
 |_,_, .nil,_=>fun u hu=>by cases hu
 |y::xs,u::us, .cons r t,f=>fun u' hu=>by
  rw[List.all_cons,Bool.and_eq_true] at f
  rcases List.mem_cons.mp hu with rfl|hu
  ·rw[aAM r f.1];exact aAL r rx f.1 fx
  ·exact qI rx fx t f.2 u' hu
def inV(x:V)(xs:List V):Bool:=xs.any fun y=>eqV y x
def rIn(K:PySem.W.Frag)(neg:Bool):R2:=fun x y H Q=>∃ p xs,y=.ref p∧(SqL K H p xs∨SqT K H p xs)∧flatV x=true∧xs.all flatV=true∧Q (.bl (if neg then !inV x xs else inV x xs)) H
theorem zR:OpR X (compareOp .In) (rIn X.K false):=by
 intro pins s σ H x y v u Q I rx ry h
 obtain⟨p,xs,rfl,hq,fx,fs,q⟩:=h
 cases ry
 rcases hq with hq|hq
 ·obtain⟨its,r,pl,hz⟩:=I.list hq
  refine SeqAt.in_listAt (eqU x) pl.isList (fun w hw=>qI rx fx r fs w (by simpa using hw)) ⟨.bl _,H,I,rfl,?_⟩
  rw[show its.toArray.any (eqU x)=its.any (eqU x) by simp,tI r fs]
  exact q
 ·obtain⟨its,r,pl,hz⟩:=I.tuple hq
  refine SeqAt.in_tupleAt (eqU x) pl (fun w hw=>qI rx fx r fs w (by simpa using hw)) ⟨.bl _,H,I,rfl,?_⟩
  rw[show its.toArray.any (eqU x)=its.any (eqU x) by simp,tI r fs]
  exact q
theorem tJ:CallR X (.type "list") (fun xs H Q=>∃ p ys,xs=[.ref p]∧(SqL X.K H p ys∨SqT X.K H p ys)∧∀ l,H l=none→Q (.ref l) (upd H l (.lst ys))):=by
 intro pins s σ H xs us Q I r h
 obtain⟨p,ys,rfl,hq,q⟩:=h
 obtain⟨u,rfl,rx⟩:=vals1 r
 cases rx
 have fin:∀ (its:List Value),Vals ys its→ys.length≤sizeLine→∀ (h':Heap) (c':Nat),(∀ b o',s.heap.get? b=some o'→h'.get? b=some o')→
   h'.get? s.heap.objs.size=some { cls:=.type "list",dict:=none,data:=.seq its.toArray c',slots:=#[] }→EP X pins σ Q (.ref s.heap.objs.size) { s with heap:=h' }:=fun its r' hz h' c' kp e=>
  ⟨.ref s.heap.objs.size,_,I.laid (t':=s.toks) kp (Nat.le_refl _) (show ObjOk X.prog X.w _ h' _ (.lst ys) from⟨hz,its,c',r',e⟩),rfl,q _ (I.hok.fresh (Nat.le_refl _))⟩
 rcases hq with hq|hq
 ·obtain⟨its,r',pl,hz⟩:=I.list hq
  have hlen:=r'.length
  obtain⟨o,ho,hc,n,hd⟩:=pl.isList
  exact call_list_seq p (.inl rfl) ho hc hd (fun h' c' kp e=>fin its r' hz h' c' kp e) (by simp only[List.size_toArray]<;>omega)
 ·obtain⟨its,r',pl,hz⟩:=I.tuple hq
  have hlen:=r'.length
  obtain⟨o,ho,hc,n,hd⟩:=pl
  exact call_list_seq p (.inr rfl) ho hc hd (fun h' c' kp e=>fin its r' hz h' c' kp e) (by simp only[List.size_toArray]<;>omega)
theorem rM:CallR X (.type "tuple") (fun xs H Q=>∃ p ys,xs=[.ref p]∧((SqL X.K H p ys∧∀ l,H l=none→Q (.ref l) (upd H l (.tup ys)))∨(SqT X.K H p ys∧Q (.ref p) H))):=by
 intro pins s σ H xs us Q I r h
 obtain⟨p,ys,rfl,h⟩:=h
 obtain⟨u,rfl,rx⟩:=vals1 r
 cases rx
 rcases h with⟨hq,q⟩|⟨hq,q⟩
 ·obtain⟨its,r',pl,hz⟩:=I.list hq
  have hlen:=r'.length
  refine call_tuple_list pl.isList (fun h' kp=>?_) (by simp only[List.size_toArray]<;>omega)
  have I1:Inv X pins σ H { s with heap:=h' }:=I.kept (t':=s.toks) kp
  have I2:Inv X pins σ (upd H h'.objs.size (.tup ys)) { s with heap:=h'.push { cls:=.type "tuple",data:=.seq its.toArray } }:=
   I1.laid (t':=s.toks) (fun b o e=>Heap.get?_push_of_some _ e) (Nat.le_refl _) (show ObjOk X.prog X.w _ _ _ (.tup ys) from⟨hz,its,r',IsTup.new _ _⟩)
  exact⟨.ref h'.objs.size,_,I2,rfl,q _ (I1.hok.fresh (Nat.le_refl _))⟩
 ·obtain⟨its,r',pl,hz⟩:=I.tuple hq
  exact call_tuple_same pl ⟨.ref p,H,I,rfl,q⟩
def tyV(K:PySem.W.Frag)(T:String)(x:V)(H:Hp):Prop:=match x with
 | .str _=>T="str"
 | .int _=>T="int"
 | .ref p=>(T="list"∧∃ xs,SqL K H p xs)∨(T="tuple"∧∃ o,K.lookup p=some o∧o.cls=.type "tuple"∧o.dict=none)∨
   (T="dict"∧((∃ kvs,H p=some (.dK kvs))∨∃ kvs,H p=some (.dT kvs)))∨(T="set"∧∃ S n,H p=some (.set S n))
 |_=>False
theorem aAN{pins:List (Addr×Obj)}{σ:St}{H:Hp}{s:Shared}{T:String}{x:V}{v:Value}(I:Inv X pins σ H s)(r:RelV x v)(ty:tyV X.K T x H):
  s.TypeIs v T∧∀ a,v=.ref a→∃ ob,s.heap.get? a=some ob∧ob.dict=none:=by
 cases x with
 |str z=>
  obtain⟨t,rfl⟩:=r
  cases (show T="str" from ty)
  exact⟨typeIs_str s z t,fun _ e=>nomatch e⟩
 |int i=>
  obtain⟨t,rfl⟩:=r
  cases (show T="int" from ty)
  exact⟨typeIs_int s i t,fun _ e=>nomatch e⟩
 |ref p=>
  cases r
  rcases ty with⟨rfl,xs,hq⟩|⟨rfl,o,hk,hc,hd⟩|⟨rfl,hk⟩|⟨rfl,S,n,hk⟩
  ·obtain⟨its,_,pl,_⟩:=I.list hq
   refine⟨pl.isList.typeIs,fun a e=>?_⟩
   cases e
   obtain⟨o,n,e,c,hd,_⟩:=pl
   exact⟨o,e,hd⟩
  ·refine⟨⟨o,I.kIn p o hk,hc⟩,fun a e=>?_⟩
   cases e
   exact⟨o,I.kIn _ o hk,hd⟩
  ·have z:∃ o,s.heap.get? p=some o∧o.ExactDict:=by
    rcases hk with⟨kvs,hk⟩|⟨kvs,hk⟩
    ·obtain⟨_,_,_,_,o,_,_,e,ex,_⟩:=I.hok p _ hk
     exact⟨o,e,ex⟩
    ·obtain⟨_,_,_,_,o,_,_,e,ex,_⟩:=I.hok p _ hk
     exact⟨o,e,ex⟩
   obtain⟨o,e,ex⟩:=z
   refine⟨⟨o,e,ex.1⟩,fun a e2=>?_⟩
   cases e2
   exact⟨o,e,ex.2.1⟩
  ·obtain⟨o,_,_,_,e,ex,_⟩:=I.hok p _ hk
   refine⟨⟨o,e,ex.1⟩,fun a e2=>?_⟩
   cases e2
   exact⟨o,e,ex.2.1⟩
 |_=>exact False.elim ty
def tBM0(K:PySem.W.Frag)(T:String)(r:V→List V→Hp→VK→Prop)(to:TE):TE:=fun σ H Q=>to σ H fun x H1=>tyV K T x H1∧r x [] H1 Q
def tBM(K:PySem.W.Frag)(T:String)(r:V→List V→Hp→VK→Prop)(to:TE)(t:TA):TE:=fun σ H Q=>to σ H fun x H1=>tyV K T x H1∧t σ H1 fun xs H2=>r x xs H2 Q
variable{o e:Expr}{es:List Expr}{to:TE}{t:TA}{name:Str}{apos cpos:Pos}{T id:String}{r:V→List V→Hp→VK→Prop}
theorem aEE(pa:PlainAttrs T)(slot:Slot T name id)(hty:typeOf (.builtin id)=pure (.type "method_descriptor"))(hm:MtR X id r)(ho:PE X o to)
  (hbase:attributeBase o name X.env (eval o X.env)=eval o X.env:=by rfl)(hline:(apos.endLine==cpos.line)=true:=by rfl):PE X (.Call (.Attribute o name apos) [] [] cpos) (tBM0 X.K T r to):=by
 intro pins s σ H Q I h
 refine wpAny_Call_method0_late hbase hline (thn (ho pins s σ H _ I h) fun v s1 ⟨x,H1,I1,r1,ty,q1⟩=>?_)
 obtain⟨h1,h2⟩:=aAN I1 r1 ty
 exact⟨T,id,pa,slot,hty,h1,h2,Calls.callWith_builtin rfl (PySem.evalArgs_none (hm pins s1 σ H1 x [] v [] Q I1 r1 .nil q1))⟩
theorem aGf(pa:PlainAttrs T)(slot:Slot T name id)(hty:typeOf (.builtin id)=pure (.type "method_descriptor"))(hm:MtR X id r)(ho:PE X o to)(ha:PA X (e::es) t)
  (hbase:attributeBase o name X.env (eval o X.env)=eval o X.env:=by rfl)
  (hfew:((backTo cpos (starEach (e::es) X.env)).all (fun x=>!x.1)&&(backToKw cpos (keywordEach [] X.env)).all (fun x=>x.1.isSome)
   &&decide ((e::es).length+([]:List Keyword).length+(if([]:List Keyword).isEmpty then 0 else 1)<30))=true:=by rfl)
  (hline:(apos.endLine==cpos.line)=true:=by rfl)(hs:starEach (e::es) X.env=(false,eval e X.env)::starEach es X.env:=by rfl)(hplain:(backTo cpos (starEach es X.env)).any (·.1)=false:=by rfl):
  PE X (.Call (.Attribute o name apos) (e::es) [] cpos) (tBM X.K T r to t):=by
 intro pins s σ H Q I h
 refine wpAny_Call_method_late hbase hfew hline rfl (thn (ho pins s σ H _ I h) fun v s1 ⟨x,H1,I1,r1,ty,q1⟩=>?_)
 obtain⟨h1,h2⟩:=aAN I1 r1 ty
 refine⟨T,id,pa,slot,hty,h1,h2,?_⟩
 have hA:=ha cpos pins s1 σ H1 _ I1 q1
 rw[hs] at hA ⊢
 refine Calls.callWith_builtin (by show(false || (backTo cpos (starEach es X.env)).any (·.1))=false;rw[hplain]<;>rfl) (Calls.evalArgs_plain ?_)
 exact thn hA fun us s2 ⟨vs,H2,I2,r2,q2⟩=>hm pins s2 σ H2 x vs v us Q I2 r1 r2 q2
end
end L2
namespace L2
open PySem PySem.Spec PyProof.Rows
def MtM(X:Cx)(id:String)(r:V→List V→Hp→VK→Prop):Prop:=
 ∀ (pins:List (Addr×Obj)) (s:Shared) (σ:St) (H:Hp) (x:V) (xs:List V) (v:Value) (us:List Value) (Q:VK),Inv X pins σ H s→RelV x v→Vals xs us→r x xs H Q→
  wpAny (model X.prog X.w) X.A (call (.builtin id) (v::us)) (EP X pins σ Q) X.xe s
theorem Vals.one:∀ {x:V} {us:List Value},Vals [x] us→∃ u,us=[u]∧RelV x u
 |_,_, .cons r .nil=>⟨_,rfl,r⟩
theorem Vals.zero:∀ {us:List Value},Vals [] us→us=[]
 |_, .nil=>rfl
theorem Vals.dropLast{xs:List V}{us:List Value}(h:Vals xs us):Vals xs.dropLast us.dropLast:=by
 induction h with
 |nil=>exact .nil
 |cons r t ih=>
  cases t with
  |nil=>exact .nil
  |cons q t'=>exact .cons r ih
theorem Vals.eraseIdx:∀ {xs:List V} {us:List Value} (i:Nat),Vals xs us→Vals (xs.eraseIdx i) (us.eraseIdx i)
 |_,_,_, .nil=>.nil
 |_,_,0, .cons _ t=>t
 |_,_,i+1, .cons r t=>.cons r (Vals.eraseIdx i t)
theorem Vals.reverse{xs:List V}{us:List Value}(h:Vals xs us):Vals xs.reverse us.reverse:=by
 induction h with
 |nil=>exact .nil
 |cons r t ih=>rw[List.reverse_cons,List.reverse_cons];exact Vals.append ih (.cons r .nil)
theorem Vals.rep{xs:List V}{us:List Value}(h:Vals xs us):∀ k:Nat,Vals (List.replicate k xs).flatten (List.replicate k us).flatten
 |0=>.nil
 |k+1=>by
  rw[List.replicate_succ,List.replicate_succ,List.flatten_cons,List.flatten_cons]
  exact Vals.append h (Vals.rep h k)
theorem wG{α:Type}(l:List α):l.eraseIdx (l.length - 1)=l.dropLast:=by
 induction l with
 |nil=>rfl
 |cons a r ih=>
  cases r with
  |nil=>rfl
  |cons b r=>
   have e:(a::b::r).length - 1=((b::r).length - 1)+1:=by
    have h1:(a::b::r).length=r.length+2:=rfl
    have h2:(b::r).length=r.length+1:=rfl
    omega
   rw[e,List.eraseIdx_cons_succ,ih]
   all_goals rfl
theorem rZ{α:Type}:∀ (l:List α) (i:Nat),(l.eraseIdx i).length≤l.length
 |[],_=>Nat.le_refl _
 |_::_,0=>Nat.le_succ _
 |_::r,i+1=>Nat.succ_le_succ (rZ r i)
theorem foldl_rep(its:List Value):∀ (k:Nat) (acc:List Value),
  List.foldl (fun x1 x2=>x1++x2) acc.toArray (List.replicate k its.toArray)=(acc++(List.replicate k its).flatten).toArray
 |0,acc=>by simp
 |k+1,acc=>by
  have e:acc.toArray++its.toArray=(acc++its).toArray:=by simp
  have e2:(acc++its)++(List.replicate k its).flatten=acc++(List.replicate (k+1) its).flatten:=by
   rw[List.replicate_succ,List.flatten_cons,List.append_assoc]
  rw[← e2,← foldl_rep its k (acc++its),← e,List.replicate_succ,List.foldl_cons]
section
variable{X:Cx}{pins:List (Addr×Obj)}{σ:St}{H:Hp}{s:Shared}{l b:Addr}{xs ys zs:List V}
theorem Inv.lset{its its':List Value}{n:Nat}{f:Array Value→Array Value}{t':Nat}(I:Inv X pins σ H s)(hH:H l=some (.lst xs))
  (e:s.heap.get? l=some { cls:=.type "list",data:=.seq its.toArray n })(hf:f its.toArray=its'.toArray)(hv:Vals ys its')(hz:ys.length≤sizeLine):
  Inv X pins σ (upd H l (.lst ys)) { s with heap:=s.heap.update l (Obj.mapSeq f),toks:=t' }:=by
 have q:=PySem.IsL.update e f
 rw[hf] at q
 refine I.write (x:=l) (e:=l) (by rw[hH];exact trivial) (.inl rfl) (fun b' u hb hu=>(Heap.get?_update_other s.heap (Obj.mapSeq f) (Ne.symm hb)).trans hu) ⟨_,q⟩ ?_
 exact⟨hz,its',_,hv,q⟩
theorem Inv.lnew{its:List Value}{t':Nat}(I:Inv X pins σ H s)(hv:Vals ys its)(hz:ys.length≤sizeLine):
  Inv X pins σ (upd H s.heap.objs.size (.lst ys)) { s with heap:=s.heap.push { cls:=.type "list",data:=.seq its.toArray },toks:=t' }:=
 I.laid (fun _ _ q=>Heap.get?_push_of_some _ q) (Nat.le_refl _) ⟨hz,its,0,hv,Heap.get?_push_size _ rfl⟩
theorem Inv.fresh(I:Inv X pins σ H s):H s.heap.objs.size=none:=I.hok.fresh (Nat.le_refl _)
theorem Inv.lstM(I:Inv X pins σ H s)(hH:H l=some (.lst xs)):xs.length≤sizeLine∧∃ (its:List Value) (n:Nat),Vals xs its∧xs.length=its.length∧s.heap.get? l=some { cls:=.type "list",data:=.seq its.toArray n }:=by
 obtain⟨z,its,n,r,e⟩:=I.hok l _ hH
 exact⟨z,its,n,r,r.length,e⟩
theorem notLongL{n:Nat}(h:n≤sizeLine):Builtin.List.listTooLong n=false:=by
 unfold Builtin.List.listTooLong
 exact decide_eq_false (by omega)
end
section
variable{X:Cx}
def rAppend:V→List V→Hp→VK→Prop:=fun x vs H Q=>∃ l xs y,x=.ref l∧vs=[y]∧H l=some (.lst xs)∧xs.length<sizeLine∧Q .non (upd H l (.lst (xs++[y])))
theorem zS:MtM X "list.append" rAppend:=by
 intro pins s σ H x vs v us Q I rx rv h
 obtain⟨l,xs,y,rfl,rfl,hH,hz,q⟩:=h
 cases rx
 obtain⟨u,rfl,ru⟩:=rv.one
 obtain⟨z,its,n,r,hl,e⟩:=I.lstM hH
 refine call_meets F.slot_list_append ⟨_,e,rfl⟩ F.entry_list_append (F.args_list_append_2 _ _) (PySem.list_append l its.toArray n u (by rw[List.size_toArray];omega)) ⟨e,?_⟩
 refine⟨.non,_,I.lset (its':=its++[u]) hH e (by simp) (r.append (.cons ru .nil)) ?_,rfl,q⟩
 rw[List.length_append,List.length_singleton]
 omega
def rExtend:V→List V→Hp→VK→Prop:=fun x vs H Q=>∃ l b xs zs,x=.ref l∧vs=[.ref b]∧H l=some (.lst xs)∧H b=some (.lst zs)∧xs.length+zs.length≤sizeLine∧Q .non (upd H l (.lst (xs++zs)))
theorem zT:MtM X "list.extend" rExtend:=by
 intro pins s σ H x vs v us Q I rx rv h
 obtain⟨l,b,xs,zs,rfl,rfl,hH,hB,hz,q⟩:=h
 cases rx
 obtain⟨u,rfl,ru⟩:=rv.one
 cases ru
 obtain⟨z,its,n,r,hl,e⟩:=I.lstM hH
 obtain⟨z2,its2,n2,r2,hl2,e2⟩:=I.lstM hB
 have hsz:its.toArray.size+its2.toArray.size≤sizeLine:=by rw[List.size_toArray,List.size_toArray];omega
 have hlong:¬ (!its.toArray.isEmpty&&Builtin.List.listTooLong (its.toArray.size+its2.toArray.size))=true:=by
  rw[notLongL hsz,Bool.and_false]
  exact Bool.false_ne_true
 refine call_meets F.slot_list_extend ⟨_,e,rfl⟩ F.entry_list_extend (F.args_list_extend_2 _ _)
  (AutoSeq1.list_extend_list_list_0 l its.toArray n b its2.toArray n2 hlong (by rw[List.size_toArray];omega) (by omega)) ⟨e,e2,?_⟩
 refine⟨.non,_,I.lset (its':=its++its2) hH e (by simp) (r.append r2) ?_,rfl,q⟩
 rw[List.length_append]
 omega
def rPop:V→List V→Hp→VK→Prop:=fun x vs H Q=>∃ l xs y,x=.ref l∧vs=[]∧H l=some (.lst xs)∧xs[xs.length - 1]?=some y∧Q y (upd H l (.lst xs.dropLast))
theorem aEF:MtM X "list.pop" rPop:=by
 intro pins s σ H x vs v us Q I rx rv h
 obtain⟨l,xs,y,rfl,rfl,hH,hy,q⟩:=h
 cases rx
 have hus:=rv.zero
 subst hus
 obtain⟨z,its,n,r,hl,e⟩:=I.lstM hH
 obtain⟨u,hu,ru⟩:=r.get hy
 have hy':its.toArray[its.toArray.size - 1]?=some u:=by
  show its.toArray[its.length - 1]?=some u
  rw[← Array.getElem?_toList,← hl]
  exact hu
 refine call_meets F.slot_list_pop ⟨_,e,rfl⟩ F.entry_list_pop (F.args_list_pop_1 _) (MeetsSeq.list_pop_last l its.toArray n u hy' (by rw[List.size_toArray];omega)) ⟨e,?_⟩
 refine⟨y,_,I.lset (its':=its.dropLast) hH e ?_ r.dropLast ?_,ru,q⟩
 ·show its.toArray.eraseIdxIfInBounds (its.toArray.size - 1)=its.dropLast.toArray
  rw[List.size_toArray,List.eraseIdxIfInBounds_toArray,wG]
 ·rw[List.length_dropLast]
  omega
def rPopAt:V→List V→Hp→VK→Prop:=fun x vs H Q=>∃ l xs i k y,x=.ref l∧vs=[.int i]∧H l=some (.lst xs)∧-(2 ^ 63)≤i∧i<2 ^ 63∧seqIndex? i xs.length=some k∧xs[k]?=some y∧Q y (upd H l (.lst (xs.eraseIdx k)))
theorem aAO:MtM X "list.pop" rPopAt:=by
 intro pins s σ H x vs v us Q I rx rv h
 obtain⟨l,xs,i,k,y,rfl,rfl,hH,h1,h2,hk,hy,q⟩:=h
 cases rx
 obtain⟨u,rfl,ru⟩:=rv.one
 obtain⟨t,rfl⟩:=ru
 obtain⟨z,its,n,r,hl,e⟩:=I.lstM hH
 obtain⟨w,hw,rw'⟩:=r.get hy
 refine call_meets F.slot_list_pop ⟨_,e,rfl⟩ F.entry_list_pop (F.args_list_pop_2 _ _)
  (MeetsSeq.list_pop_at l its.toArray n i t k w (fitsIndex_both h1 h2) (by rw[List.size_toArray,← hl];exact hk) (by rw[← Array.getElem?_toList];exact hw) (by rw[List.size_toArray];omega)) ⟨e,?_⟩
 refine⟨y,_,I.lset (its':=its.eraseIdx k) hH e ?_ (r.eraseIdx k) ?_,rw',q⟩
 ·show its.toArray.eraseIdxIfInBounds k=(its.eraseIdx k).toArray
  rw[List.eraseIdxIfInBounds_toArray]
 ·have:=rZ xs k
  omega
def rReverse:V→List V→Hp→VK→Prop:=fun x vs H Q=>∃ l xs,x=.ref l∧vs=[]∧H l=some (.lst xs)∧Q .non (upd H l (.lst xs.reverse))
theorem wH:MtM X "list.reverse" rReverse:=by
 intro pins s σ H x vs v us Q I rx rv h
 obtain⟨l,xs,rfl,rfl,hH,q⟩:=h
 cases rx
 have hus:=rv.zero
 subst hus
 obtain⟨z,its,n,r,hl,e⟩:=I.lstM hH
 refine call_meets F.slot_list_reverse ⟨_,e,rfl⟩ F.entry_list_reverse (F.args_list_reverse_1 _) (AutoSeq1.list_reverse_list_0 l its.toArray n (by rw[List.size_toArray];omega)) ⟨e,?_⟩
 refine⟨.non,_,I.lset (its':=its.reverse) hH e (by simp) r.reverse ?_,rfl,q⟩
 rw[List.length_reverse]
 omega
def rCat:R2:=fun x y H Q=>∃ l b xs zs,x=.ref l∧y=.ref b∧H l=some (.lst xs)∧H b=some (.lst zs)∧xs.length+zs.length≤sizeLine∧∀ p,H p=none→Q (.ref p) (upd H p (.lst (xs++zs)))
theorem aEG:OpR X (binaryOp .Add) rCat:=by
 intro pins s σ H x y v u Q I rx ry h
 obtain⟨l,b,xs,zs,rfl,rfl,hH,hB,hz,q⟩:=h
 cases rx
 cases ry
 obtain⟨z,its,n,r,hl,e⟩:=I.lstM hH
 obtain⟨z2,its2,n2,r2,hl2,e2⟩:=I.lstM hB
 refine PySem.P.add_list e e2 ?_ (by rw[List.size_toArray,List.size_toArray];omega)
 have ea:its.toArray++its2.toArray=(its++its2).toArray:=by simp
 rw[ea]
 exact⟨.ref _,_,I.lnew (t':=s.toks) (r.append r2) (by rw[List.length_append];omega),rfl,q _ I.fresh⟩
def rRep:R2:=fun x y H Q=>∃ l k xs,x=.ref l∧y=.int k∧H l=some (.lst xs)∧-(2 ^ 63)≤k∧k<2 ^ 63∧xs.length * k.toNat≤sizeLine∧
 ∀ p,H p=none→Q (.ref p) (upd H p (.lst (List.replicate k.toNat xs).flatten))
theorem len_rep{α:Type}(xs:List α)(k:Nat):(List.replicate k xs).flatten.length=k * xs.length:=by
 induction k with
 |zero=>simp
 |succ k ih=>rw[List.replicate_succ,List.flatten_cons,List.length_append,ih,Nat.succ_mul,Nat.add_comm]
theorem aEH:OpR X (binaryOp .Mult) rRep:=by
 intro pins s σ H x y v u Q I rx ry h
 obtain⟨l,k,xs,rfl,rfl,hH,h1,h2,hz,q⟩:=h
 cases rx
 obtain⟨t,rfl⟩:=ry
 obtain⟨z,its,n,r,hl,e⟩:=I.lstM hH
 have hlen:its.toArray.size * k.toNat≤sizeLine:=by rw[List.size_toArray,← hl];exact hz
 have hcap:¬ its.toArray.size * k.toNat > (2 ^ 63 - 1) / 8:=by
  have:(sizeLine:Nat)≤(2 ^ 63 - 1) / 8:=by decide
  omega
 have hfit:¬ (!Builtin.List.listFitsIndex k)=true:=by
  rw[fitsIndex_both h1 h2]
  exact Bool.false_ne_true
 have hlong:¬ Builtin.List.listTooLong (its.toArray.size * k.toNat)=true:=by
  rw[notLongL hlen]
  exact Bool.false_ne_true
 have hnew:List.foldl (fun x1 x2=>x1++x2) #[] (List.replicate (if its.toArray.isEmpty=true then 0 else k.toNat) its.toArray)=(List.replicate k.toNat its).flatten.toArray:=by
  have f0:∀ m:Nat,List.foldl (fun x1 x2=>x1++x2) #[] (List.replicate m its.toArray)=(List.replicate m its).flatten.toArray:=fun m=>by
   have:=foldl_rep its m []
   rw[List.nil_append] at this
   exact this
  rw[f0]
  cases its with
  |nil=>simp
  |cons a r'=>rw[if_neg (by simp)]
 refine wpAny_binaryOp_repeat_ref (T:="list") (U:="int") (by decide) ⟨_,e,rfl⟩ (fun s'=>typeIs_int s' k t) noFill_list_mul F.fills_int_mul F.slot_int_rmul repeat_list F.slot_int_index.lookup
  (call_meets F.slot_int_rmul (typeIs_int s k t) F.entry_int_rmul (F.args_int_rmul_2 _ _) (int___rmul___int_list k t l its.toArray n)
   ⟨e,rfl,⟨_,e,rfl⟩,call_meets F.slot_list_mul ⟨_,e,rfl⟩ F.entry_list_mul (F.args_list_mul_2 _ _) (AutoListH.list___mul___list_int_3 l its.toArray n k t hfit hcap hlong) ⟨e,?_⟩⟩)
 rw[hnew]
 exact⟨.ref _,_,I.lnew (t':=s.toks) (r.rep k.toNat) (by rw[len_rep,Nat.mul_comm];exact hz),rfl,q _ I.fresh⟩
end
end L2
namespace Att
open PySem PySem.W PySem.Calls PyProof.Rows
theorem pU{P:Params}{h:Heap}:∀ (ns:List Int) (vs:List Value),WellAll P h vs (ns.map WData.int)→IntsAre vs ns:=by
 intro ns
 induction ns with
 |nil=>
  intro vs w
  rw[List.map_nil] at w
  cases w
  exact .nil
 |cons n ns ih=>
  intro vs w
  rw[List.map_cons] at w
  cases w with
  |cons a b=>
   cases a
   exact .cons _ _ (ih _ b)
theorem zU{l:OpenLaw}{n:Nat}(hn:l.most=some n){P:Params}{h:Heap}{args:List WData}{vals:List Value}
  (hpre:l.row.toRowW.claim.pre args=true)(hwl:WellAll P h vals args):
  ∃ a vs ns,vals=[Value.ref a]∧args=[WData.list (ns.map WData.int)]∧h.get? a=some { cls:=.type "list",data:=.seq vs.toArray }∧IntsAre vs ns∧ns.length≤n:=by
 have hsh:WShape.hasAll [] args [.list .int]=true:=(pre_splitW hpre).1
 have hc:l.pre.holds [] { args:=args }=true:=(pre_splitW hpre).2
 obtain⟨d,r,rfl,h1,h2⟩:=hasAllW_cons hsh
 obtain rfl:=hasAllW_nil h2
 obtain⟨xs,rfl,h3⟩:=hasW_list h1
 obtain⟨ns,rfl⟩:=items_int h3
 have hlen:ns.length≤n:=by
  unfold OpenLaw.pre at hc
  have h4:(WTm.not (.lt (.lit (.int (n:Int))) (.len (.arg 0)))).holds [] { args:=[.list (ns.map .int)] }=true:=by
   have h4:=(holds_andW hc).1
   rw[hn] at h4
   exact h4
  have h5:=condW_of h4 (w_not (w_lt w_lit (w_len_list (w_arg rfl))))
  rw[List.length_map] at h5
  refine Nat.le_of_not_lt fun q=>?_
  have q':(n:Int) < ((ns.length:Nat):Int):=by omega
  first
   |(rw[decide_eq_true q'] at h5;exact absurd h5 (by decide))
   |(simp at h5;omega)
 cases hwl with
 |cons w1 w2=>
  cases w2
  cases w1 with
  |list ho hall=>exact⟨_,_,ns,rfl,rfl,ho,pU ns _ hall,hlen⟩
theorem zV(l:OpenLaw)(args:List WData):l.row.toRowW.claim.post args (.bool true) args=true:=
 postW_of (r:=l.row.toRowW) (X:=(true==true))
  (show WShape.has [] (.bool true) .bool=true by first|rfl|decide|simp[WShape.has,WShape.arms,WShape.armsAll])
  (show(WTm.eq .res (.lit (.bool true))).value [] { args:=args,res:=some (.bool true),after:=args }=some (.bool (true==true)) from w_eq_bool (w_res rfl) w_lit) rfl
theorem attach_call{l:OpenLaw}{n:Nat}{q:Program}{loose:List Str}{XP:(Str→Option Value)→Heap→Prop}{YP:World→Heap→Prop}{d:DefRec}
  (hn:l.most=some n)(hdf:d.params.defaults=[])
  (call:∀ (w:World) (s₀ s₁:Shared) (mg mb:Str→Option Value) (fa:Addr) (o:Obj) (pm cd doc:Value) (a:Addr) (vs:List Value) (ns:List Int),
   Ground q loose [] XP w s₀ mg mb s₁.heap→YP w s₁.heap→
   s₁.heap.get? fa=some o→o.data=.func (docDef d.name d.params d.body d.scope pm cd doc)→s₁.heap.CodeRec cd d.name→mg d.name=some (.ref fa)→
   s₁.heap.get? a=some { cls:=.type "list",data:=.seq vs.toArray }→IntsAre vs ns→ns.length≤n→s₁.gens=#[]→
   codeAny (model l.prog w) callerA (.call (.ref fa) ⟨[.ref a],[]⟩) (fun r s'=>r=.ok (.ret (.bool true))∧OldK s₁.heap s'.heap∧s'.os=s₁.os∧AllBare s'.gens) s₁):
  WalkO q loose XP YP l.row.toRowW d [] (fun f vs=>PySem.call f vs):=by
 intro w s₀ s₁ mg mb G Y fa o pm cd doc dV kV ho hd hcd hD hmg hg args vals as hpre hlay hrd hwl hlo
 obtain rfl:dV=.none:=Dflts.none hD hdf
 obtain rfl:kV=.none:=Dflts.noKw hD
 obtain⟨a,vs,ns,rfl,rfl,hobj,hints,hlen⟩:=zU hn hpre hwl
 refine enter_call (codeAny_mono (call w s₀ s₁ mg mb fa o pm cd doc a vs ns G Y ho (fd_plain hd) hcd hmg hobj hints hlen hg) fun r s' hq=>?_)
 obtain⟨rfl,h2,h3,h4⟩:=hq
 exact⟨.inl ⟨.bool true, .bool true,[],rfl,fun _=>rfl, .bool true,zV l _,fun _=>⟨List.Pairwise.nil,fun _ hm=>(nomatch hm)⟩⟩,h2,h3,h4⟩
end Att
namespace L2
open PySem PySem.Spec PyProof.Rows
theorem sC:∀ {vs:List Value} {ns:List Int},IntsAre vs ns→Vals (ns.map V.int) vs
 |_,_, .nil=>.nil
 |_,_, .cons n t h=>.cons ⟨t,rfl⟩ (sC h)
def Only(H:Hp):Prop:=∀ b,H b=none∨∃ o xs,H b=some (.frz o (.lst xs))
theorem aAP{P:Program}{w:World}{K:PySem.W.Frag}{mg mb:Str→Option Value}{CX:CXT}{k:Nat}{fa a:Addr}{fd:FuncData}{x:Str}{sp:Sp}{s₁:Shared}{vs:List Value}{ns:List Int}
  (KX:K.In s₁.heap)(hns:s₁.heap.Ns mainGlobals mg)(hb:s₁.heap.Ns builtinsNs mb)(hbb:∀ x:Str,x≠"__name__"→mb x=bootBuiltins x)(hlim:s₁.heap.NoLimit)(hg:s₁.gens=#[])
  (ha:s₁.heap.get? a=some { cls:=.type "list",data:=.seq vs.toArray })(hi:IntsAre vs ns)(hl:ns.length≤sizeLine)(hr:Room k callerA)
  (F:∀ base:Heap,K.In base→base.Ns mainGlobals mg→FnOk P w K mg base CX k fa fd [x] sp)(hbind:∀ (s:Shared) (u:Value),BindsTo s fd ⟨[u],[]⟩ [(x,u)])
  (hsp:∀ H:Hp,Only H→SqL K H a (ns.map V.int)→sp [.ref a] H (fun v _=>v=.bl true) fun _ _ _=>False)
  (hCX:∀ H e s',CX [] H s₁ (fun _ _ _=>False) e s'→False):
  codeAny (model P w) callerA (.call (.ref fa) ⟨[.ref a],[]⟩) (fun r s'=>r=.ok (.ret (.bool true))∧OldK s₁.heap s'.heap∧s'.os=s₁.os∧AllBare s'.gens) s₁:=by
 have rv:=sC hi
 have lenV:=hi.length
 have core:∀ H:Hp,Only H→SqL K H a (ns.map V.int)→HOk P w H s₁.heap→(∀ b,H b≠none→b=a)→(H a≠none→K.lookup a=none)→
   codeAny (model P w) callerA (.call (.ref fa) ⟨[.ref a],[]⟩) (fun r s'=>r=.ok (.ret (.bool true))∧OldK s₁.heap s'.heap∧s'.os=s₁.os∧AllBare s'.gens) s₁:=by
  intro H hO hS hok hA hK
  have base_of:∀ {b:Addr} {o:Obj},s₁.heap.get? b=some o→H b=none→(hidT s₁.heap H).get? b=some o:=fun e n=>aAy e n
  have noA:∀ {b:Addr} {o:Obj} {es:Array DictEntry} {ep:Nat},s₁.heap.get? b=some o→o.data=.dict es ep→H b=none:=fun {b o es ep} e d=>by
   cases q:H b with
   |none=>rfl
   |some u=>
    have e':b=a:=hA b (by rw[q];simp)
    subst e'
    rw[ha] at e;cases e
    have d':Data.seq vs.toArray _=Data.dict es ep:=d
    cases d'
  have nsK:∀ {b:Addr} {m:Str→Option Value},s₁.heap.Ns b m→(hidT s₁.heap H).Ns b m:=fun {b m} ⟨o,es,ep,e,d,r⟩=>⟨o,es,ep,base_of e (noA e d),d,r⟩
  have hKb:K.In (hidT s₁.heap H):=fun b o e=>base_of (KX b o e) (by
   cases q:H b with
   |none=>rfl
   |some u=>
    have e':b=a:=hA b (by rw[q];simp)
    subst e'
    rw[hK (by rw[q];simp)] at e;cases e)
  have hM:Mod K mg (hidT s₁.heap H):=⟨hKb,nsK hns,⟨mb,nsK hb,hbb⟩,let ⟨mc,h1,h2⟩:=hlim;⟨mc,nsK h1,h2⟩⟩
  have e0:Env0 P w K mg (hidT s₁.heap H) callerA [] s₁ H:=⟨rfl,hM,fun b o e=>aCl e,Nat.le_of_eq (zG _ _),trivial,fun b hb=>absurd (show b∈([]:List Addr) from hb) (by simp),hok, .of_eq hg⟩
  refine codeAny_mono ((F _ hKb (nsK hns)).run callerA [] s₁ H ⟨[.ref a],[]⟩ [.ref a] [.ref a] _ _ hr e0 (hbind s₁ (.ref a)) (.cons rfl .nil) (hsp H hO hS)) fun r s' h=>?_
  cases r with
  |error e=>exact(hCX H e s' h).elim
  |ok fl=>
   cases fl with
   |next=>exact False.elim h
   |brk=>exact False.elim h
   |cont=>exact False.elim h
   |ret u=>
    obtain⟨v,H',os,bare,un,hok',r',q⟩:=h
    have q':v=.bl true:=q
    subst q'
    obtain rfl:u=Value.bool true:=r'
    refine⟨rfl,OldK.of_keep fun b o e=>?_,os,bare⟩
    cases q:H b with
    |none=>exact un.keep b o e q (by intro z;exact absurd (show b∈([]:List Addr) from z) (by simp)) (by simp)
    |some u=>
     rcases hO b with z|⟨ob,xs,z⟩
     ·rw[q] at z;cases z
     ·have z2:=un.frzs b ob _ z
      obtain⟨e1,_⟩:=hok b _ z
      obtain⟨e2,_⟩:=hok' b _ z2
      rw[e] at e1;cases e1
      exact e2
 cases hk:K.lookup a with
 |some o=>
  have e:=KX a o hk
  rw[ha] at e
  cases e
  refine core (fun _=>none) (fun _=>.inl rfl) (.inr ⟨_,vs.toArray,_,hk,rfl,rfl,rfl,by rw[List.size_toArray,lenV];exact hl,by simpa using rv⟩) (fun b u z=>by have z':(none:Option HO)=some u:=z;cases z') (fun b z=>absurd rfl z) fun z=>absurd rfl z
 |none=>
  refine core (fun b=>if b=a then some (.frz { cls:=.type "list",data:=.seq vs.toArray } (.lst (ns.map V.int))) else none) (fun b=>?_) (.inl (.inr ⟨{ cls:=.type "list",data:=.seq vs.toArray },if_pos rfl⟩)) (fun b u z=>?_) (fun b z=>?_) fun _=>hk
  ·by_cases hb:b=a
   ·exact .inr ⟨_,_,if_pos hb⟩
   ·exact .inl (if_neg hb)
  ·by_cases hb:b=a
   ·have z':=(if_pos hb).symm.trans z
    cases z'
    subst hb
    exact⟨ha,by rw[List.length_map];exact hl,vs,_,rv,ha⟩
   ·have z':=(if_neg hb).symm.trans z
    cases z'
  ·by_cases hb:b=a
   ·exact hb
   ·exact absurd (if_neg hb) z
end L2
namespace L2
open PySem PySem.Spec PyProof.Rows
theorem aCG{l:PySem.W.OpenLaw}{n k:Nat}{q:Program}{loose:List Str}{XP:(Str→Option Value)→Heap→Prop}{YP:World→Heap→Prop}{d:DefRec}{K:Params→PySem.W.Frag}{CX:World→CXT}{sp:World→Sp}{x:Str}
  (hn:l.most=some n)(hn2:n≤sizeLine)(hdf:d.params.defaults=[])(hr:Room k callerA)
  (hY:∀ (w:World) (h:Heap),YP w h→(K w.params).In h)
  (F:∀ (w:World) (mg:Str→Option Value) (fa:Addr) (h:Heap),(K w.params).In h→h.Ns mainGlobals mg→mg d.name=some (.ref fa)→
   ∃ fd:FuncData,(∀ (s:Shared) (u:Value),BindsTo s fd ⟨[u],[]⟩ [(x,u)])∧
    ∀ base:Heap,(K w.params).In base→base.Ns mainGlobals mg→FnOk l.prog w (K w.params) mg base (CX w) k fa fd [x] (sp w))
  (hsp:∀ (w:World) (H:Hp) (a:Addr) (ns:List Int),ns.length≤n→Only H→SqL (K w.params) H a (ns.map V.int)→sp w [.ref a] H (fun v _=>v=.bl true) fun _ _ _=>False)
  (hCX:∀ (w:World) (H:Hp) (s:Shared) (e:Value) (s':Shared),CX w [] H s (fun _ _ _=>False) e s'→False):
  PySem.W.WalkO q loose XP YP l.row.toRowW d [] (fun f vs=>PySem.call f vs):=by
 refine Att.attach_call hn hdf fun w s₀ s₁ mg mb fa o pm cd doc a vs ns G Y ho hd hcd hmg hobj hints hlen hg=>?_
 have KX:=hY w _ Y
 obtain⟨fd,hb,hF⟩:=F w mg fa _ KX G.T.g hmg
 exact aAP KX G.T.g G.T.b G.T.builtins G.T.nolimit hg hobj hints (Nat.le_trans hlen hn2) hr hF hb (fun H hO hS=>hsp w H a ns hlen hO hS) fun H e s'=>hCX w H s₁ e s'
theorem aAQ{l:PySem.W.OpenLaw}{n k:Nat}{q:Program}{loose:List Str}{XP:(Str→Option Value)→Heap→Prop}{YP:World→Heap→Prop}{d:DefRec}{K:Params→PySem.W.Frag}{CX:CXT}{sp:PySem.W.Frag→Sp}{x:Str}
  (hn:l.most=some n)(hn2:n≤sizeLine)(hdf:d.params.defaults=[])(hr:Room k callerA)
  (hY:∀ (w:World) (h:Heap),YP w h→(K w.params).In h)
  (F:∀ (w:World) (mg:Str→Option Value) (fa:Addr) (h:Heap),(K w.params).In h→h.Ns mainGlobals mg→mg d.name=some (.ref fa)→
   ∃ fd:FuncData,(∀ (s:Shared) (u:Value),BindsTo s fd ⟨[u],[]⟩ [(x,u)])∧
    ∀ base:Heap,(K w.params).In base→base.Ns mainGlobals mg→FnOk l.prog w (K w.params) mg base CX k fa fd [x] (sp (K w.params)))
  (hsp:∀ (K:PySem.W.Frag) (H:Hp) (a:Addr) (ns:List Int),ns.length≤n→Only H→SqL K H a (ns.map V.int)→sp K [.ref a] H (fun v _=>v=.bl true) fun _ _ _=>False)
  (hCX:∀ (H:Hp) (s:Shared) (e:Value) (s':Shared),CX [] H s (fun _ _ _=>False) e s'→False):
  PySem.W.WalkO q loose XP YP l.row.toRowW d [] (fun f vs=>PySem.call f vs):=
 aCG (K:=K) (CX:=fun _=>CX) (sp:=fun w=>sp (K w.params)) hn hn2 hdf hr hY F (fun w H a ns h1 h2 h3=>hsp (K w.params) H a ns h1 h2 h3) fun _ H s e s'=>hCX H s e s'
end L2
namespace L2
open PySem PySem.Spec PyProof.Rows
def defArgs(s:Stmt):Arguments:=match s with
 | .FunctionDef _ a _ _ _ _ _ _ _ _=>a
 |_=>{ posonlyargs:=[],args:=[],vararg:=none,kwonlyargs:=[],kw_defaults:=[],kwarg:=none,defaults:=[] }
def defBody(s:Stmt):List Stmt:=match s with
 | .FunctionDef _ _ b _ _ _ _ _ _ _=>b
 |_=>[]
def defScope(s:Stmt):Scope:=match s with
 | .FunctionDef _ _ _ _ _ _ sc _ _ _=>sc
 |_=>{ kind:=.function,names:=[],isGenerator:=false,isCoroutine:=false }
abbrev CX0:CXT:=fun _ _ _ _ _ _=>False
abbrev E0:XK:=fun _ _ _=>False
theorem pass0{X:Cx}:Passes CX0 X E0:=fun _ _ _ _ _ _ _ h=>h.elim
structure Fun (K:PySem.W.Frag) (x qual:Str) (st:Stmt) (f:Addr) (fd:FuncData):Prop where
 ex:∃ (oc:Value) (od:Option Addr) (kV doc pm:Value) (an:Option Addr) (cdv ct:Value) (osl:Array (Option Value)),
  fd=PySem.W.fnOf x qual (defArgs st) (defBody st) (defScope st) .none kV doc pm an cdv ct∧K.lookup f=some ⟨oc,od, .func fd,osl⟩∧PySem.W.codeIn K cdv qual=true
 kp:PySem.W.keepIn K (.ref f)=true
section
variable{P:Program}{w:World}{K:PySem.W.Frag}{mg:Str→Option Value}{base:Heap}
theorem Fun.ok{x qual:Str}{st:Stmt}{f:Addr}{fd:FuncData}{N ps:List Str}{k:Nat}{sp:Sp}(F:Fun K x qual st f fd)(S:FnScope N ps (defScope st))(len:∀ vs H Q E,sp vs H Q E→vs.length=ps.length)
  (hbody:∀ (cdv:Value) (A:Around) (outer:List Env) (s:Shared) (H:Hp) (vs:List V) (Q:VK) (E:XK),Room k (A.deeper (envOfC qual (defScope st) s.heap.objs.size f cdv))→sp vs H Q E→
   ∃ t,PSs (cxOf CX0 P w K mg base N qual (defScope st) f cdv A outer s H E).nox (defBody st) t∧t { nx:=fun _ H'=>Q .non H',rt:=Q } (start N vs) H):FnOk P w K mg base CX0 (k+1) f fd ps sp:=by
 obtain⟨oc,od,kV,doc,pm,an,cdv,ct,osl,rfl,lk,hcd⟩:=F.ex
 refine aGd lk hcd S len fun A outer s H vs Q E hr hsp=>?_
 obtain⟨t,h,q⟩:=hbody cdv A outer s H vs Q E hr hsp
 exact⟨t,h.nox,q⟩
theorem Fun.binds{x qual:Str}{st:Stmt}{f:Addr}{fd:FuncData}{ps:List Str}(F:Fun K x qual st f fd)
  (h:∀ (kV doc pm:Value) (an:Option Addr) (cdv ct:Value) (us:List Value),us.length=ps.length→bindArgs (PySem.W.fnOf x qual (defArgs st) (defBody st) (defScope st) .none kV doc pm an cdv ct) ⟨us,[]⟩=pure (ps.zip us)):Binds K fd ps []:=by
 obtain⟨oc,od,kV,doc,pm,an,cdv,ct,osl,rfl,lk,hcd⟩:=F.ex
 exact .all (h kV doc pm an cdv ct)
theorem aAR{x qual:Str}{st:Stmt}{f:Addr}{oc:Value}{od an:Option Addr}{osl:Array (Option Value)}{kV doc pm cdv ct:Value}(l:K.lookup f=some ⟨oc,od, .func (PySem.W.fnOf x qual (defArgs st) (defBody st) (defScope st) .none kV doc pm an cdv ct),osl⟩)
  (c:PySem.W.codeIn K cdv qual=true)(k:PySem.W.keepIn K (.ref f)=true):Fun K x qual st f (PySem.W.fnOf x qual (defArgs st) (defBody st) (defScope st) .none kV doc pm an cdv ct):=⟨⟨oc,od,kV,doc,pm,an,cdv,ct,osl,rfl,l,c⟩,k⟩
end
theorem aGg{A:Around}{k:Nat}(hr:Room k A):A.units+1<cLine:=Nat.lt_of_le_of_lt (Nat.add_le_add_left (by decide:1≤64) _) hr.units
def Same(H H':Hp):Prop:=∀ b o,H b=some o→H' b=some o
theorem Same.refl(H:Hp):Same H H:=fun _ _ h=>h
end L2
end
section
namespace L2
open PySem PySem.Spec PyProof.Rows
section
variable{κ:Type}[DecidableEq κ]
def valV(kvs:List (κ×V))(k:κ):Option V:=(kvs.find? fun kv=>decide (kv.1=k)).map (·.2)
def putK(kvs:List (κ×V))(k:κ)(v:V):List (κ×V):=
 if(kvs.any fun kv=>decide (kv.1=k))=true then kvs.map (fun kv=>if kv.1=k then(kv.1,v) else kv) else kvs++[(k,v)]
theorem nR{p:κ×V}{r:List (κ×V)}{k:κ}(e:p.1=k):valV (p::r) k=some p.2:=by simp[valV,List.find?_cons,e]
theorem nU{p:κ×V}{r:List (κ×V)}{k:κ}(e:¬ p.1=k):valV (p::r) k=valV r k:=by simp[valV,List.find?_cons,e]
theorem uT(k:κ):∀ kvs:List (κ×V),(kvs.any fun kv=>decide (kv.1=k))=(valV kvs k).isSome
 |[]=>rfl
 |p::r=>by
  rw[List.any_cons]
  by_cases e:p.1=k
  ·simp only[nR e,decide_eq_true e,Bool.true_or,Option.isSome_some]
  ·rw[nU e,decide_eq_false e,Bool.false_or];exact uT k r
theorem lU(kvs:List (κ×V))(k:κ)(v:V):(putK kvs k v).length≤kvs.length+1:=by
 unfold putK
 split
 ·rw[List.length_map];omega
 ·rw[List.length_append,List.length_cons,List.length_nil];omega
theorem RelO.isSome_eq{o:Option V}{u:Option Value}(r:RelO o u):o.isSome=u.isSome:=by
 cases o with
 |none=>cases u with
  |none=>rfl
  |some _=>exact(show False from r).elim
 |some _=>cases u with
  |none=>exact(show False from r).elim
  |some _=>rfl
theorem RelO.getD{o:Option V}{u:Option Value}{d:V}{d':Value}(r:RelO o u)(rd:RelV d d'):RelV (o.getD d) (u.getD d'):=by
 cases o with
 |none=>cases u with
  |none=>exact rd
  |some _=>exact(show False from r).elim
 |some _=>cases u with
  |none=>exact(show False from r).elim
  |some _=>exact r
theorem KV.val{kvs:List (κ×V)}{vs:List (κ×Value)}(r:KV kvs vs)(k:κ):RelO (valV kvs k) (valueAt vs k):=by
 unfold KV at r
 induction r with
 |nil=>exact True.intro
 |@cons p q ps qs h t ih=>
  obtain⟨h1,h2⟩:=h
  by_cases e:p.1=k
  ·have e':q.1=k:=h1.symm.trans e
   have b:valueAt (q::qs) k=some q.2:=by simp[valueAt,List.find?_cons,e']
   rw[nR e,b];exact h2
  ·have e':¬ q.1=k:=fun z=>e (h1.trans z)
   have b:valueAt (q::qs) k=valueAt qs k:=by simp[valueAt,List.find?_cons,e']
   rw[nU e,b];exact ih
theorem KV.any{kvs:List (κ×V)}{vs:List (κ×Value)}(r:KV kvs vs)(k:κ):(kvs.any fun kv=>decide (kv.1=k))=vs.any fun kv=>decide (kv.1=k):=by
 unfold KV at r
 induction r with
 |nil=>rfl
 |cons h t ih=>rw[List.any_cons,List.any_cons,ih,h.1]
theorem KV.repl{kvs:List (κ×V)}{vs:List (κ×Value)}(r:KV kvs vs)(k:κ){y:V}{u:Value}(ry:RelV y u):
  KV (kvs.map fun kv=>if kv.1=k then(kv.1,y) else kv) (vs.map fun kv=>if kv.1=k then(kv.1,u) else kv):=by
 unfold KV at r ⊢
 induction r with
 |nil=>exact .nil
 |@cons p q ps qs h t ih=>
  rw[List.map_cons,List.map_cons]
  refine .cons ?_ ih
  obtain⟨h1,h2⟩:=h
  by_cases e:p.1=k
  ·rw[if_pos e,if_pos (h1.symm.trans e)];exact⟨h1,ry⟩
  ·rw[if_neg e,if_neg (fun z=>e (h1.trans z))];exact⟨h1,h2⟩
theorem KV.put{kvs:List (κ×V)}{vs:List (κ×Value)}(r:KV kvs vs)(k:κ){y:V}{u:Value}(ry:RelV y u):KV (putK kvs k y) (stored vs k u):=by
 unfold putK stored
 rw[r.any k]
 by_cases e:(vs.any fun kv=>decide (kv.1=k))=true
 ·rw[if_pos e,if_pos e];exact r.repl k ry
 ·rw[if_neg e,if_neg e];exact Paired.snoc r ⟨rfl,ry⟩
theorem KV.length{kvs:List (κ×V)}{vs:List (κ×Value)}(r:KV kvs vs):kvs.length=vs.length:=Paired.length r
end
theorem sD{P:Program}{w:World}{k:Key}{u:Value}(r:RelV (kV k) u):(mixKind P w).is k u=true:=by
 cases k with
 |inl i=>obtain⟨t,e⟩:=(show ∃ t,u=Value.int i t from r);subst e;exact uM P w i t
 |inr x=>obtain⟨t,e⟩:=(show ∃ t,u=Value.str x t from r);subst e;exact uN P w x t
theorem sG{P:Program}{w:World}:∀ {ks:List Key} {us:List Value},Vals (ks.map kV) us→ItemsAre (mixKind P w) ks us
 |[],_,r=>by rw[List.map_nil] at r;cases r;exact .nil
 |k::ks,_,r=>by
  rw[List.map_cons] at r
  cases r with
  |cons h t=>exact .cons (sD h) (sG t)
abbrev KT(H:Hp):List (List Key×V)→List (List Key×Addr×Value)→Prop:=Paired fun p q=>p.1=q.1∧H q.2.1=some (.tup (p.1.map kV))∧RelV p.2 q.2.2
theorem KT.val{H:Hp}{kvs:List (List Key×V)}{xs:List (List Key×Addr×Value)}(r:KT H kvs xs)(k:List Key):RelO (valV kvs k) ((atKey xs k).map (·.2)):=by
 induction r with
 |nil=>exact True.intro
 |@cons p q ps qs h t ih=>
  obtain⟨h1,_,h2⟩:=h
  by_cases e:p.1=k
  ·have e':q.1=k:=h1.symm.trans e
   have b:atKey (q::qs) k=some q.2:=by simp[atKey,List.find?_cons,e']
   rw[nR e,b];exact h2
  ·have e':¬ q.1=k:=fun z=>e (h1.trans z)
   have b:atKey (q::qs) k=atKey qs k:=by simp[atKey,List.find?_cons,e']
   rw[nU e,b];exact ih
theorem KT.repl{H:Hp}{kvs:List (List Key×V)}{xs:List (List Key×Addr×Value)}(r:KT H kvs xs)(k:List Key){y:V}{u:Value}(ry:RelV y u):
  KT H (kvs.map fun kv=>if kv.1=k then(kv.1,y) else kv) (xs.map (putAt k u)):=by
 induction r with
 |nil=>exact .nil
 |@cons p q ps qs h t ih=>
  rw[List.map_cons,List.map_cons]
  refine .cons ?_ ih
  obtain⟨h1,h2,h3⟩:=h
  unfold putAt
  by_cases e:p.1=k
  ·rw[if_pos e,if_pos (h1.symm.trans e)];exact⟨h1,h2,ry⟩
  ·rw[if_neg e,if_neg (fun z=>e (h1.trans z))];exact⟨h1,h2,h3⟩
theorem KT.put{H:Hp}{kvs:List (List Key×V)}{xs:List (List Key×Addr×Value)}(r:KT H kvs xs)(k:List Key){b:Addr}{y:V}{u:Value}(hb:H b=some (.tup (k.map kV)))(ry:RelV y u):
  KT H (putK kvs k y) (storedH xs k b u):=by
 have e:(kvs.any fun kv=>decide (kv.1=k))=(atKey xs k).isSome:=by
  rw[uT,(r.val k).isSome_eq,Option.isSome_map]
 unfold putK storedH
 rw[e]
 by_cases q:(atKey xs k).isSome=true
 ·rw[if_pos q,if_pos q];exact r.repl k ry
 ·rw[if_neg q,if_neg q];exact Paired.snoc r ⟨rfl,hb,ry⟩
theorem KT.keeps{H H':Hp}{kvs:List (List Key×V)}{xs:List (List Key×Addr×Value)}(r:KT H kvs xs)(ht:∀ b ys,H b=some (.tup ys)→H' b=some (.tup ys)):KT H' kvs xs:=
 Paired.mapP r fun _ _ z=>⟨z.1,ht _ _ z.2.1,z.2.2⟩
section
variable{P:Program}{w:World}{H:Hp}{h:Heap}{a:Addr}
theorem aDK{u:HO}(ok:HOk P w H h)(e:Rd H a u):ObjOk P w H h a u:=e.ok ok
theorem sH{kvs:List (Key×V)}(ok:HOk P w H h)(e:Rd H a (.dK kvs)):kvs.length≤sizeLine∧(a==sysModules)=false∧∃ vs,KV kvs vs∧h.DictOf (mixKind P w) a vs:=
 show ObjOk P w H h a (.dK kvs) from aDK ok e
theorem aDL{kvs:List (Key×V)}(ok:HOk P w H h)(e:H a=some (.dK kvs)):kvs.length≤sizeLine∧(a==sysModules)=false∧∃ vs,KV kvs vs∧h.DictOf (mixKind P w) a vs:=sH ok (.inl e)
theorem qJ{ks:List Key}(ok:HOk P w H h)(e:H a=some (.tup (ks.map kV))):(tupleKind (mixKind P w)).is h ks a:=by
 obtain⟨_,its,r,o,h1,h2,n,h3⟩:=(show ObjOk P w H h a (.tup (ks.map kV)) from ok a _ e)
 exact⟨o,its.toArray,n,h1,h2,h3,by simpa using sG r⟩
theorem sJ{kvs:List (List Key×V)}(ok:HOk P w H h)(e:Rd H a (.dT kvs)):kvs.length≤sizeLine∧(a==sysModules)=false∧
  ∃ xs,KT H kvs xs∧h.DictOfH (tupleKind (mixKind P w)) a xs:=by
 obtain⟨z,y,xs,r,o,es,ep,h1,h2,h3,h4,h5⟩:=(show ObjOk P w H h a (.dT kvs) from aDK ok e)
 refine⟨z,y,xs,r,o,es,ep,h1,h2,h3,h4,fun x hx=>?_,h5⟩
 have all:∀ {l:List (List Key×V)} {m:List (List Key×Addr×Value)},KT H l m→∀ x∈m,(tupleKind (mixKind P w)).is h x.1 x.2.1:=by
  intro l m q
  induction q with
  |nil=>intro x hx;exact nomatch hx
  |@cons p q ps qs hq t ih=>
   intro x hx
   rcases List.mem_cons.mp hx with e|hx
   ·subst e
    exact qJ ok (by rw[← hq.1];exact hq.2.1)
   ·exact ih x hx
 exact all r x hx
theorem aGh{kvs:List (List Key×V)}(ok:HOk P w H h)(e:H a=some (.dT kvs)):kvs.length≤sizeLine∧(a==sysModules)=false∧
  ∃ xs,KT H kvs xs∧h.DictOfH (tupleKind (mixKind P w)) a xs:=sJ ok (.inl e)
end
def DGet(H:Hp)(a:Addr)(y:V)(r:Option V):Prop:=
 (∃ kvs k,Rd H a (.dK kvs)∧y=kV k∧r=valV kvs k)∨∃ kvs k b,Rd H a (.dT kvs)∧y=.ref b∧H b=some (.tup (k.map kV))∧r=valV kvs k
def DPut(H:Hp)(a:Addr)(y v:V)(H':Hp):Prop:=
 (∃ kvs k,H a=some (.dK kvs)∧y=kV k∧kvs.length<sizeLine∧H'=upd H a (.dK (putK kvs k v)))∨
 ∃ kvs k b,H a=some (.dT kvs)∧y=.ref b∧H b=some (.tup (k.map kV))∧kvs.length<sizeLine∧H'=upd H a (.dT (putK kvs k v))
theorem DGet.k{H:Hp}{a:Addr}{kvs:List (Key×V)}{k:Key}(e:H a=some (.dK kvs)):DGet H a (kV k) (valV kvs k):=.inl ⟨kvs,k, .inl e,rfl,rfl⟩
theorem DPut.k{H:Hp}{a:Addr}{kvs:List (Key×V)}{k:Key}{v:V}(e:H a=some (.dK kvs))(hl:kvs.length<sizeLine):DPut H a (kV k) v (upd H a (.dK (putK kvs k v))):=.inl ⟨kvs,k,e,rfl,hl,rfl⟩
section
variable{X:Cx}{pins:List (Addr×Obj)}{σ:St}{H:Hp}{s:Shared}{a:Addr}{y v:V}{u r:Value}{o:Option V}{A:Around}{E:Value→Shared→Prop}
theorem Inv.big(I:Inv X pins σ H s):sysModules<s.heap.objs.size:=by
 have h:mainGlobals<s.heap.objs.size:=(I.mod.glob.keeps I.bk).lt
 exact Nat.lt_trans (by decide) h
theorem zW{Q:Value→Shared→Prop}(hu:A.units+1<cLine)(I:Inv X pins σ H s)(g:DGet H a y (some v))(ry:RelV y u)(h:∀ w' s',Inv X pins σ H s'→RelV v w'→Q w' s'):
  wpAny (model X.prog X.w) A (getItem (.ref a) u) Q E s:=by
 rcases g with⟨kvs,k,e,ey,l⟩|⟨kvs,k,b,e,ey,eb,l⟩
 ·subst ey
  obtain⟨z,hd,vs,rel,dd⟩:=sH I.hok e
  obtain⟨w',hw,rw'⟩:=RelO.some_of (v:=v) (o:=valueAt vs k) (by rw[l];exact rel.val k)
  exact wpAny_getItem_of (sD ry) dd.mapOf hw (h w' _ (I.tok _) rw')
 ·subst ey
  cases (show u=Value.ref b from ry)
  obtain⟨z,hd,xs,rel,dd⟩:=sJ I.hok e
  obtain⟨w',hw,rw'⟩:=RelO.some_of (v:=v) (o:=(atKey xs k).map (·.2)) (by rw[l];exact rel.val k)
  obtain⟨p,hp,hp2⟩:=Option.map_eq_some_iff.mp hw
  refine wpAny_getItem_heap (tupleKind_room_in1 hu) (qJ I.hok eb) dd hp ?_
  rw[hp2]
  exact h w' _ (I.tok _) rw'
theorem aGB{Q:Value→Shared→Prop}(hu:A.units+1<cLine)(I:Inv X pins σ H s)(g:DGet H a y o)(ry:RelV y u)(h:∀ s',Inv X pins σ H s'→Q (.bool o.isSome) s'):
  wpAny (model X.prog X.w) A (compareOp .In u (.ref a)) Q E s:=by
 rcases g with⟨kvs,k,e,ey,l⟩|⟨kvs,k,b,e,ey,eb,l⟩
 ·subst ey
  obtain⟨z,hd,vs,rel,dd⟩:=sH I.hok e
  refine wpAny_in_of (sD ry) hd dd.mapOf ?_
  rw[← (rel.val k).isSome_eq,← l]
  exact h _ (I.tok _)
 ·subst ey
  cases (show u=Value.ref b from ry)
  obtain⟨z,hd,xs,rel,dd⟩:=sJ I.hok e
  refine wpAny_in_heap (tupleKind_room_in1 hu) (qJ I.hok eb) hd dd ?_
  have q:=(rel.val k).isSome_eq
  rw[Option.isSome_map] at q
  rw[← q,← l]
  exact h _ (I.tok _)
theorem tK{h':Heap}{t':Nat}{ob:HO}(I:Inv X pins σ H s)(mu:Mut (H a))(hs:Heap.SameBut a s.heap h')(he:∃ q,h'.get? a=some q)(new:ObjOk X.prog X.w (upd H a ob) h' a ob):
  Inv X pins σ (upd H a ob) { s with heap:=h',toks:=t' }:=
 I.write (x:=a) (e:=a) mu (.inl rfl) (fun b q hb z=>(hs.2 b hb).trans z) he new
theorem aAS{P:Program}{w:World}{H':Hp}{h':Heap}{kvs:List (Key×V)}{vs:List (Key×Value)}(z:kvs.length≤sizeLine)(hd:(a==sysModules)=false)(rel:KV kvs vs)(dd:h'.DictOf (mixKind P w) a vs):
  ObjOk P w H' h' a (.dK kvs):=⟨z,hd,vs,rel,dd⟩
theorem zX{H':Hp}{Q:Unit→Shared→Prop}(hu:A.units+1<cLine)(I:Inv X pins σ H s)(g:DPut H a y v H')(ry:RelV y u)(rv:RelV v r)(h:∀ s',Inv X pins σ H' s'→Q () s'):
  wpAny (model X.prog X.w) A (setItem (.ref a) u r) Q E s:=by
 rcases g with⟨kvs,k,e,ey,l,eH⟩|⟨kvs,k,b,e,ey,eb,l,eH⟩
 ·subst ey eH
  obtain⟨z,hd,vs,rel,dd⟩:=aDL I.hok e
  have hz:vs.length≤sizeLine:=by rw[← rel.length];exact z
  have hl:(putK kvs k v).length≤sizeLine:=by have:=lU kvs k v;omega
  refine wpAny_setItem_pairs (hsz:=hz) (sD ry) dd fun h' dd' hs=>h _ ?_
  have he:∃ q,h'.get? a=some q:=let ⟨q,_,_,hq,_⟩:=dd';⟨q,hq⟩
  exact tK I (by rw[e];exact True.intro) hs he (aAS hl hd (rel.put k rv) dd')
 ·subst ey eH
  cases (show u=Value.ref b from ry)
  obtain⟨z,hd,xs,rel,dd⟩:=aGh I.hok e
  have hz:xs.length≤sizeLine:=by rw[← Paired.length rel];exact z
  have hl:(putK kvs k v).length≤sizeLine:=by have:=lU kvs k v;omega
  refine wpAny_setItem_heap (hsz:=hz) (tupleKind_room_in1 hu) (qJ I.hok eb) dd fun h' dd' hs=>h _ ?_
  obtain⟨q,es,ep,hq,h2,h3,h4,_,h5⟩:=dd'
  refine tK I (by rw[e];exact True.intro) hs ⟨q,hq⟩ ⟨hl,hd,_,(rel.put k eb rv).keeps fun c ys ec=>?_,q,es,ep,hq,h2,h3,h4,h5⟩
  rw[bL (aFU ec e (fun z=>nomatch z))]
  exact ec
end
def NoSl(i:Expr):Prop:=∀ ov iv,subscripted i false ov iv=operate [ov,iv] (getItem ov iv)
theorem aCH{prog:Program}{w:World}{A:Around}{E:Value→Shared→Prop}{s:Shared}{env:Env}{value slice:Expr}{pos:Pos}{T id:String}{Q:Value→Shared→Prop}
  (hl:typeLookup (.type T) "__getitem__"=pure (some (.builtin id)))(hs:NoSl slice)
  (h:wpAny (model prog w) A (eval value env) (fun o s₁=>wpAny (model prog w) A (eval slice env) (fun i s₂=>s₂.TypeIs o T∧wpAny (model prog w) A (getItem o i) Q E s₂) E s₁) E s):
  wpAny (model prog w) A (eval (.Subscript value slice pos) env) Q E s:=by
 refine Subscript_ (wpAny_mono h (fun o s₁ h₁=>wpAny_mono h₁ (fun i s₂ h₂=>?_) fun _ _ x=>x) fun _ _ x=>x)
 obtain⟨hT,h₂⟩:=h₂
 unfold subscriptTail
 refine wpAny_bind ?_
 rw[getitemInPython_of_ne hT.not_modules]
 refine wpAny_bind (wpAny_specialOf hT hl ?_)
 have fin:wpAny (model prog w) A (subscripted slice false o i) (fun r s₃=>wpAny (model prog w) A (letTemporaryGo value o r >>=fun _=>pure r) Q E s₃) E s₂:=by
  rw[hs o i]
  exact wpAny_operating (wpAny_mono h₂ (fun r s₃ h₃=>wpAny_bind (wpAny_letTemporaryGo (wpAny_pure h₃))) fun _ _ x=>x)
 first
  |exact wpAny_pure (wpAny_bind fin)
  |exact wpAny_bind (wpAny_pure (wpAny_bind fin))
  |exact wpAny_bind fin
theorem uU{X:Cx}{pins:List (Addr×Obj)}{σ:St}{H:Hp}{s:Shared}{a:Addr}{y:V}{o:Option V}(I:Inv X pins σ H s)(g:DGet H a y o):s.TypeIs (.ref a) "dict":=by
 rcases g with⟨kvs,k,e,_,_⟩|⟨kvs,k,b,e,_,_,_⟩
 ·obtain⟨_,_,vs,_,dd⟩:=sH I.hok e
  exact dd.typeIs
 ·obtain⟨_,_,xs,_,dd⟩:=sJ I.hok e
  exact dd.typeIs
def tDGet(td ty:TE):TE:=fun σ H Q=>td σ H fun x H1=>ty σ H1 fun y H2=>∃ a v,x=.ref a∧DGet H2 a y (some v)∧Q v H2
section
variable{X:Cx}{o i e value:Expr}{pos pos' tpos:Pos}{td ty tv:TE}
theorem aCI(hu:X.A.units+1<cLine)(ho:PE X o td)(hi:PE X i ty)(hs:NoSl i):PE X (.Subscript o i pos) (tDGet td ty):=by
 intro pins s σ H Q I h
 refine aCH PySem.F.slot_dict_getitem.lookup hs (thn (ho pins s σ H _ I h) fun u s1 ⟨x,H1,I1,rx,q1⟩=>thn (hi pins s1 σ H1 _ I1 q1) fun iv s2 ⟨y,H2,I2,ry,a,v,ex,g,q2⟩=>?_)
 subst ex
 obtain rfl:u=Value.ref a:=rx
 exact⟨uU I2 g,zW hu I2 g ry fun w' s3 I3 rw'=>⟨v,H2,I3,rw',q2⟩⟩
end
theorem uV{P:Program}{w:World}{H:Hp}(h:Heap)(hb:sysModules<h.objs.size):ObjOk P w H (h.push { cls:=.type "dict",data:=.dict #[] }) h.objs.size (.dK []):=
 ⟨Nat.zero_le _,beq_eq_false_iff_ne.mpr (Ne.symm (Nat.ne_of_lt hb)),[], .nil,Heap.DictOf.new h⟩
def tDNewK:TE:=fun _ H Q=>∀ p,H p=none→Q (.ref p) (upd H p (.dK []))
section
variable{X:Cx}{pos:Pos}
theorem aAT:PE X (.Dict [] [] pos) tDNewK:=fun pins s σ H Q I h=>
 wpAny_Dict_empty ⟨.ref s.heap.objs.size,_,I.laid (a:=s.heap.objs.size) (o:=.dK []) (t':=s.toks) (fun _ _ q=>Heap.get?_push_of_some _ q) (Nat.le_refl _) (uV s.heap I.big),rfl,h _ (I.hok.fresh (Nat.le_refl _))⟩
end
def tPairs:List (TE×TE)→St→Hp→(List (V×V)→Hp→Prop)→Prop
 |[],_,H,Q=>Q [] H
 |(tk,tv)::r,σ,H,Q=>tk σ H fun x H1=>tv σ H1 fun y H2=>tPairs r σ H2 fun ps H3=>Q ((x,y)::ps) H3
abbrev VV:List (V×V)→List (Value×Value)→Prop:=Paired fun p q=>RelV p.1 q.1∧RelV p.2 q.2
def PPs(X:Cx)(pos:Pos)(keys:List (Option Expr))(values:List Expr)(trs:List (TE×TE)):Prop:=
 ∀ (pins:List (Addr×Obj)) (s:Shared) (σ:St) (H:Hp) (Q:List (V×V)→Hp→Prop),Inv X pins σ H s→tPairs trs σ H Q→
  wpAny (model X.prog X.w) X.A (evalPairs (pairTrees keys values X.env pos)) (fun vs s'=>∃ ps H',Inv X pins σ H' s'∧VV ps vs∧Q ps H') X.xe s
theorem aCJ{X:Cx}{pos:Pos}:PPs X pos [] [] []:=fun pins s σ H Q I h=>pairTrees_nil_walk ⟨[],H,I, .nil,h⟩
theorem uW{X:Cx}{pos:Pos}{k v:Expr}{ks:List (Option Expr)}{vs:List Expr}{tk tv:TE}{trs:List (TE×TE)}(hk:PE X k tk)(hv:PE X v tv)(hr:PPs X pos ks vs trs):
  PPs X pos (some k::ks) (v::vs) ((tk,tv)::trs):=fun pins s σ H Q I h=>
 pairTrees_cons_walk (thn (hk pins s σ H _ I h) fun u s1 ⟨x,H1,I1,rx,q1⟩=>thn (hv pins s1 σ H1 _ I1 q1) fun w2 s2 ⟨y,H2,I2,ry,q2⟩=>
  thn (hr pins s2 σ H2 _ I2 q2) fun ws s3 ⟨ps,H3,I3,rel,q3⟩=>⟨(x,y)::ps,H3,I3, .cons ⟨rx,ry⟩ rel,q3⟩)
def mergeK(kvs more:List (Key×V)):List (Key×V):=more.foldl (fun acc kv=>putK acc kv.1 kv.2) kvs
theorem KV.merge:∀ {more:List (Key×V)} {rs:List (Key×Value)} {kvs:List (Key×V)} {vs:List (Key×Value)},KV more rs→KV kvs vs→KV (mergeK kvs more) (merged vs rs):=by
 intro more rs kvs vs r
 unfold KV at r
 induction r generalizing kvs vs with
 |nil=>intro q;exact q
 |@cons p q ps qs h t ih=>
  intro r0
  have e:KV (putK kvs p.1 p.2) (stored vs q.1 q.2):=by
   have:=r0.put p.1 h.2
   rw[← h.1];exact this
  exact ih e
theorem mV:∀ (more kvs:List (Key×V)),(mergeK kvs more).length≤kvs.length+more.length
 |[],kvs=>by show kvs.length≤kvs.length+0;omega
 |p::r,kvs=>by
  have h1:=mV r (putK kvs p.1 p.2)
  have h2:=lU kvs p.1 p.2
  show(mergeK (putK kvs p.1 p.2) r).length≤_
  rw[List.length_cons];omega
theorem qK{P:Program}{w:World}:∀ {kvs:List (Key×V)} {ws:List (Value×Value)},VV (kvs.map fun kv=>(kV kv.1,kv.2)) ws→∃ rs,Carries (mixKind P w) ws rs∧KV kvs rs
 |[],_,r=>by rw[List.map_nil] at r;cases r;exact⟨[],True.intro, .nil⟩
 |p::kvs,_,r=>by
  rw[List.map_cons] at r
  cases r with
  |@cons a b as bs h t=>
   obtain⟨rs,c,q⟩:=qK (P:=P) (w:=w) t
   obtain⟨b1,b2⟩:=b
   exact⟨(p.1,b2)::rs,⟨sD h.1,rfl,c⟩, .cons ⟨rfl,h.2⟩ q⟩
def tDisp(trs:List (TE×TE)):TE:=fun σ H Q=>∀ p,H p=none→tPairs trs σ (upd H p (.dK [])) fun ps H2=>H2 p=some (.dK [])∧∃ kvs:List (Key×V),ps=kvs.map (fun kv=>(kV kv.1,kv.2))∧kvs.length≤15∧Q (.ref p) (upd H2 p (.dK (mergeK [] kvs)))
theorem aCK{X:Cx}{pos:Pos}{keys:List (Option Expr)}{values:List Expr}{trs:List (TE×TE)}(h:PPs X pos keys values trs)(hall:keys.all (·.isSome)=true)(hl:keys.length=values.length)(h0:keys≠[])
  (h15:keys.length≤15):PE X (.Dict keys values pos) (tDisp trs):=by
 intro pins s σ H Q I q
 have hn:=I.hok.fresh (Nat.le_refl s.heap.objs.size)
 have I1:=I.laid (a:=s.heap.objs.size) (o:=.dK []) (h':=s.heap.push { cls:=.type "dict",data:=.dict #[] }) (t':=s.toks) (fun _ _ q=>Heap.get?_push_of_some _ q) (Nat.le_refl _) (uV s.heap I.big)
 refine wpAny_Dict_walk (knd:=mixKind X.prog X.w) hall hl h0 h15 (thn (h pins _ σ _ _ I1 (q _ hn)) fun ws s2 ⟨ps,H2,I2,rel,e,kvs,ep,lk,q2⟩=>?_)
 subst ep
 obtain⟨rs,c,rk⟩:=qK (P:=X.prog) (w:=X.w) rel
 obtain⟨z,hd,vs0,r0,dd⟩:=aDL I2.hok e
 cases r0
 refine⟨rs,c,dd,fun h' dd' hs=>⟨.ref s.heap.objs.size,_,?_,rfl,q2⟩⟩
 have hz:(mergeK [] kvs).length≤sizeLine:=by
  have h1:=mV kvs []
  rw[List.length_nil] at h1
  rw[sizeLine_eq];omega
 have he:∃ q,h'.get? s.heap.objs.size=some q:=let ⟨q,_,_,hq,_⟩:=dd';⟨q,hq⟩
 exact tK I2 (by rw[e];exact True.intro) hs he (aAS hz hd (rk.merge .nil) dd')
structure M2 (X:Cx) (o:Expr) (m:Str) (apos:Pos) (e f:Expr) (cpos:Pos):Prop where
 base:attributeBase o m X.env (eval o X.env)=eval o X.env
 few:((backTo cpos (starEach [e,f] X.env)).all (fun x=>!x.1)&&(backToKw cpos (keywordEach [] X.env)).all (fun x=>x.1.isSome)
  &&decide (([e,f]:List Expr).length+([]:List Keyword).length+(if([]:List Keyword).isEmpty then 0 else 1)<30))=true
 line:(apos.endLine==cpos.line)=true
 trees:backTo cpos (starEach [e,f] X.env)=[(false,eval e X.env),(false,eval f X.env)]
def IsD(H:Hp)(a:Addr):Prop:=(∃ kvs,Rd H a (.dK kvs))∨∃ kvs,Rd H a (.dT kvs)
theorem aEI{X:Cx}{pins:List (Addr×Obj)}{σ:St}{H:Hp}{s:Shared}{a:Addr}(I:Inv X pins σ H s)(d:IsD H a):
  s.TypeIs (.ref a) "dict"∧(∀ b,Value.ref a=.ref b→∃ ob,s.heap.get? b=some ob∧ob.dict=none)∧(a==sysModules)=false:=by
 rcases d with⟨kvs,e⟩|⟨kvs,e⟩
 ·obtain⟨_,hd,vs,_,dd⟩:=sH I.hok e
  refine⟨dd.typeIs,fun b q=>?_,hd⟩
  cases q
  obtain⟨ob,_,_,h1,h2,_⟩:=dd
  exact⟨ob,h1,h2.2.1⟩
 ·obtain⟨_,hd,xs,_,dd⟩:=sJ I.hok e
  refine⟨dd.typeIs,fun b q=>?_,hd⟩
  cases q
  obtain⟨ob,_,_,h1,h2,_⟩:=dd
  exact⟨ob,h1,h2.2.1⟩
section
variable{X:Cx}{pins:List (Addr×Obj)}{σ:St}{H:Hp}{s:Shared}{a:Addr}{y d:V}{u r:Value}{o:Option V}{A:Around}{E:Value→Shared→Prop}
theorem aEJ{Q:Value→Shared→Prop}(hu:A.units+1<cLine)(I:Inv X pins σ H s)(g:DGet H a y o)(ry:RelV y u)(rd:RelV d r)(h:∀ w' s',Inv X pins σ H s'→RelV (o.getD d) w'→Q w' s'):
  wpAny (model X.prog X.w) A (call (.builtin "dict.get") [.ref a,u,r]) Q E s:=by
 rcases g with⟨kvs,k,e,ey,l⟩|⟨kvs,k,b,e,ey,eb,l⟩
 ·subst ey
  obtain⟨z,hd,vs,rel,dd⟩:=sH I.hok e
  refine call_meetsIn PySem.F.slot_dict_get dd.typeIs PySem.F.entry_dict_get (PySem.F.args_dict_get_3 _ _ _) (meets_dict_get_default (mixKind X.prog X.w) a (sD ry) hd r) ⟨_,dd.mapOf,h _ _ (I.tok _) ?_⟩
  rw[l]
  exact(rel.val k).getD rd
 ·subst ey
  cases (show u=Value.ref b from ry)
  obtain⟨z,hd,xs,rel,dd⟩:=sJ I.hok e
  refine call_meetsIn PySem.F.slot_dict_get dd.typeIs PySem.F.entry_dict_get (PySem.F.args_dict_get_3 _ _ _) (meetsH_dict_get_default (tupleKind (mixKind X.prog X.w)) a b hd r) ⟨tupleKind_room_in1 hu,k,xs,qJ I.hok eb,dd,h _ _ (I.tok _) ?_⟩
  rw[l]
  exact(rel.val k).getD rd
end
def tDGet2(td ty tx:TE):TE:=fun σ H Q=>td σ H fun x H1=>∃ a,x=.ref a∧IsD H1 a∧ty σ H1 fun y H2=>tx σ H2 fun z H3=>∃ o,DGet H3 a y o∧Q (o.getD z) H3
section
variable{X:Cx}{o e f:Expr}{apos cpos:Pos}{td ty tx:TE}
theorem aAU(hu:X.A.units+1<cLine)(ho:PE X o td)(he:PE X e ty)(hf:PE X f tx)(m:M2 X o "get" apos e f cpos):PE X (.Call (.Attribute o "get" apos) [e,f] [] cpos) (tDGet2 td ty tx):=by
 intro pins s σ H Q I h
 refine wpAny_Call_method m.base m.few m.line PySem.F.plainAttrs_dict PySem.F.slot_dict_get PySem.F.type_dict_get (thn (ho pins s σ H _ I h) fun u s1 ⟨x,H1,I1,rx,a,ex,d,q1⟩=>?_)
 subst ex
 obtain rfl:u=Value.ref a:=rx
 obtain⟨t1,t2,_⟩:=aEI I1 d
 refine⟨t1,t2,?_⟩
 rw[m.trees]
 refine Calls.callWith_builtin rfl (Calls.evalArgs_plain (Calls.spliced_cons (thn (he pins s1 σ H1 _ I1 q1) fun iv s2 ⟨y,H2,I2,ry,q2⟩=>
  Calls.spliced_cons (thn (hf pins s2 σ H2 _ I2 q2) fun fv s3 ⟨z,H3,I3,rz,ov,g,q3⟩=>Calls.spliced_nil ?_))))
 exact aEJ hu I3 g ry rz fun w' s4 I4 rw'=>⟨_,H3,I4,rw',q3⟩
end
end L2
end
section
namespace L2
open PySem PySem.Spec PyProof.Rows
def cxComp(X:Cx)(N:List Str)(scope:Scope)(cl:List (Str×Addr))(C:Addr)(ex:List Addr)(s:Shared)(H:Hp):Cx:=
 { X with N:=N,s₀:=s,H₀:=H,env:=compEnvC scope cl C X.env,outer:=X.stack,ex:=ex,fn:=fun _=>false,pn:=[],xe:=fun _ _=>False }
def capsOf(caps:List Nat)(σ:St):St:=caps.map fun j=>(σ[j]?).getD none
structure Caps (X:Cx) (scope:Scope) (x:Str) (cl:List (Str×Addr)) (cn:List Str) (caps:List Nat):Prop where
 clos:closureFor scope X.env=pure cl
 cell:∀ y∈scope.names,y.2≠.cell
 kind:scope.kind=.function
 names:∀ y∈scope.names,y.2=.local→scope.names.lookup y.1=some .local
 hx:scope.names.lookup x=some .local
 sub:∀ y c,cl.lookup y=some c→X.env.cells.lookup y=some c
 has:∀ y,((relabel scope X.env).names.lookup y=some .cell∨(relabel scope X.env).names.lookup y=some .free)→∃ c,cl.lookup y=some c
 nd:(x::cn).Nodup
 len:cn.length=caps.length
 cap:∀ (k:Nat) (y:Str),cn[k]?=some y→∃ j:Nat,caps[k]?=some j∧X.N[j]?=some y∧Vis X.env.scope y∧(X.env.kindOf y=some .cell∨X.env.kindOf y=some .free)∧((relabel scope X.env).names.lookup y=some .cell∨(relabel scope X.env).names.lookup y=some .free)
def listO(us:List Value)(n:Nat):Obj:={ cls:=.type "list",data:=.seq us.toArray n }
end L2
end
section
namespace L2
open PySem PySem.Spec PyProof.Rows
def Its(x:Str):It:=⟨fun i _=>i<x.cps.size,fun i H v H'=>H'=H∧∃ c,x.cps[i]?=some c∧v=.str ⟨#[c]⟩,fun i _=>x.cps.size≤i⟩
theorem aAV{P:Program}{w:World}{K:PySem.W.Frag}{tg:Expr}(it:Addr)(x:Str)(t:Tok)(ty:String)(hty:ty="str_ascii_iterator"∨ty="str_iterator"):Turn P w K tg (Its x) [it] it (fun i h=>h.IsStrIter it ty x t i) where
 mem:=by simp
 obj:=fun i h st b hb=>by
  have e:b=it:=by simpa using hb
  subst e
  obtain⟨o,e,c,d⟩:=st
  exact⟨o,e,fun v z=>by rw[d] at z;cases z⟩
 keep:=fun i h h' st k=>by
  obtain⟨o,e,r⟩:=st
  exact⟨o,k it (by simp) o e,r⟩
 item:=by
  intro X hP hw hK hc i pins s σ H E I hf st hg
  subst hP hw hK
  obtain⟨f0,f1,f2,f3,f4,f5⟩:=hf it (by simp)
  have hlt:i<x.cps.size:=hg
  have hx:x.cps[i]?=some x.cps[i]:=by simp[hlt]
  have fin:∀ h',h'.IsStrIter it ty x t (i+1)→Heap.SameBut it s.heap h'→∃ u,some (Value.str ⟨#[x.cps[i]]⟩ s.toks)=some u∧
   wpAny (model X.prog X.w) X.A (letOwnedTupleGo tg (.ref it) u) (fun _ s2=>∃ y H',Inv X pins σ H' s2∧RelV y u∧(Its x).yld i H y H'∧s2.heap.IsStrIter it ty x t (i+1)∧∀ b∈[it],H' b=none) E { s with heap:=h',toks:=s.toks+1 }:=fun h' st' sb=>by
   have I1:Inv X pins σ H { s with heap:=h',toks:=s.toks+1 }:=I.turned (fun b o hb e=>(sb.2 b hb).trans e) f0 f1 f3 f4 f5
   obtain⟨o,e,c,d⟩:=id st'
   refine⟨_,rfl,uQ (s:={ s with heap:=h',toks:=s.toks+1 }) (n:=ty) e c d ?_ ⟨.str ⟨#[x.cps[i]]⟩,H,I1,⟨_,rfl⟩,⟨rfl,_,hx,rfl⟩,st',fun b hb=>(hf b hb).1⟩⟩
   rcases hty with rfl|rfl<;>decide
  rcases hty with rfl|rfl
  ·exact wpAny_pyNext_ascii_item st hx fin
  ·exact wpAny_pyNext_wide_item st hx fin
 done:=by
  intro X hP hw hK hc i pins s σ H E I hf st hg
  subst hP hw hK
  obtain⟨f0,f1,f2,f3,f4,f5⟩:=hf it (by simp)
  have hx:x.cps[i]?=none:=by
   have:x.cps.size≤i:=hg
   simpa using this
  have fin:∀ h',Heap.ExtBut it s.heap h'→(none:Option Value)=none∧Inv X pins σ H { s with heap:=h' }:=fun h' eb=>⟨rfl,I.turned (t':=s.toks) (fun b o hb e=>eb b o hb e) f0 f1 f3 f4 f5⟩
  rcases hty with rfl|rfl
  ·exact wpAny_pyNext_ascii_end (I.ok.hd hc) st hx fin
  ·exact wpAny_pyNext_wide_end (I.ok.hd hc) st hx fin
 self:=fun _ _ _ _ _ st h=>by
  rcases hty with rfl|rfl
  ·exact wpAny_pyIter_striter_ascii st h
  ·exact wpAny_pyIter_striter_wide st h
def iStr(tl:TE):TI:=fun σ H R=>tl σ H fun v H1=>∃ x,v=.str x∧R (Its x) H1
section
variable{X:Cx}{tg:Expr}
theorem aEK{l:Expr}{tl:TE}(hl:PE X l tl):PI X tg l (iStr tl):=by
 intro pins s σ H R I h
 refine thn (hl pins s σ H _ I h) fun v s1 ⟨y,H1,I1,r1,q1⟩=>?_
 obtain⟨x,rfl,q⟩:=q1
 obtain⟨t,rfl⟩:=r1
 refine wpAny_pyIter_strU ?_
 refine⟨s1.heap.objs.size,[s1.heap.objs.size],_,_,H1,rfl,I1.kept (t':=s1.toks) fun b o e=>Heap.get?_push_of_some _ e,aAV _ x t (strIterType x) (by unfold strIterType;split<;>simp),⟨_,Heap.get?_push_size _ rfl,rfl,rfl⟩,fun b hb=>?_,q⟩
 have e:b=s1.heap.objs.size:=by simpa using hb
 subst e
 exact I1.fpOk (Nat.le_refl _) (I1.hok.fresh (Nat.le_refl _))
theorem uX:CallR X (.builtin "isinstance") (fun xs H Q=>∃ (x:V) (t:Value) (c:String) (b:Bool),xs=[x, .ty c]∧TyOf X.K H x t∧PySem.W.kitOne X.K t (.type c)=some b∧Q (.bl b) H):=by
 intro pins s σ H xs us Q I r h
 obtain⟨x,t,c,b,rfl,ty,e,q⟩:=h
 obtain⟨u,v,rfl,r1,r2⟩:=vals2 r
 cases r2
 exact zO I r1 ty e fun tk=>⟨.bl b,H,I.tok _,rfl,q⟩
theorem aEL:SlR X (fun x lo hi H Q=>∃ z:Str,x=.str z∧z.length≤sizeLine∧Q (.str (Txt.slice z lo hi)) H):=by
 intro pins s σ H x v vl vu lo hi sl Q I rx hs pl pu h
 obtain⟨z,rfl,hz,q⟩:=h
 obtain⟨t,rfl⟩:=rx
 have fin:∀ t' k,EP X pins σ Q (.str (Txt.slice z lo hi) t') { s with toks:=k }:=fun t' k=>⟨.str _,H,I.tok _,⟨_,rfl⟩,q⟩
 refine⟨"str",_,F.slot_str_getitem.lookup,typeIs_str _ _ _,?_⟩
 cases pl<;>cases pu
 ·exact wpAny_getItem_str_slice (l:=none) (u:=none) (st:=none) hs rfl (post_val_or_str ⟨Nat.le_trans (Txt.slice_le z _ _) hz,fin⟩)
 ·rename_i j tj
  exact wpAny_getItem_str_slice (l:=none) (u:=some (j,tj)) (st:=none) hs rfl (post_val_or_str ⟨Nat.le_trans (Txt.slice_le z _ _) hz,fin⟩)
 ·rename_i j tj
  exact wpAny_getItem_str_slice (l:=some (j,tj)) (u:=none) (st:=none) hs rfl (post_val_or_str ⟨Nat.le_trans (Txt.slice_le z _ _) hz,fin⟩)
 ·rename_i j tj k tk
  exact wpAny_getItem_str_slice (l:=some (j,tj)) (u:=some (k,tk)) (st:=none) hs rfl (post_val_or_str ⟨Nat.le_trans (Txt.slice_le z _ _) hz,fin⟩)
end
end L2
end
section
namespace HT
open PySem PySem.Spec PyProof.Rows
open AutoSeq1 (wpAny_loadPart')
theorem tuple_addW0(l b:Addr)(items items2:Array Value)(n n2:Nat)(dd dd2:Option Addr)(sl sl2:Array (Option Value))(hc0:items.isEmpty=true):
  Meets (Builtin.«tuple.__add__» ⟨[.ref l, .ref b],[]⟩) (fun _ R s=>s.heap.get? l=some { cls:=.type "tuple",dict:=dd,data:=.seq items n,slots:=sl }∧s.heap.get? b=some { cls:=.type "tuple",dict:=dd2,data:=.seq items2 n2,slots:=sl2 }∧R (.ok (.ret (Value.ref b))) { s with heap:=s.heap,toks:=s.toks }):=
 .of_wp fun prog w A R s h=>by obtain⟨hp,g,d,tk,os⟩:=s;obtain⟨hl,hb,h⟩:=h;have f1:=AutoSeq1.idx_int;have f2:=AutoSeq1.sub_tuple_tuple;have f3:=AutoSeq1.sub_list_list;have f4:=AutoSeq1.sub_tuple_list;have f5:=AutoSeq1.sub_list_tuple;wp_walk using wpAny_loadPart' hl,wpAny_loadPart' hb;exact⟨_,rfl,h⟩
section
variable{prog:Program}{w:World}{A:Around}{E:Value→Shared→Prop}{s:Shared}
theorem aAW{t b:Addr}{ws:List Value}{Q:Value→Shared→Prop}(ht:IsTup s.heap t ([]:List Value).toArray)(hb:IsTup s.heap b ws.toArray)
  (h1:Q (.ref b) s):wpAny (model prog w) A (binaryOp .Add (.ref t) (.ref b)) Q E s:=by
 obtain⟨⟨cls,dd,data,sl⟩,ho,hc,n,hd⟩:=id ht
 obtain⟨⟨cls2,dd2,data2,sl2⟩,ho2,hc2,n2,hd2⟩:=id hb
 simp only at hc hd hc2 hd2
 subst hc hd hc2 hd2
 exact concat_meets ⟨_,ho,rfl⟩ ⟨_,ho2,rfl⟩ noFill_tuple_add seq_tuple_add PySem.F.slot_tuple_add PySem.F.entry_tuple_add (PySem.F.args_tuple_add_2 _ _)
   (tuple_addW0 t b ([]:List Value).toArray ws.toArray n n2 dd dd2 sl sl2 rfl) ⟨ho,ho2,h1⟩
theorem mU{t sl:Addr}{items:Array Value}{vl vu:Value}{lo hi:Option Int}{Q:Value→Shared→Prop}(ht:IsTup s.heap t items)(hs:s.heap.IsSliceOf sl vl vu .none)(pl:IsPart vl lo)(pu:IsPart vu hi)
  (hw:sIx items.size 0 lo=0∧sIx items.size items.size hi=items.size)
  (h:Q (.ref t) s):wpAny (model prog w) A (getItem (.ref t) (.ref sl)) Q E s:=by
 obtain⟨os,hos,hcs,hds⟩:=id hs
 have hTs:s.TypeIs (.ref sl) "slice":=⟨os,hos,hcs⟩
 unfold getItem
 try with_reducible refine wpAny_holding ?_
 first|refine wpAny_bind (wpAny_pure ?_)|skip
 refine wpAny_bind (wpAny_sequenceKey ht.typeIs (by decide) ?_)
 refine wpAny_bind (wpAny_callSpecial?_slot (name:=Str.ofString "__getitem__") ht.typeIs PyProof.Rows.slot_tuple_getitem
  (wpAny_call_entry PyProof.Rows.slot_tuple_getitem ht.typeIs entry_tuple_getitem ?_ (args_tuple_getitem _ _)))
 show wpAny _ _ (Builtin.Tuple.tupleItemsOf (.ref t) >>=_) _ _ s
 refine wpAny_bind (tupleItemsOf_ ht ?_)
 refine wpAny_bind (wpAny_typeOf hTs ?_)
 rw[if_pos (by decide)]
 refine wpAny_bind (kZ hs pl pu ?_)
 show wpAny _ _ (if(((sIx items.size 0 lo:Nat):Int)==0&&(1:Int)==1&&(sIx items.size items.size hi - sIx items.size 0 lo)==items.size)=true then _ else _) _ _ s
 rw[hw.1,hw.2]
 rw[if_pos (by simp)]
 refine wpAny_bind ?_
 show wpAny _ _ (do return (← typeOf (.ref t))==.type "tuple") _ _ s
 refine wpAny_bind (wpAny_typeOf ht.typeIs (wpAny_pure ?_))
 rw[if_pos (by decide)]
 refine wpAny_bind (wpAny_rule ?_)
 first
  |exact wpAny_pure ⟨_,rfl,wpAny_pure h⟩
  |exact wpAny_bind (wpAny_pure (wpAny_pure ⟨_,rfl,wpAny_pure h⟩))
  |exact wpAny_bind (wpAny_bind (wpAny_pure (wpAny_pure ⟨_,rfl,wpAny_pure h⟩)))
  |exact wpAny_bind (wpAny_bind (wpAny_bind (wpAny_pure (wpAny_pure (wpAny_pure ⟨_,rfl,wpAny_pure h⟩)))))
  |exact wpAny_bind (wpAny_pure (wpAny_pure (wpAny_pure ⟨_,rfl,wpAny_pure h⟩)))
  |trace_state
end
end HT
namespace L2
open PySem PySem.Spec PyProof.Rows
section
variable{X:Cx}
def rCatA:R2:=fun x y H Q=>∃ a b xs ys,x=.ref a∧y=.ref b∧H a=some (.tup xs)∧H b=some (.tup ys)∧xs.length+ys.length≤sizeLine∧∀ p H',H' p=some (.tup (xs++ys))→Same H H'→Q (.ref p) H'
theorem aCL:OpR X (binaryOp .Add) rCatA:=by
 intro pins s σ H x y v u Q I rx ry h
 obtain⟨a,b,xs,ys,rfl,rfl,ha,hb,hz,q⟩:=h
 by_cases hx:xs=[]
 ·subst hx
  cases rx
  cases ry
  obtain⟨its,r1,p1,_⟩:=I.tuple (SqT.of ha)
  obtain⟨its2,r2,p2,_⟩:=I.tuple (SqT.of hb)
  cases r1
  exact HT.aAW p1 p2 ⟨.ref b,H,I,rfl,q b H hb (Same.refl H)⟩
 ·refine aCD pins s σ H _ _ v u Q I rx ry ⟨a,b,xs,ys,rfl,rfl,SqT.of ha,SqT.of hb,hx,hz,fun z=>?_,fun z p hp=>?_⟩
  ·subst z
   exact q a H (by rw[List.append_nil];exact ha) (Same.refl H)
  ·exact q p _ fE fun c o e=>by rw[bL (bF e hp)];exact e
def rSlA:V→Option Int→Option Int→Hp→VK→Prop:=fun x lo hi H Q=>∃ a xs,x=.ref a∧H a=some (.tup xs)∧∀ p H',H' p=some (.tup (cutV xs lo hi))→Same H H'→Q (.ref p) H'
theorem aCM:SlR X rSlA:=by
 intro pins s σ H x v vl vu lo hi sl Q I rx hs pl pu h
 obtain⟨a,xs,rfl,hx,q⟩:=h
 by_cases hw:HT.sIx xs.length 0 lo=0∧HT.sIx xs.length xs.length hi=xs.length
 ·cases rx
  obtain⟨its,r,ht,hz⟩:=I.tuple (SqT.of hx)
  have hlen:its.toArray.size=xs.length:=by rw[List.size_toArray];exact r.length.symm
  have hcut:cutV xs lo hi=xs:=by
   unfold cutV
   rw[hw.1,hw.2]
   simp
  exact⟨"tuple",_,PyProof.Rows.slot_tuple_getitem.lookup,ht.typeIs,HT.mU ht hs pl pu (by rw[hlen];exact hw) ⟨.ref a,H,I,rfl,q a H (by rw[hcut];exact hx) (Same.refl H)⟩⟩
 ·exact aEA pins s σ H _ v vl vu lo hi sl Q I rx hs pl pu ⟨a,xs,rfl,SqT.of hx,hw,fun p hp=>q p _ fE fun c o e=>by rw[bL (bF e hp)];exact e⟩
theorem zY:OpR X (compareOp .IsNot) (fun x y H Q=>∃ t b,x=.bl t∧y=.bl b∧Q (.bl (t != b)) H):=by
 intro pins s σ H x y v u Q I rx ry h
 obtain⟨t,b,rfl,rfl,q⟩:=h
 cases rx;cases ry
 exact isnot_bool ⟨.bl _,H,I,rfl,q⟩
end
end L2
end
section
namespace L2
open PySem PySem.Spec PyProof.Rows
open AutoSeq1 (wpAny_loadPart')
theorem tL(l:Addr)(items:Array Value)(n:Nat)(b:Addr)(items2:Array Value)(n2:Nat)(dd:Option Addr)(sl:Array (Option Value))(hc0:¬(!items.isEmpty&&Builtin.List.listTooLong (items.size+items2.size))=true)(hc1:items.size≤sizeLine)(hs2:items.size+items2.size≤sizeLine+1):
  Meets (Builtin.«list.extend» ⟨[.ref l, .ref b],[]⟩) (fun _ R s=>s.heap.get? l=some { cls:=.type "list",dict:=none,data:=.seq items n,slots:=#[] }∧s.heap.get? b=some { cls:=.type "tuple",dict:=dd,data:=.seq items2 n2,slots:=sl }∧R (.ok (.ret Value.none)) { s with heap:=s.heap.update l (Obj.mapSeq fun x=>x++items2),toks:=s.toks }):=
 .of_wp fun prog w A R s h=>by
  obtain⟨hp,g,d,tk,os⟩:=s;obtain⟨hl,hb,h⟩:=h;have f1:=AutoSeq1.idx_int;have f2:=AutoSeq1.sub_tuple_tuple;have f3:=AutoSeq1.sub_list_list;have f4:=AutoSeq1.sub_tuple_list;have f5:=AutoSeq1.sub_list_tuple;
  have hz':(items++items2).size≤sizeLine+1:=by rw[Array.size_append];exact hs2
  wp_walk using (wpAny_updateSeq hl rfl (hz:=hc1) (_hz':=hz')),wpAny_loadPart' hl,wpAny_loadPart' hb;exact⟨_,rfl,h⟩
section
variable{X:Cx}
def rExtendT:V→List V→Hp→VK→Prop:=fun x vs H Q=>∃ l b xs zs,x=.ref l∧vs=[.ref b]∧H l=some (.lst xs)∧H b=some (.tup zs)∧xs.length+zs.length≤sizeLine∧Q .non (upd H l (.lst (xs++zs)))
theorem wI:MtM X "list.extend" rExtendT:=by
 intro pins s σ H x vs v us Q I rx rv h
 obtain⟨l,b,xs,zs,rfl,rfl,hH,hB,hz,q⟩:=h
 cases rx
 obtain⟨u,rfl,ru⟩:=rv.one
 cases ru
 obtain⟨z,its,n,r,hl,e⟩:=I.lstM hH
 obtain⟨its2,r2,⟨⟨c2,dd2,d2,sl2⟩,e2,hc2,n2,hd2⟩,_⟩:=I.tuple (SqT.of hB)
 have hc2':c2=.type "tuple":=hc2
 have hd2':d2=.seq its2.toArray n2:=hd2
 subst hc2' hd2'
 have hl2:=r2.length
 have hsz:its.toArray.size+its2.toArray.size≤sizeLine:=by rw[List.size_toArray,List.size_toArray];omega
 have hlong:¬ (!its.toArray.isEmpty&&Builtin.List.listTooLong (its.toArray.size+its2.toArray.size))=true:=by
  rw[notLongL hsz,Bool.and_false]
  exact Bool.false_ne_true
 refine call_meets F.slot_list_extend ⟨_,e,rfl⟩ F.entry_list_extend (F.args_list_extend_2 _ _)
  (tL l its.toArray n b its2.toArray n2 dd2 sl2 hlong (by rw[List.size_toArray];omega) (by omega)) ⟨e,e2,?_⟩
 refine⟨.non,_,I.lset (its':=its++its2) hH e (by simp) (r.append r2) ?_,rfl,q⟩
 rw[List.length_append]
 omega
theorem Inv.turnedN{pins:List (Addr×Obj)}{σ:St}{H:Hp}{s s':Shared}{fp:List Addr}{T:Addr}{o:HO}(I:Inv X pins σ H s)(ho:s'.os=s.os)(hg:s'.gens=s.gens)(k:∀ b u,b∉fp→s.heap.get? b=some u→s'.heap.get? b=some u)
  (hf:∀ b∈fp,FpOk X pins H b)(hT:s.heap.objs.size≤T)(new:ObjOk X.prog X.w (upd H T o) s'.heap T o):Inv X pins σ (upd H T o) s':=by
 have hn:H T=none:=I.hok.fresh hT
 have nf:∀ b u,H b=some u→b∉fp:=fun b u e z=>by
  have:=(hf b z).1
  rw[this] at e;cases e
 refine I.call' (ch:=fp) ho ?_ (fun b u e=>?_) (by rw[hg];exact I.bare) fun b hb=>⟨(hf b hb).2.2.2.1,(hf b hb).2.1,(hf b hb).2.2.2.2.1,(hf b hb).2.2.2.2.2⟩
 ·exact⟨fun b u e _ _ hx=>k b u hx e,fun b u e _ _ hx=>⟨u.slots,k b u hx e⟩,fun b u e n _=>by rw[bL (Nat.ne_of_lt (Nat.lt_of_lt_of_le (Heap.lt_size e) hT))];exact n,fun b u e hx=>⟨u,k b u hx e⟩,
   fun b xs e=>by rw[bL (bF e hn)];exact e,fun b u xs e=>by rw[bL (bF e hn)];exact e,fun b ps e=>⟨#[],by rw[bL (bF e hn),e];simp⟩⟩
 ·by_cases hb:b=T
  ·subst hb;rw[fE] at e;cases e;exact new
  ·rw[bL hb] at e
   refine(I.hok b u e).stay (fun c v hc q=>k c v ?_ q) (fun c q=>by rw[bL (bF q hn)];exact q) fun c xs q=>by rw[bL (bF q hn)];exact q
   rcases hc with z|z
   ·rw[z];exact nf b u e
   ·exact nf c _ z
theorem Inv.turnedF{pins:List (Addr×Obj)}{σ:St}{H:Hp}{s s':Shared}{fp:List Addr}(I:Inv X pins σ H s)(ho:s'.os=s.os)(hg:s'.gens=s.gens)(k:∀ b u,b∉fp→s.heap.get? b=some u→s'.heap.get? b=some u)
  (hf:∀ b∈fp,FpOk X pins H b):Inv X pins σ H s':=by
 have nf:∀ b u,H b=some u→b∉fp:=fun b u e z=>by
  have:=(hf b z).1
  rw[this] at e;cases e
 refine I.call' (ch:=fp) ho ?_ (fun b u e=>?_) (by rw[hg];exact I.bare) fun b hb=>⟨(hf b hb).2.2.2.1,(hf b hb).2.1,(hf b hb).2.2.2.2.1,(hf b hb).2.2.2.2.2⟩
 ·exact⟨fun b u e _ _ hx=>k b u hx e,fun b u e _ _ hx=>⟨u.slots,k b u hx e⟩,fun b u e n _=>n,fun b u e hx=>⟨u,k b u hx e⟩,
   fun b xs e=>e,fun b u xs e=>e,fun b ps e=>⟨#[],by rw[e];simp⟩⟩
 ·refine(I.hok b u e).stay (fun c v hc q=>k c v ?_ q) (fun c q=>q) fun c xs q=>q
  rcases hc with z|z
  ·rw[z];exact nf b u e
  ·exact nf c _ z
theorem sL:bootBuiltins "enumerate"=some (.type "enumerate"):=by decide +kernel
end
end L2
end
section
namespace L2
open PySem PySem.Spec PyProof.Rows
open AutoSeq1 (wpAny_loadPart')
section
variable{prog:Program}{w:World}{A:Around}{E:Value→Shared→Prop}{s:Shared}
theorem eW{it t:Addr}{i:Nat}{items:Array Value}{x:Value}{Q:Value→Shared→Prop}(hit:s.heap.IsTupleIter it t i)
  (ht:s.heap.IsTuple t items)(hx:items[i]?=some x)
  (hQ:∀ h',h'.IsTupleIter it t (i+1)→Heap.SameBut it s.heap h'→Q x { s with heap:=h' }):
  wpAny (model prog w) A (Builtin.SmallTypes.nextOf (.ref it)) Q E s:=by
 obtain⟨o,ho,hc,hd⟩:=id hit
 obtain⟨ol,hol,_,nl,hdl⟩:=ht
 unfold Builtin.SmallTypes.nextOf
 refine wpAny_bind (wpAny_callSpecial?_slot (name:=Str.ofString "__next__") hit.typeIs F.slot_tuple_iterator_next
  (wpAny_call_entry F.slot_tuple_iterator_next hit.typeIs F.entry_tuple_iterator_next ?_ (F.args_tuple_iterator_next_1 _)))
 show wpAny _ _ (field (.ref it) 0 >>=_) _ _ s
 refine wpAny_bind (wpAny_field ho hd (x:=.ref t) rfl ?_)
 show wpAny _ _ (if(Value.ref t==Value.none)=true then _ else _) _ _ s
 rw[if_neg (show ¬ ((Value.ref t==Value.none)=true) from Bool.false_ne_true)]
 show wpAny _ _ (field (.ref it) 1 >>=_) _ _ s
 refine wpAny_bind (wpAny_field ho hd (x:=.int i 0) rfl ?_)
 show wpAny _ _ (seqItems? (.ref t) >>=_) _ _ s
 refine wpAny_bind (wpAny_seqItems hol hdl ?_)
 simp only[Int.toNat_natCast,hx]
 refine wpAny_bind (wpAny_setField ho hd (by simp) (wpAny_pure ⟨x,rfl,wpAny_pure (hQ _ ?_ (Heap.SameBut.update ..))⟩))
 exact⟨_,Heap.get?_update_self _ ho (Obj.isFreed_of_fields (Obj.data_mapFields hd _)),(Obj.cls_mapFields ..).trans hc,by
  rw[Obj.data_mapFields hd];simp[rawInt]⟩
theorem iH{it t:Addr}{i:Nat}{items:Array Value}{Q:Value→Shared→Prop}(hh:A.handled=none)
  (hit:s.heap.IsTupleIter it t i)(ht:s.heap.IsTuple t items)(hx:items[i]?=none)
  (hE:∀ h' e,Heap.ExtBut it s.heap h'→(∃ o,h'.get? e=some o∧o.cls=.type "StopIteration")→E (.ref e) { s with heap:=h' }):
  wpAny (model prog w) A (Builtin.SmallTypes.nextOf (.ref it)) Q E s:=by
 obtain⟨o,ho,hc,hd⟩:=id hit
 obtain⟨ol,hol,_,nl,hdl⟩:=ht
 unfold Builtin.SmallTypes.nextOf
 refine wpAny_bind (wpAny_callSpecial?_slot (name:=Str.ofString "__next__") hit.typeIs F.slot_tuple_iterator_next
  (wpAny_call_entry F.slot_tuple_iterator_next hit.typeIs F.entry_tuple_iterator_next ?_ (F.args_tuple_iterator_next_1 _)))
 show wpAny _ _ (field (.ref it) 0 >>=_) _ _ s
 refine wpAny_bind (wpAny_field ho hd (x:=.ref t) rfl ?_)
 show wpAny _ _ (if(Value.ref t==Value.none)=true then _ else _) _ _ s
 rw[if_neg (show ¬ ((Value.ref t==Value.none)=true) from Bool.false_ne_true)]
 show wpAny _ _ (field (.ref it) 1 >>=_) _ _ s
 refine wpAny_bind (wpAny_field ho hd (x:=.int i 0) rfl ?_)
 show wpAny _ _ (seqItems? (.ref t) >>=_) _ _ s
 refine wpAny_bind (wpAny_seqItems hol hdl ?_)
 simp only[Int.toNat_natCast,hx]
 refine wpAny_bind (wpAny_rule (wpAny_bind (wpAny_setField ho hd (by simp) ?_)))
 show wpAny _ _ (newExc (.type "StopIteration") [] >>=_) _ _ _
 refine wpAny_bind ?_
 simp only[newExc,newTuple]
 refine wpAny_bind (wpAny_newObj_type ?_ (by size_fits))
 refine wpAny_bind (m:=firstArgMember _ _) (wpAny_of_eq (a:=Value.none) (by first|rfl|(simp only[firstArgMember];rfl)) ?_)
 refine wpAny_newObj_type ?_ (by size_fits)
 simp only[raiseNew]
 refine wpAny_bind (wpAny_handled ?_)
 first|rw[show A.in1.handled=none from hh]|rw[hh]
 refine wpAny_bind (wpAny_pure (wpAny_throw ?_))
 exact hE _ _ (((Heap.SameBut.update ..).extBut.push _).push _) ⟨_,Heap.get?_push_size _ rfl,rfl⟩
end
theorem pK{prog:Program}{w:World}{A:Around}(hh:A.handled=none)(it t:Addr)(hne:t≠it)(items:Array Value):
  Draws prog w A it [it,t] items.size (fun i v=>items[i]?=some v) (fun i h=>h.IsTupleIter it t i∧h.IsTuple t items) where
 live:=fun _ _ st=>let ⟨o,ho,_⟩:=st.1;⟨o,ho⟩
 frame:=fun _ _ _ st hk=>by
  obtain⟨⟨o,ho,r⟩,o2,ho2,r2⟩:=st
  exact⟨⟨o,hk it (by simp) o ho,r⟩,o2,hk t (by simp) o2 ho2,r2⟩
 item:=fun i s Q E hi st hQ=>by
  refine eW st.1 st.2 (x:=items[i]) (by simp[hi]) fun h' hit' hs'=>?_
  exact hQ _ h' s.toks (by simp[hi]) ⟨hit',st.2.extBut hs'.extBut hne⟩ hs'
 done:=fun s Q E st hE=>iH hh st.1 st.2 (by simp) hE
set_option maxHeartbeats 1000000 in
theorem pV(l:Addr)(items:Array Value)(n:Nat)(dct:Option Addr)(sl:Array (Option Value)):
  Meets (Builtin.«enumerate.__new__» ⟨[.type "enumerate", .ref l],[]⟩) (fun _ R s=>s.heap.get? l=some { cls:=.type "tuple",dict:=dct,data:=.seq items n,slots:=sl }∧
   R (.ok (.ret (.ref (s.heap.push { cls:=.type "tuple_iterator",data:=.fields #[.ref l, .int 0 0] }).objs.size)))
    { s with heap:=(s.heap.push { cls:=.type "tuple_iterator",data:=.fields #[.ref l, .int 0 0] }).push { cls:=.type "enumerate",data:=.fields #[.none, .bool false, .ref s.heap.objs.size,rawInt 0, .none, .none] } }):=
 .of_wp fun prog w A R s h=>by
  obtain⟨hp,g,d,tk,os⟩:=s;obtain⟨hl,h⟩:=h
  have hsub:=sub_enumerate
  have hL:Heap.IsTuple (Shared.heap ⟨hp,g,d,tk,os⟩) l items:=⟨_,hl,rfl,n,rfl⟩
  wp_walk using wpAny_loadPart' hl
  refine wpAny_stack_any fun st=>wpAny_pure ?_
  split
  ·rename_i c _ _ _ _ _
   cases (c==Value.type "enumerate")
   ·wp_walk using wpAny_loadPart' hl,wpAny_pyIter_tuple hL
    exact⟨_,rfl,h⟩
   ·wp_walk using wpAny_loadPart' hl,wpAny_pyIter_tuple hL
    exact⟨_,rfl,h⟩
  ·wp_walk using wpAny_loadPart' hl,wpAny_pyIter_tuple hL
   exact⟨_,rfl,h⟩
theorem pW{prog:Program}{w:World}{A:Around}{E:Value→Shared→Prop}{s:Shared}{l:Addr}{items:Array Value}{Q:Value→Shared→Prop}(hL:s.heap.IsTuple l items)
  (h:∀ h',IsEnum h' (s.heap.objs.size+1) s.heap.objs.size 0 .none→h'.IsTupleIter s.heap.objs.size l 0→h'.objs.size=s.heap.objs.size+2→
   (∀ b o,s.heap.get? b=some o→h'.get? b=some o)→Q (.ref (s.heap.objs.size+1)) { s with heap:=h' }):
  wpAny (model prog w) A (call (.type "enumerate") [.ref l]) Q E s:=by
 obtain⟨⟨c,dct,dt,sl⟩,hl,hc,n,hd⟩:=hL
 replace hc:c=.type "tuple":=hc
 replace hd:dt=.seq items n:=hd
 subst hc hd
 refine callType_new F.called_enumerate (by decide) (F.typeCall_enumerate_1 _) (F.newCall_enumerate_1 _) (fun obj=>F.args_object_init_2 obj _) F.entry_enumerate_new
  (pV l items n dct sl) ⟨hl,?_⟩
 have hz:(s.heap.push { cls:=.type "tuple_iterator",data:=.fields #[.ref l, .int 0 0] }).objs.size=s.heap.objs.size+1:=Heap.size_push ..
 show _∧_
 rw[hz]
 have he:IsEnum ((s.heap.push { cls:=.type "tuple_iterator",data:=.fields #[.ref l, .int 0 0] }).push
   { cls:=.type "enumerate",data:=.fields #[.none, .bool false, .ref s.heap.objs.size,rawInt 0, .none, .none] }) (s.heap.objs.size+1) s.heap.objs.size 0 .none:=by
  have:=Heap.get?_push_size (s.heap.push { cls:=.type "tuple_iterator",data:=.fields #[.ref l, .int 0 0] })
   (o:={ cls:=.type "enumerate",data:=.fields #[.none, .bool false, .ref s.heap.objs.size,rawInt 0, .none, .none] }) rfl
  rw[hz] at this;exact this
 refine⟨⟨_,he,rfl⟩,h _ he ⟨_,Heap.get?_push_of_some _ (Heap.get?_push_size _ rfl),rfl,rfl⟩ (by rw[Heap.size_push,hz]) fun b o x=>Heap.get?_push_of_some _ (Heap.get?_push_of_some _ x)⟩
def Itet(K:PySem.W.Frag)(a:Addr):It:=⟨fun i H=>∃ xs x,SqT K H a xs∧xs[i]?=some x,fun i H v H'=>∃ T x,v=.ref T∧H T=none∧(∀ xs,SqT K H a xs→xs[i]?=some x)∧H'=upd H T (.tup [.int i,x]),fun i H=>∃ xs,SqT K H a xs∧xs.length=i⟩
abbrev enumTSt(e it a:Addr)(i:Nat)(h:Heap):Prop:=(∃ old,IsEnum h e it i old)∧h.IsTupleIter it a i
theorem wJ{P:Program}{w:World}{K:PySem.W.Frag}{es:List Expr}{kk:Nat}{pos:Pos}(e it a:Addr)(hei:e≠it)(hai:a≠it)(hea:e≠a):
  Turn P w K (.Tuple es kk pos) (Itet K a) [e,it] e (enumTSt e it a) where
 mem:=by simp
 obj:=fun i h st b hb=>by
  obtain⟨⟨old,he⟩,o,ho,c,d⟩:=st
  rcases List.mem_cons.mp hb with rfl|hb
  ·exact⟨_,he,fun v z=>by cases z⟩
  ·rw[List.mem_singleton.mp hb]
   exact⟨o,ho,fun v z=>by rw[d] at z;cases z⟩
 keep:=fun i h h' st k=>by
  obtain⟨⟨old,he⟩,o,ho,r⟩:=st
  exact⟨⟨old,k e (by simp) _ he⟩,o,k it (by simp) o ho,r⟩
 item:=by
  intro X hP hw hK hc i pins s σ H E I hf st hg
  subst hP hw hK
  obtain⟨xs,x,hq,hx⟩:=hg
  obtain⟨its,rv,p,hz⟩:=I.tuple hq
  obtain⟨u,hu,ru⟩:=rv.get hx
  have hlt:i<its.length:=(List.getElem?_eq_some_iff.mp hu).1
  have W:=WalksT.enumerateD (pK (prog:=X.prog) (w:=X.w) (A:=X.A.in1) (I.ok.hd hc) it a hai its.toArray) e hei (by simp[hei,hea]) (by simp)
  refine W.item i s _ _ (by simpa using hlt) ⟨st.1,st.2,p⟩ fun T vals h' tk hv hT tup mid kk1=>?_
  obtain⟨tt,v,hv1,rfl⟩:=hv
  have ev:v=u:=by
   have h1:its[i]?=some v:=by simpa using hv1
   rw[hu] at h1;exact(Option.some.inj h1).symm
  subst ev
  refine⟨.ref T,rfl,W.go es kk pos i T _ _ _ mid fun h2 st2 kk2=>?_⟩
  have nT:T∉[e,it]:=W.apart i T h' mid
  obtain⟨oT,eT,cT,nT',dT⟩:=id tup
  have eT2:h2.get? T=some oT:=kk2 T oT nT eT
  refine⟨.ref T,upd H T (.tup [.int i,x]),Inv.turnedN (s':={ s with heap:=h2,toks:=tk }) I rfl rfl (fun b u0 hb e0=>kk2 b u0 hb (kk1 b u0 hb e0)) hf hT ?_,rfl,
   ⟨T,x,rfl,I.hok.fresh hT,fun ys hy=>by rw[I.tuple_inj hy hq];exact hx,rfl⟩,⟨st2.1,st2.2.1⟩,fun b hb=>?_⟩
  ·exact⟨by show 2≤_;rw[sizeLine_eq];decide,[.int i tt,v], .cons ⟨_,rfl⟩ (.cons ru .nil),oT,eT2,cT,nT',dT⟩
  ·have nb:b≠T:=fun z=>by subst z;exact nT hb
   rw[bL nb]
   exact(hf b hb).1
 done:=by
  intro X hP hw hK hc i pins s σ H E I hf st hg
  subst hP hw hK
  obtain⟨xs,hq,hx⟩:=hg
  obtain⟨its,rv,p,hz⟩:=I.tuple hq
  have hlen:=rv.length
  have W:=WalksT.enumerateD (pK (prog:=X.prog) (w:=X.w) (A:=X.A.in1) (I.ok.hd hc) it a hai its.toArray) e hei (by simp[hei,hea]) (by simp)
  have hi:i=its.toArray.size:=by rw[List.size_toArray];omega
  subst hi
  refine W.done s _ _ ⟨st.1,st.2,p⟩ fun h' tk kk1=>⟨rfl,?_⟩
  exact Inv.turnedF (s':={ s with heap:=h',toks:=tk }) I rfl rfl kk1 hf
 self:=fun A i s Q E st h=>by
  obtain⟨⟨old,he⟩,_⟩:=st
  exact wpAny_pyIter_enum he h
section
variable{X:Cx}
def iEnumT(K:PySem.W.Frag)(ta:TA):TI:=fun σ H R=>ta σ H fun vs H1=>∃ a,vs=[.ref a]∧(∃ xs,SqT K H1 a xs)∧R (Itet K a) H1
theorem aAX{a:Expr}{es:List Expr}{kk:Nat}{tpos:Pos}{ta:TA}{p pos:Pos}(hg:Gl X "enumerate")(hm:X.mg "enumerate"=none)(ha:PA X [a] ta)(hs:starEach [a] X.env=[(false,eval a X.env)]:=by rfl):
  PI X (.Tuple es kk tpos) (.Call (.Name "enumerate" p) [a] [] pos) (iEnumT X.K ta):=by
 intro pins s σ H R I h
 refine Call_ (kR I hg hm sL (PyProof.Rows.callWith_type1 (thn (ha pos pins s σ H _ I h) fun us s1 ⟨vs,H1,I1,r1,q1⟩=>?_) hs rfl))
 obtain⟨a,e,⟨xs,hq⟩,q⟩:=q1
 subst e
 cases r1 with
 |cons r rr=>
  cases rr
  cases r
  obtain⟨its,rv,pt,hz⟩:=I1.tuple hq
  have hlt:a<s1.heap.objs.size:=by obtain⟨o,eo,_⟩:=pt;exact Heap.lt_size eo
  refine pW pt fun h' he hit hz hk=>?_
  refine wpAny_pyIter_enum he ?_
  have I2:Inv X pins σ H1 { s1 with heap:=h' }:=I1.kept (t':=s1.toks) hk
  have fresh:∀ b,s1.heap.objs.size≤b→FpOk X pins H1 b:=fun b hb=>I1.fpOk hb (I1.hok.fresh hb)
  refine⟨s1.heap.objs.size+1,[s1.heap.objs.size+1,s1.heap.objs.size],_,Itet X.K a,H1,rfl,I2,wJ _ _ a (Nat.succ_ne_self _) (Nat.ne_of_lt hlt) (Nat.ne_of_gt (Nat.lt_succ_of_lt hlt)),⟨⟨_,he⟩,hit⟩,fun b hb=>?_,q⟩
  rcases List.mem_cons.mp hb with rfl|hb
  ·exact fresh _ (Nat.le_succ _)
  ·rw[List.mem_singleton.mp hb];exact fresh _ (Nat.le_refl _)
end
end L2
end
section
namespace HT
open PySem PySem.Spec PyProof.Rows
section
variable{prog:Program}{w:World}{A:Around}{E:Value→Shared→Prop}{s:Shared}
theorem aAY(xs:Array Value):((List.range xs.size).filterMap fun(m:Nat)=>xs[(((xs.size:Int) - 1)+(m:Int) * (-1)).toNat]?).toArray=xs.toList.reverse.toArray:=by
 congr 1
 have key:∀ n,n≤xs.size→((List.range n).filterMap fun(m:Nat)=>xs[(((xs.size:Int) - 1)+(m:Int) * (-1)).toNat]?)=xs.toList.reverse.take n:=by
  intro n
  induction n with
  |zero=>intro _;rfl
  |succ n ih=>
   intro hn
   rw[List.range_succ,List.filterMap_append,ih (by omega),List.take_add_one]
   congr 1
   have e1:(((xs.size:Int) - 1)+(n:Int) * (-1)).toNat=xs.size - 1 - n:=by omega
   have hlt:xs.size - 1 - n<xs.size:=by omega
   have e2:xs.toList.reverse[n]?=some xs[xs.size - 1 - n]:=by
    rw[List.getElem?_reverse (by rw[Array.length_toList];omega)]
    simp[hlt]
   have e3:xs[(((xs.size:Int) - 1)+(n:Int) * (-1)).toNat]?=some xs[xs.size - 1 - n]:=by rw[e1];simp[hlt]
   rw[e2]
   simp only[List.filterMap_cons,List.filterMap_nil,e3,Option.toList]
 rw[key _ (Nat.le_refl _),List.take_of_length_le (by simp)]
theorem oO{sl:Addr}{t:Tok}{n:Nat}{Q:Int×Int×Nat→Shared→Prop}{os:Obj}(hos:s.heap.get? sl=some os)(hds:os.data=.fields #[.none, .none, .int (-1) t])
  (h:Q ((n:Int) - 1,-1,n) s):wpAny (model prog w) A (Builtin.Slice.sliceApplied (.ref sl) (pure (n:Int))) Q E s:=by
 unfold Builtin.Slice.sliceApplied Builtin.Slice.sliceFields
 refine wpAny_bind (wpAny_bind (wpAny_field hos hds (x:=.none) rfl (wpAny_bind (wpAny_field hos hds (x:=.none) rfl (wpAny_bind (wpAny_field hos hds (x:=.int (-1) t) rfl (wpAny_pure ?_)))))))
 refine wpAny_bind (slicePart_int ?_)
 show wpAny _ _ (if((-1:Int)==0)=true then _ else _) _ _ s
 rw[if_neg (by decide)]
 refine wpAny_bind (slicePart_none (wpAny_bind (slicePart_none (wpAny_bind (wpAny_pure ?_)))))
 show wpAny _ _ (match Builtin.Slice.sliceAdjust none none (-1) (n:Int) with |(lo,hi)=>pure (lo,(-1:Int),Builtin.Slice.slicePlaces lo hi (-1))) _ _ s
 have e1:Builtin.Slice.sliceAdjust none none (-1) (n:Int)=((n:Int) - 1,-1):=by
  unfold Builtin.Slice.sliceAdjust
  simp
 rw[e1]
 show wpAny _ _ (pure ((n:Int) - 1,(-1:Int),Builtin.Slice.slicePlaces ((n:Int) - 1) (-1) (-1))) _ _ s
 have e2:Builtin.Slice.slicePlaces ((n:Int) - 1) (-1) (-1)=n:=by
  unfold Builtin.Slice.slicePlaces
  have h1:¬ ((-1:Int) > 0):=by omega
  simp only[h1,if_false,Int.neg_neg,Int.ediv_one]
  split<;>omega
 rw[e2]
 exact wpAny_pure h
theorem nV{t sl:Addr}{items:Array Value}{tk:Tok}{os:Obj}{Q:Value→Shared→Prop}(ht:IsTup s.heap t items)(hos:s.heap.get? sl=some os)(hcs:os.cls=.type "slice")(hds:os.data=.fields #[.none, .none, .int (-1) tk])
  (h:Q (.ref s.heap.objs.size) { s with heap:=s.heap.push { cls:=.type "tuple",data:=.seq items.toList.reverse.toArray } })
  (hsz:items.size≤sizeLine):wpAny (model prog w) A (getItem (.ref t) (.ref sl)) Q E s:=by
 have htake:sizeOk (.seq items.toList.reverse.toArray):=by
  show items.toList.reverse.toArray.size≤sizeLine
  rw[List.size_toArray,List.length_reverse,Array.length_toList];exact hsz
 have hTs:s.TypeIs (.ref sl) "slice":=⟨os,hos,hcs⟩
 unfold getItem
 try with_reducible refine wpAny_holding ?_
 first|refine wpAny_bind (wpAny_pure ?_)|skip
 refine wpAny_bind (wpAny_sequenceKey ht.typeIs (by decide) ?_)
 refine wpAny_bind (wpAny_callSpecial?_slot (name:=Str.ofString "__getitem__") ht.typeIs PyProof.Rows.slot_tuple_getitem
  (wpAny_call_entry PyProof.Rows.slot_tuple_getitem ht.typeIs entry_tuple_getitem ?_ (args_tuple_getitem _ _)))
 show wpAny _ _ (Builtin.Tuple.tupleItemsOf (.ref t) >>=_) _ _ s
 refine wpAny_bind (tupleItemsOf_ ht ?_)
 refine wpAny_bind (wpAny_typeOf hTs ?_)
 rw[if_pos (by decide)]
 refine wpAny_bind (oO hos hds ?_)
 have hno:¬ ((((items.size:Int) - 1)==0&&(-1:Int)==1&&items.size==items.size)=true):=by
  intro q
  rw[Bool.and_eq_true,Bool.and_eq_true] at q
  exact absurd q.1.2 (by decide)
 show wpAny _ _ (if(((items.size:Int) - 1)==0&&(-1:Int)==1&&items.size==items.size)=true then _ else _) _ _ s
 rw[if_neg hno,aAY]
 first
  |exact wpAny_bind (m:=Builtin.Tuple.tupleExact _) (wpAny_newObj_type (wpAny_pure ⟨_,rfl,wpAny_pure h⟩) htake)
  |exact wpAny_bind (m:=Builtin.Tuple.tupleExact _) (wpAny_newObj_type (wpAny_bind (wpAny_pure (wpAny_pure ⟨_,rfl,wpAny_pure h⟩))) htake)
  |exact wpAny_bind (wpAny_bind (m:=Builtin.Tuple.tupleExact _) (wpAny_newObj_type (wpAny_pure (wpAny_pure ⟨_,rfl,wpAny_pure h⟩)) htake))
  |exact wpAny_bind (wpAny_bind (m:=Builtin.Tuple.tupleExact _) (wpAny_newObj_type (wpAny_pure ⟨_,rfl,wpAny_pure h⟩) htake))
end
end HT
namespace L2
open PySem PySem.Spec PyProof.Rows
section
variable{X:Cx}
theorem uY:∀ {xs:List V} {us:List Value},Vals xs us→Vals xs.reverse us.reverse
 |_,_, .nil=>.nil
 |_,_, .cons r1 r2=>by rw[List.reverse_cons,List.reverse_cons];exact(uY r2).append (.cons r1 .nil)
def tRev(te ts:TE):TE:=fun σ H Q=>te σ H fun x H1=>ts σ H1 fun y H2=>y=.int (-1)∧∃ a xs,x=.ref a∧H2 a=some (.tup xs)∧∀ p,H2 p=none→Q (.ref p) (upd H2 p (.tup xs.reverse))
theorem aEM{e st:Expr}{te ts:TE}{pos p2:Pos}(he:PE X e te)(hs:PE X st ts):PE X (.Subscript e (.Slice none none (some st) p2) pos) (tRev te ts):=by
 intro pins s σ H Q I h
 refine Subscript_ (thn (he pins s σ H _ I h) fun v s1 ⟨x,H1,I1,r1,q1⟩=>?_)
 refine wpAny_Slice ?_
 rw[evalPart_none]
 refine wpAny_pure (wpAny_pure ?_)
 rw[evalPart_some]
 refine thn (hs pins s1 σ H1 _ I1 q1) fun vs s2 ⟨y,H2,I2,r2,ey,q2⟩=>?_
 subst ey
 obtain⟨tk,rfl⟩:=r2
 obtain⟨a,xs,rfl,hx,q⟩:=q2
 cases r1
 have I4:Inv X pins σ H2 { s2 with heap:=s2.heap.push { cls:=.type "slice",data:=.fields #[.none, .none, .int (-1) tk] } }:=I2.kept (t':=s2.toks) fun b ob q=>Heap.get?_push_of_some _ q
 obtain⟨its,r,ht,hz⟩:=I4.tuple (SqT.of hx)
 have hlen:its.toArray.size=xs.length:=by rw[List.size_toArray];exact r.length.symm
 show wpAny (model X.prog X.w) X.A (subscriptTail e (.Slice none none (some st) p2) (.ref a) (.ref s2.heap.objs.size)) (EP X pins σ Q) X.xe { s2 with heap:=s2.heap.push { cls:=.type "slice",data:=.fields #[.none, .none, .int (-1) tk] } }
 refine tail_any (ops:=[.ref a, .ref s2.heap.objs.size]) ht.typeIs PyProof.Rows.slot_tuple_getitem.lookup ?_ (by with_unfolding_all rfl)
 refine HT.nV ht (Heap.get?_push_size _ rfl) rfl rfl ?_ (by rw[hlen];exact hz)
 have hrv:Vals xs.reverse its.reverse:=uY r
 have ear:its.toArray.toList.reverse.toArray=its.reverse.toArray:=by simp
 rw[ear]
 refine⟨.ref _,_,I4.laid (t':=s2.toks) (o:=.tup xs.reverse) (fun b ob q=>Heap.get?_push_of_some _ q) (Nat.le_refl _) ?_,rfl,q _ (I4.hok.fresh (Nat.le_refl _))⟩
 exact⟨by rw[List.length_reverse];exact hz,_,hrv,IsTup.new _ _⟩
end
end L2
end
section
namespace RV
open PySem PySem.Spec PyProof.Rows
open AutoSeq1 (wpAny_loadPart')
theorem mro:mroOf (.type "reversed")=pure [.type "reversed", .type "object"]:=by rw[mroOf_type];kernel_rfl
theorem lookNew:typeLookup (.type "reversed") "__new__"=pure (some (.builtin "reversed.__new__")):=by rw[typeLookup_type,builtinLookup_eq_fast];kernel_rfl
theorem sInit:Slot "reversed" "__init__" "object.__init__":=
 .of (owner:="object") (n:="__init__") (by rw[typeLookup_type,builtinLookup_eq_fast];kernel_rfl) (by decide +kernel) (by decide +kernel) (by decide +kernel)
  (by first|exact .inl (by decide +kernel)|exact .inr (by decide +kernel)) (by rw[isSubtype_type];kernel_rfl)
theorem called:TypeCalled "reversed" "reversed.__new__" "object.__init__":=
 ⟨by decide +kernel,by decide +kernel,⟨_,_,mro⟩,madeBy_type mro lookNew (by decide +kernel),by decide +kernel,by rw[isSubtype_type];kernel_rfl,sInit⟩
theorem typeCall(a:Value):checkTypeCall "reversed" ⟨[a],[]⟩=pure ():=by kernel_rfl
theorem newCall(a:Value):checkBuiltinCall "reversed.__new__" ⟨[.type "reversed",a],[]⟩=pure ():=by kernel_rfl
theorem eNew:entryFor table "reversed.__new__"=some Builtin.«reversed.__new__»:=entryFor_of_tree (by kernel_rfl)
theorem subRev:isSubtype (.type "reversed") (.type "reversed")=pure true:=by rw[isSubtype_type];kernel_rfl
end RV
end
section
namespace L2
open PySem PySem.Spec PyProof.Rows
section
variable{X:Cx}
theorem aAZ:bootBuiltins "reversed"=some (.type "reversed"):=by decide +kernel
end
end L2
end
section
namespace L2
open PySem PySem.Spec PyProof.Rows
theorem mW{prog:Program}{w:World}{A:Around}{R:Result→Shared→Prop}{s:Shared}{elt target iter:Expr}{ifs:List Expr}{scope:Scope}{pos:Pos}{it acc:Value}{env:Env}(I:Nat→Shared→Prop)
  (turn:∀ n s,I n s→wpAny (model prog w) A (pyNext it) (fun r s1=>match r with
   |none=>R (.ok .next) s1
   |some v=>wpAny (model prog w) A (letOwnedTupleGo target it v) (fun _ s2=>wpAny (model prog w) A (assign target env v) (fun _ s3=>
     wpAny (model prog w) A (forIn ifs true fun c r=>if r=true then(isTrue c env (eval c env) >>=fun ok=>pure (ForInStep.yield ok)) else pure (ForInStep.yield r)) (fun ok s4=>
      if ok=true then wpAny (model prog w) A (eval elt env) (fun x s5=>wpAny (model prog w) A (call (.builtin "list.append") [acc,x]) (fun _ s6=>∃ m,m<n∧I m s6) (fun _ _=>False) s5) (fun _ _=>False) s4
      else ∃ m,m<n∧I m s4) (fun _ _=>False) s3) (fun _ _=>False) s2) (fun _ _=>False) s1) (fun _ _=>False) s)
  (n:Nat)(h:I n s):codeAny (model prog w) A (.compLoop (.ListComp elt [⟨target,iter,ifs,0⟩] scope pos) 0 it acc env) R s:=by
 refine codeAny_loop rfl I (fun n s hI=>?_) n h
 change wpAny _ A ((compTurn (.ListComp elt [⟨target,iter,ifs,0⟩] scope pos) 0 it acc env).onRaise (fun x=>do noteFrame x env;theTreesLotGoes x)) _ _ s
 refine wpAny_noted ?_
 rw[compTurn_list]
 refine wpAny_bind (wpAny_standAt (wpAny_bind (wpAny_mono (turn n s hI) (fun r s1 h1=>?_) fun _ _ z=>z.elim)))
 cases r with
 |none=>exact wpAny_pure h1
 |some v=>
  refine wpAny_bind (wpAny_mono h1 (fun _ s2 h2=>?_) fun _ _ z=>z.elim)
  refine wpAny_bind (wpAny_mono h2 (fun _ s3 h3=>?_) fun _ _ z=>z.elim)
  refine wpAny_bind (wpAny_mono h3 (fun ok s4 h4=>?_) fun _ _ z=>z.elim)
  cases ok with
  |false=>exact wpAny_pure ⟨rfl,h4⟩
  |true=>
   refine wpAny_bind (wpAny_bind (wpAny_mono h4 (fun x s5 h5=>?_) fun _ _ z=>z.elim))
   exact wpAny_bind (wpAny_mono h5 (fun _ s6 h6=>wpAny_pure (wpAny_pure ⟨rfl,h6⟩)) fun _ _ z=>z.elim)
def PF(X:Cx)(ifs:List Expr)(t:TT):Prop:=∀ (pins:List (Addr×Obj)) (s:Shared) (σ:St) (H:Hp) (Q:Bool→Hp→Prop),Inv X pins σ H s→t σ H Q→
 wpAny (model X.prog X.w) X.A (forIn ifs true fun c r=>if r=true then(isTrue c X.env (eval c X.env) >>=fun ok=>pure (ForInStep.yield ok)) else pure (ForInStep.yield r)) (TP X pins σ Q) X.xe s
theorem aEN{X:Cx}:PF X [] (fun _ H Q=>Q true H):=fun pins s σ H Q I h=>wpAny_pure ⟨H,I,h⟩
theorem aEO{X:Cx}{c:Expr}{t:TT}(h:PT X c t):PF X [c] t:=fun pins s σ H Q I q=>by
 change wpAny _ _ ((if true=true then(isTrue c X.env (eval c X.env) >>=fun ok=>pure (ForInStep.yield ok)) else pure (ForInStep.yield true)) >>=_) _ _ s
 rw[if_pos rfl]
 refine wpAny_bind (wpAny_bind (thn (h pins s σ H Q I q) fun ok s1 h1=>wpAny_pure ?_))
 exact wpAny_pure h1
abbrev nones(k:Nat):St:=List.replicate k none
def tCompG(k:Nat)(caps:List Nat)(wi:TI)(g:TG)(tc:TT)(te:TE):TE:=fun σ H Q=>wi σ H fun J H1=>∃ (n:Nat) (W:Nat→List V→Hp→Prop),n<sizeLine∧W 0 [] H1∧∀ i zs H,W i zs H→
 (J.stop i H∧∀ p,H p=none→Q (.ref p) (upd H p (.lst zs)))∨(J.go i H∧i<n∧∀ x H',J.yld i H x H'→∃ vs:List V,vs.length=k∧(g x (nones k++capsOf caps σ) H' fun σ' H''=>σ'=vs.map some++capsOf caps σ∧H''=H')∧
  tc (vs.map some++capsOf caps σ) H' fun b H2=>if b=true then te (vs.map some++capsOf caps σ) H2 fun z H3=>W (i+1) (zs++[z]) H3 else W (i+1) zs H2)
theorem pgc{X:Cx}{xs cn:List Str}{scope:Scope}{cl:List (Str×Addr)}{C:Addr}{ex:List Addr}{s:Shared}{H:Hp}{i:Nat}{x:Str}{pos:Pos}(nd:(xs++cn).Nodup)(hi:(xs++cn)[i]?=some x)(hx:scope.names.lookup x=some .local):PG (cxComp X (xs++cn) scope cl C ex s H) (.Name x pos) (gName i):=
 xQ (i:=i) nd hi (.inl (lookup_relabel_local hx)) (.inr (lookup_relabel_local hx))
section
variable{X:Cx}
theorem aBa{elt iter tg:Expr}{ifs:List Expr}{x:Str}{xs:List Str}{pos:Pos}{scope:Scope}{cl:List (Str×Addr)}{cn:List Str}{caps:List Nat}{wi:TI}{g:TG}{tc:TT}{te:TE}
  (hc:X.calm=true)(hi:PI X tg iter wi)(cp:Caps X scope x cl cn caps)(hg:∀ C ex s H,PG (cxComp X (xs++cn) scope cl C ex s H) tg g)(hif:∀ C ex s H,PF (cxComp X (xs++cn) scope cl C ex s H) ifs tc)
  (he:∀ C ex s H,PE (cxComp X (xs++cn) scope cl C ex s H) elt te)
  (hs:∀ x,foldedSetIterable iter X.env x=pure x:=by intro _;rfl):
  PE X (.ListComp elt [⟨tg,iter,ifs,0⟩] scope pos) (tCompG xs.length caps wi g tc te):=by
 intro pins s σ H Q I h
 rw[eval_ListComp]
 refine wpAny_comprehension_free (use:=none) rfl hs cp.clos cp.kind cp.names (thn (hi pins s σ H _ I h) fun v s1 h1=>thn h1 fun itv s2 h2=>?_)
 obtain⟨it,fp,tn,J,H2,e,I2,T,st2,f2,n,W,hn,w0,turn⟩:=h2
 subst e
 refine wpAny_newObj_type (wpAny_newFunctionEnv cp.cell (by intro y hy;simp at hy) (fun h₁ hns₁ hsb₁=>?_) cp.kind)
 dsimp only at hns₁ hsb₁ ⊢
 generalize hG:s2.heap.push { cls:=.type "list",dict:=none,data:=.seq ([]:List Value).toArray }=G at hns₁ hsb₁ ⊢
 have hC:G.objs.size=s2.heap.objs.size+1:=by rw[← hG,Heap.size_push]
 generalize hCe:G.objs.size=C at hns₁ hsb₁ hC ⊢
 generalize hDe:s2.heap.objs.size=D at hC ⊢
 have hDC:D≠C:=by rw[hC];exact Nat.ne_of_lt (Nat.lt_succ_self _)
 have below:∀ b,b<D→b≠C∧b≠D:=fun b hb=>⟨by rw[hC];exact Nat.ne_of_lt (Nat.lt_succ_of_lt hb),Nat.ne_of_lt hb⟩
 have old:∀ b o,s2.heap.get? b=some o→h₁.get? b=some o:=fun b o e=>hsb₁.extBut b o (below b (hDe ▸ Heap.lt_size e)).1 (Heap.get?_push_of_some _ (hG ▸ Heap.get?_push_of_some _ e))
 have hacc:h₁.get? D=some (listO [] 0):=hsb₁.extBut _ _ hDC (Heap.get?_push_of_some _ (by rw[← hG,← hDe];exact Heap.get?_push_size _ rfl))
 have fpl:∀ b∈fp,b<D:=fun b hb=>by
  obtain⟨o,e,_⟩:=T.obj _ _ st2 b hb
  exact hDe ▸ Heap.lt_size e
 have hDs:s2.heap.objs.size≤D:=Nat.le_of_eq hDe
 have hCs:s2.heap.objs.size≤C:=by omega
 have fsN:∀ {b},b≠X.env.locals→b∉X.fs→b∉frs X.stack:=fun {b} h1 h2 z=>(List.mem_cons.mp (I2.stkSub b z)).elim h1 h2
 have big:∀ {a},s2.heap.objs.size≤a→a∉frs X.stack:=fun {a} ha=>fsN (Nat.ne_of_gt (Nat.lt_of_lt_of_le I2.lt ha)) (I2.nofs ha)
 have cellLt:∀ y c,cl.lookup y=some c→c<D:=fun y c e=>by
  obtain⟨v,q⟩:=I2.cell y c (cp.sub y c e)
  exact hDe ▸ q.lt
 have ok:(cxComp X (xs++cn) scope cl C fp s2 H2).Ok:=by
  refine⟨I2.ok.mod,cp.kind,I2.ok.glob,I2.ok.blt,hCs,fun y z c h1 h2=>I2.ok.inj y z c (cp.sub y c h1) (cp.sub z c h2),fun y hy=>cp.has y hy,fun y c hf=>(by cases hf),I2.ok.hd,I2.ok.frames, .inl rfl,fun b hb=>?_,I2.bs,Nat.le_trans I2.ok.bsz I2.sz,fun b o e hb=>?_,fun b hb=>?_,I2.stack,I2.stkFree⟩
  ·exact⟨(below b (fpl b hb)).1,fun y c e=>(f2 b hb).2.2.2.2.1 y c (cp.sub y c e)⟩
  ·obtain⟨_,_,_,q,_⟩:=f2 b hb
   rcases q with q|q
   ·exact I2.ok.noex b o e q
   ·exact absurd (Nat.lt_of_lt_of_le (Heap.lt_size (I2.ok.bs b o e).1) q) (Nat.lt_irrefl _)
  ·exact fsN (f2 b hb).2.1 (f2 b hb).2.2.1
 have stat:∀ {us:List Value} {nn:Nat} {H':Hp},(∀ b∈fp,H' b=none)→∀ b∈fp,FpOk (cxComp X (xs++cn) scope cl C fp s2 H2) [(D,listO us nn)] H' b:=fun {us nn H'} hn b hb=>
  ⟨hn b hb,(below b (fpl b hb)).1,fsN (f2 b hb).2.1 (f2 b hb).2.2.1, .inl hb,fun y c e=>(f2 b hb).2.2.2.2.1 y c (cp.sub y c e),fun p hp=>by
   obtain rfl:p=(D,listO us nn):=by simpa[cxComp] using hp
   exact(below b (fpl b hb)).2.symm⟩
 have pinD:∀ {σ':St} {H':Hp} {s':Shared} {us:List Value} {nn:Nat},Inv (cxComp X (xs++cn) scope cl C fp s2 H2) [] σ' H' s'→H' D=none→s'.heap.get? D=some (listO us nn)→Inv (cxComp X (xs++cn) scope cl C fp s2 H2) [(D,listO us nn)] σ' H' s':=fun {σ' H' s' us nn} J hn e=>
  J.pins_of fun p hp=>by
   obtain rfl:p=(D,listO us nn):=by simpa using hp
   exact⟨e,hn,hDC,big hDs,fun v z=>by cases z⟩
 have I4:∀ tk,Inv (cxComp X (xs++cn) scope cl C fp s2 H2) [] (nones xs.length++capsOf caps σ) H2 { s2 with heap:=h₁,toks:=tk }:=fun tk=>by
  refine⟨ok,rfl,I2.bare,Un.kept old,⟨_,hns₁,fun i y v h1 h2 h3=>?_⟩,fun y c e=>?_,I2.hok.fresh hCs,fun y c e=>I2.freeC y c (cp.sub y c e),fun p hp=>absurd (show p∈([]:List (Addr×Obj)) from hp) (by simp),I2.hok.kept old,?_⟩
  ·have hik:xs.length≤i:=by
    rcases Nat.lt_or_ge i xs.length with hlt|hge
    ·rw[List.getElem?_append_left (by simpa using hlt),List.getElem?_replicate,if_pos hlt] at h2
     cases h2
    ·exact hge
   obtain⟨k,rfl⟩:∃ k,i=xs.length+k:=⟨i - xs.length,by omega⟩
   ·have h1':cn[k]?=some y:=by
     have q:(xs++cn)[xs.length+k]?=some y:=h1
     rwa [List.getElem?_append_right (by omega),Nat.add_sub_cancel_left] at q
    obtain⟨j,ej,eN,vis,kd,kd'⟩:=cp.cap k y h1'
    have h2':σ[j]?=some (some v):=by
     have q:(capsOf caps σ)[k]?=some (some v):=by
      rwa [List.getElem?_append_right (by simp),List.length_replicate,Nat.add_sub_cancel_left] at h2
     unfold capsOf at q
     rw[List.getElem?_map,ej] at q
     have q':(σ[j]?).getD none=some v:=by simpa using q
     cases eσ:σ[j]? with
     |none=>rw[eσ] at q';cases q'
     |some z=>rw[eσ] at q';rw[show z=some v from q']
    obtain⟨m,hm,hl⟩:=I2.loc
    obtain⟨u,ru,lk⟩:=hl j y v eN h2' vis
    refine⟨u,ru,?_⟩
    obtain⟨c,ec⟩:=cp.has y kd'
    rcases lk with⟨k1,_⟩|⟨_,c',ec',z⟩
    ·rcases kd with kd|kd<;>(rw[kd] at k1;cases k1)
    ·have:c=c':=Option.some.inj ((cp.sub y c ec).symm.trans ec')
     subst this
     obtain⟨o,ho,hd⟩:=z
     exact .inr ⟨kd',c,ec,⟨o,old c o ho,hd⟩⟩
  ·obtain⟨v,o,ho,hd⟩:=I2.cell y c (cp.sub y c e)
   exact⟨v,o,old c o ho,hd⟩
  ·show _=(xs++cn).length
   simp[capsOf,cp.len]
 have loop:∀ s₃:Shared,Inv (cxComp X (xs++cn) scope cl C fp s2 H2) [] (nones xs.length++capsOf caps σ) H2 s₃→s₃.heap.get? D=some (listO [] 0)→tn 0 s₃.heap→
   codeAny (model X.prog X.w) X.A (.compLoop (.ListComp elt [⟨tg,iter,ifs,0⟩] scope pos) 0 (.ref it) (.ref D) (compEnvC scope cl C X.env))
    (compPost (model X.prog X.w) X.A X.xe none (EP X pins σ Q) (.ref D) C) s₃:=by
  intro s₃ I3 e3 t3
  refine mW (fun k s'=>∃ (i:Nat) (zs:List V) (us:List Value) (nn:Nat) (H':Hp),k=n+1 - i∧i≤n∧Inv (cxComp X (xs++cn) scope cl C fp s2 H2) [(D,listO us nn)] (nones xs.length++capsOf caps σ) H' s'∧tn i s'.heap∧(∀ b∈fp,H' b=none)∧W i zs H'∧Vals zs us∧zs.length≤i) ?_ (n+1)
   ⟨0,[],[],0,H2,rfl,Nat.zero_le _,pinD I3 (I2.hok.fresh hDs) e3,t3,fun b hb=>(f2 b hb).1,w0, .nil,Nat.le_refl _⟩
  rintro k s' ⟨i,zs,us,nn,H',rfl,hin,I',st',fr',w',vs',hl⟩
  have pD:=I'.pin (D,listO us nn) (List.mem_append_right _ (by simp))
  rcases turn i zs H' w' with⟨stop,fin⟩|⟨go,hlt,step⟩
  ·refine thn (T.done (cxComp X (xs++cn) scope cl C fp s2 H2) rfl rfl rfl hc i _ s' _ H' (fun _ _=>False) I' (stat fr') st' stop) fun r s4 ⟨hr,I4'⟩=>?_
   subst hr
   obtain⟨m,hm,_⟩:=id I4'.loc
   refine⟨m,hm,fun h' hs'=>?_⟩
   obtain⟨e4,n4,_,_,_⟩:=I4'.pin (D,listO us nn) (List.mem_append_right _ (by simp))
   have e4:s4.heap.get? D=some (listO us nn):=e4
   have n4:H' D=none:=n4
   have nC:H' C=none:=I4'.free
   have kk:∀ b o,b≠C→s4.heap.get? b=some o→h'.get? b=some o:=fun b o hb e=>(hs'.2 b hb).trans e
   have un:Un (frs X.stack) fp H2 (upd H' D (.lst zs)) s2.heap h':=by
    have u:=I4'.base
    have ne:∀ b o,s2.heap.get? b=some o→b≠C∧b≠D:=fun b o e=>below b (hDe ▸ Heap.lt_size e)
    refine⟨fun b o e n0 hb hx=>kk b o (ne b o e).1 (u.keep b o e n0 hb hx),fun b o e n0 hb hx=>?_,fun b o e n0 hx=>?_,fun b o e hx=>?_,fun b xs e=>?_,fun b o xs e=>?_,fun b ps e=>?_⟩
    ·obtain⟨sl,q⟩:=u.slot b o e n0 hb hx
     exact⟨sl,kk b _ (ne b o e).1 q⟩
    ·rw[bL (ne b o e).2];exact u.free b o e n0 hx
    ·obtain⟨o',q⟩:=u.there b o e hx
     exact⟨o',kk b _ (ne b o e).1 q⟩
    ·have q:=u.tups b xs e
     rw[bL (bF q n4)];exact q
    ·have q:=u.frzs b o xs e
     rw[bL (bF q n4)];exact q
    ·obtain⟨more,q⟩:=u.tbls b ps e
     exact⟨more,by rw[bL (bF q n4)];exact q⟩
   have hokD:HOk X.prog X.w (upd H' D (.lst zs)) h':=fun b o e=>by
    by_cases hb:b=D
    ·subst hb
     rw[fE] at e;cases e
     exact⟨by omega,us,nn,vs',kk _ _ hDC e4⟩
    ·rw[bL hb] at e
     refine(I4'.hok b o e).stay (fun c v hcc q=>kk c v ?_ q) (fun c q=>?_) fun c xs q=>?_
     ·rintro rfl
      rcases hcc with z|z
      ·rw[← z,nC] at e;cases e
      ·rw[nC] at z;cases z
     ·rw[bL (bF q n4)];exact q
     ·rw[bL (bF q n4)];exact q
   obtain⟨hh,gg,dd,tt,oo⟩:=s4
   obtain rfl:oo=s2.os:=I4'.os
   refine⟨.ref D,upd H' D (.lst zs),?_,rfl,fin D n4⟩
   have fin1:=I2.call (h':=h') (g':=gg) (d':=dd) (t':=tt) (ch:=fp) un hokD I4'.bare fun b hb=>⟨(f2 b hb).2.2.2.1,(f2 b hb).2.1,(f2 b hb).2.2.2.2.1,(f2 b hb).2.2.2.2.2⟩
   exact fin1
  ·refine thn (T.item (cxComp X (xs++cn) scope cl C fp s2 H2) rfl rfl rfl hc i _ s' _ H' (fun _ _=>False) I' (stat fr') st' go) fun r s4 ⟨u,hr,h4⟩=>?_
   subst hr
   refine thn h4 fun _ s5 ⟨y,H5,I5,r5,y5,st5,fr5⟩=>?_
   have I5':=I5.pinned (stat fr5) (T.obj _ _ st5)
   obtain⟨vs,hvl,hgs,step5⟩:=step y H5 y5
   refine thn (hg C fp s2 H2 _ s5 _ H5 y u _ I5' r5 hgs) fun _ s6 ⟨σ6,H6,I6,q6,q6'⟩=>?_
   subst q6;subst q6'
   have wk:∀ {H8:Hp} {s8:Shared} {pp:List (Addr×Obj)},Inv (cxComp X (xs++cn) scope cl C fp s2 H2) pp (vs.map some++capsOf caps σ) H8 s8→Inv (cxComp X (xs++cn) scope cl C fp s2 H2) pp (nones xs.length++capsOf caps σ) H8 s8:=fun {H8 s8 pp} J8=>by
    refine J8.weak (by simp[hvl]) fun j v e=>?_
    rcases Nat.lt_or_ge j xs.length with hlt|hge
    ·rw[List.getElem?_append_left (by simpa using hlt),List.getElem?_replicate,if_pos hlt] at e
     cases e
    ·rw[List.getElem?_append_right (by simpa using hge),List.length_replicate] at e
     rw[List.getElem?_append_right (by simpa[hvl] using hge),List.length_map,hvl]
     exact e
   refine thn (hif C fp s2 H2 _ s6 _ H6 _ I6 step5) fun ok s6' ⟨H6',I6',q6'⟩=>?_
   cases ok with
   |false=>
    obtain⟨e7,n7,_,_,_⟩:=I6'.pin (D,listO us nn) (List.mem_append_right _ (List.mem_append_left _ (by simp)))
    refine⟨n+1 - (i+1),by omega,i+1,zs,us,nn,H6',rfl,hlt,?_,?_,fun b hb=>?_,q6',vs',by omega⟩
    ·exact pinD (wk (I6'.pins_of fun p hp=>absurd hp (by simp))) n7 e7
    ·refine T.keep _ _ _ st5 fun b hb o e=>(I6'.pin (b,o) (List.mem_append_right _ (List.mem_append_right _ (gI hb e)))).1
    ·obtain⟨o,e,d⟩:=T.obj _ _ st5 b hb
     exact(I6'.pin (b,o) (List.mem_append_right _ (List.mem_append_right _ (gI hb e)))).2.1
   |true=>
    refine thn (he C fp s2 H2 _ s6' _ H6' _ I6' q6') fun v7 s7 ⟨z,H7,I7,r7,w7⟩=>?_
    obtain⟨e7,n7,_,_,_⟩:=I7.pin (D,listO us nn) (List.mem_append_right _ (List.mem_append_left _ (by simp)))
    have e7:s7.heap.get? D=some (listO us nn):=e7
    have n7:H7 D=none:=n7
    have hul:us.length≤i:=by rw[← vs'.length];exact hl
    refine wpAny_list_append_plain (hsz:=by rw[List.size_toArray];omega) ⟨nn,e7⟩ fun h8 p8 sb8=>?_
    obtain⟨n8,e8⟩:=p8
    have e8:h8.get? D=some (listO (us++[v7]) n8):=by rw[e8];simp[listO]
    have I8:Inv (cxComp X (xs++cn) scope cl C fp s2 H2) [] (vs.map some++capsOf caps σ) H7 { s7 with heap:=h8 }:=
     Inv.turned (t':=s7.toks) (I7.pins_of fun p hp=>absurd hp (by simp)) (fun b o hb e=>(sb8.2 b hb).trans e) n7 hDC (.inr hDs) (fun y' c e=>Nat.ne_of_lt (cellLt y' c e)) fun p hp=>absurd (show p∈([]:List (Addr×Obj)) from hp) (by simp)
    refine⟨n+1 - (i+1),by omega,i+1,zs++[z],us++[v7],n8,H7,rfl,hlt,?_,?_,fun b hb=>?_,w7,vs'.append (.cons r7 .nil),by rw[List.length_append];show zs.length+1≤i+1;omega⟩
    ·exact pinD (wk I8) n7 e8
    ·refine T.keep _ _ _ st5 fun b hb o e=>(sb8.2 b (below b (fpl b hb)).2).trans (I7.pin (b,o) (List.mem_append_right _ (List.mem_append_right _ (gI hb e)))).1
    ·obtain⟨o,e,d⟩:=T.obj _ _ st5 b hb
     exact(I7.pin (b,o) (List.mem_append_right _ (List.mem_append_right _ (gI hb e)))).2.1
 have t4:tn 0 h₁:=T.keep _ _ _ st2 fun b hb o e=>old b o e
 refine codeAny_compStart_list (loop _ (I4 _) hacc t4) (T.self _ 0 _ _ _ t4 (loop _ (I4 _) hacc t4))
end
end L2
end
section
namespace ZPT
open PySem PySem.Spec PyProof.Rows L2
structure ZS (h:Heap) (z TI TO i1 i2 t1 t2:Addr) (k:Nat):Prop where
 z:∃ f0 f1,h.get? z=some { cls:=.type "zip",dict:=none,data:=.fields #[f0, .bool f1, .bool false, .ref TI, .ref TO],slots:=#[] }∧(f0=.none∨∃ T o,f0=rawInt (T:Nat)∧h.get? T=some o)
 ti:IsPair h TI (.ref i1) (.ref i2)
 to:∃ a b,IsPair h TO a b
 n1:h.IsTupleIter i1 t1 k
 n2:h.IsTupleIter i2 t2 k
structure Ap (z TI TO i1 i2 t1 t2:Addr):Prop where
 a1:TI≠z
 a2:TO≠z
 a3:i1≠z
 a4:i2≠z
 a5:TI≠TO
 a6:TI≠i1
 a7:TI≠i2
 a8:TO≠i1
 a9:TO≠i2
 b1:i1≠i2
 b2:t1≠z
 b3:t1≠TO
 b4:t1≠i1
 b5:t1≠i2
 b6:t2≠z
 b7:t2≠TO
 b8:t2≠i1
 b9:t2≠i2
theorem jM{h h':Heap}{t c:Addr}{xs:Array Value}(x:h.IsTuple t xs)(s:Heap.SameBut c h h')(n:t≠c):h'.IsTuple t xs:=x.extBut s.extBut n
theorem hV{h h':Heap}{i t c:Addr}{k:Nat}(x:h.IsTupleIter i t k)(s:Heap.SameBut c h h')(n:i≠c):h'.IsTupleIter i t k:=by
 obtain⟨o,e,r⟩:=x
 exact⟨o,s.extBut _ _ n e,r⟩
theorem pX{h:Heap}{i t:Addr}{k:Nat}{o:Obj}(x:h.IsTupleIter i t k):(h.push o).IsTupleIter i t k:=by
 obtain⟨o',e,r⟩:=x
 exact⟨o',Heap.get?_push_of_some _ e,r⟩
section
variable{prog:Program}{w:World}{A:Around}{E:Value→Shared→Prop}{s:Shared}{z TI TO i1 i2 t1 t2:Addr}{k:Nat}{xs ys:Array Value}
set_option maxHeartbeats 2000000 in
theorem item{x y:Value}{Q:Option Value→Shared→Prop}(D:Ap z TI TO i1 i2 t1 t2)(Z:ZS s.heap z TI TO i1 i2 t1 t2 k)(h1:s.heap.IsTuple t1 xs)(h2:s.heap.IsTuple t2 ys)(hx:xs[k]?=some x)(hy:ys[k]?=some y)
  (g:∀ h',ZS h' z TI TO i1 i2 t1 t2 (k+1)→IsPair h' s.heap.objs.size x y→(∀ c o,c≠z→c≠TO→c≠i1→c≠i2→s.heap.get? c=some o→h'.get? c=some o)→Q (some (.ref s.heap.objs.size)) { s with heap:=h' }):
  wpAny (model prog w) A (pyNext (.ref z)) Q E s:=by
 obtain⟨⟨f0,f1,hz,hf⟩,hti,⟨a,b,hto⟩,hn1,hn2⟩:=Z
 have hT:s.TypeIs (.ref z) "zip":=⟨_,hz,rfl⟩
 unfold pyNext
 refine wpAny_bind (wpAny_attempt (wpAny_callSpecial?_slot (name:=Str.ofString "__next__") hT F.slot_zip_next ?_))
 refine wpAny_call_entry F.slot_zip_next hT F.entry_zip_next ?_ (F.args_zip_next_1 _)
 change wpAny _ _ (field (.ref z) 2 >>=_) _ _ _
 refine wpAny_bind (wpAny_field hz rfl (x:=.bool false) rfl ?_)
 change wpAny _ _ (field (.ref z) 3 >>=_) _ _ _
 refine wpAny_bind (wpAny_field hz rfl (x:=.ref TI) rfl ?_)
 refine wpAny_bind (wpAny_seqItems hti rfl ?_)
 change wpAny _ _ (Builtin.SmallTypes.ownedTupleIsFree (.ref z) >>=_) _ _ _
 refine wpAny_bind ?_
 unfold Builtin.SmallTypes.ownedTupleIsFree
 rcases hf with rfl|⟨T,oT,rfl,hTo⟩
 ·refine wpAny_bind (wpAny_field hz rfl (x:=.none) rfl ?_)
  refine wpAny_pure ?_
  simp only[if_true]
  refine wpAny_bind (wpAny_rule ?_)
  refine wpAny_bind (wpAny_field hz rfl (x:=.ref TO) rfl ?_)
  refine wpAny_bind (wpAny_setField_rec hz (by simp) fun g1 z1 b1=>?_)
  refine wpAny_bind ?_
  simp only[List.zipIdx_cons,List.zipIdx_nil,List.forIn_cons,List.forIn_nil]
  refine wpAny_bind (wpAny_bind (wpAny_onRaise ?_))
  change wpAny _ _ (Builtin.SmallTypes.nextOf (.ref i1) >>=_) _ _ _
  refine wpAny_bind (eW (hV hn1 b1 D.a3) (jM h1 b1 D.b2) hx fun g2 n1 b2=>wpAny_pure ?_)
  have to2:IsPair g2 TO a b:=b2.extBut _ _ D.a8 (b1.extBut _ _ D.a2 hto)
  refine wpAny_bind (wpAny_seqItems to2 rfl ?_)
  refine wpAny_bind (wpAny_updateSeq_pair to2 fun g3 to3 b3=>?_)
  have to3:IsPair g3 TO x b:=to3
  refine wpAny_bind (wpAny_letGo (wpAny_pure ?_))
  refine wpAny_bind (wpAny_bind (wpAny_onRaise ?_))
  change wpAny _ _ (Builtin.SmallTypes.nextOf (.ref i2) >>=_) _ _ _
  refine wpAny_bind (eW (hV (hV (hV hn2 b1 D.a4) b2 D.b1.symm) b3 D.a9.symm) (jM (jM (jM h2 b1 D.b6) b2 D.b8) b3 D.b7) hy fun g4 n2 b4=>wpAny_pure ?_)
  have to4:IsPair g4 TO x b:=b4.extBut _ _ D.a9 to3
  refine wpAny_bind (wpAny_seqItems to4 rfl ?_)
  refine wpAny_bind (wpAny_updateSeq_pair to4 fun g5 to5 b5=>?_)
  have to5:IsPair g5 TO x y:=to5
  refine wpAny_bind (wpAny_letGo (wpAny_pure (wpAny_pure ?_)))
  refine wpAny_bind (wpAny_seqItems to5 rfl ?_)
  refine wpAny_bind (wpAny_newTuple ?_)
  have hsz:g5.objs.size=s.heap.objs.size:=by rw[b5.1,b4.1,b3.1,b2.1,b1.1]
  have z5:g5.get? z=some { cls:=.type "zip",dict:=none,data:=.fields #[.ellipsis, .bool f1, .bool false, .ref TI, .ref TO],slots:=#[] }:=b5.extBut _ _ D.a2.symm (b4.extBut _ _ D.a4.symm (b3.extBut _ _ D.a2.symm (b2.extBut _ _ D.a3.symm z1)))
  have k5:∀ c o,c≠z→c≠TO→c≠i1→c≠i2→s.heap.get? c=some o→g5.get? c=some o:=fun c o c1 c2 c3 c4 e=>b5.extBut _ _ c2 (b4.extBut _ _ c4 (b3.extBut _ _ c2 (b2.extBut _ _ c3 (b1.extBut _ _ c1 e))))
  have m1:g5.IsTupleIter i1 t1 (k+1):=hV (hV (hV n1 b3 D.a8.symm) b4 D.b1) b5 D.a8.symm
  have m2:g5.IsTupleIter i2 t2 (k+1):=hV n2 b5 D.a9.symm
  have hzl:z<g5.objs.size:=Heap.lt_size z5
  change wpAny _ _ (Builtin.SmallTypes.ownedTupleHandOut (.ref z) (.ref g5.objs.size) >>=_) _ _ _
  refine wpAny_bind ?_
  unfold Builtin.SmallTypes.ownedTupleHandOut
  have z6:=Heap.get?_push_of_some { cls:=.type "tuple",data:=.seq #[x,y] } z5
  refine wpAny_bind (wpAny_setField_rec z6 (by simp) fun g7 z7 b7=>?_)
  refine wpAny_setField_rec z7 (by simp) fun g8 z8 b8=>?_
  have up:∀ c o,c≠z→g5.get? c=some o→g8.get? c=some o:=fun c o c1 e=>b8.extBut _ _ c1 (b7.extBut _ _ c1 (Heap.get?_push_of_some _ e))
  have p8:IsPair g8 g5.objs.size x y:=b8.extBut _ _ (Nat.ne_of_gt hzl) (b7.extBut _ _ (Nat.ne_of_gt hzl) (Heap.get?_push_size _ rfl))
  refine wpAny_pure ⟨_,rfl,?_⟩
  have p8':=p8
  rw[hsz] at p8
  change wpAny _ _ (pure (some (Value.ref g5.objs.size))) _ _ _
  rw[hsz]
  refine wpAny_pure (g g8 ⟨⟨rawInt (g5.objs.size:Nat),false,z8, .inr ⟨g5.objs.size,_,rfl,p8'⟩⟩,up _ _ D.a1 (k5 _ _ D.a1 D.a5 D.a6 D.a7 hti),⟨x,y,up _ _ D.a2 to5⟩,?_,?_⟩ p8 fun c o c1 c2 c3 c4 e=>up c o c1 (k5 c o c1 c2 c3 c4 e))
  ·obtain⟨o,e,r⟩:=m1
   exact⟨o,up _ _ D.a3 e,r⟩
  ·obtain⟨o,e,r⟩:=m2
   exact⟨o,up _ _ D.a4 e,r⟩
 ·refine wpAny_bind (wpAny_field hz rfl (x:=rawInt (T:Nat)) rfl ?_)
  change wpAny _ _ (loadIfAlive (Int.toNat (T:Nat)) >>=_) _ _ _
  refine wpAny_bind ?_
  rw[Int.toNat_natCast]
  refine(fun Γ p hΓ=>?_:wpAny _ _ (loadIfAlive T) _ _ _)
  change PySem.Sem.wp _ Γ (.loadIfAlive T .pure) _ _ p s
  rw[PySem.Sem.wp_loadIfAlive,hTo]
  refine(?_:wpAny (model prog w) A.in1 (pure (some oT)) _ _ s) Γ p hΓ
  refine wpAny_pure ?_
  simp only[Option.isNone_some,Bool.false_eq_true,if_false]
  refine wpAny_bind (wpAny_field hz rfl (x:=.bool f1) rfl ?_)
  cases f1 with
  |true=>
   rw[if_neg (by decide)]
   refine wpAny_pure ?_
   simp only[Bool.false_eq_true,if_false]
   simp only[← Array.forIn_toList,List.forIn_cons,List.forIn_nil]
   refine wpAny_bind (wpAny_bind (wpAny_bind (wpAny_holding ?_)))
   change wpAny _ _ (Builtin.SmallTypes.nextOf (.ref i1) >>=_) _ _ _
   refine wpAny_bind (eW (hn1) (h1) hx fun g2 m1 b2=>wpAny_pure (wpAny_pure ?_))
   dsimp only
   refine wpAny_bind (wpAny_bind (wpAny_holding ?_))
   change wpAny _ _ (Builtin.SmallTypes.nextOf (.ref i2) >>=_) _ _ _
   refine wpAny_bind (eW (hV (hn2) b2 D.b1.symm) (jM (h2) b2 D.b8) hy fun g3 m2 b3=>wpAny_pure (wpAny_pure (wpAny_pure ?_)))
   dsimp only
   refine wpAny_bind (wpAny_newTuple ?_ (by show 2≤sizeLine;rw[sizeLine_eq];decide))
   refine wpAny_pure ⟨_,rfl,?_⟩
   have hsz:g3.objs.size=s.heap.objs.size:=by rw[b3.1,b2.1]
   have k3:∀ c o,c≠z→c≠i1→c≠i2→s.heap.get? c=some o→g3.get? c=some o:=fun c o c1 c3 c4 e=>b3.extBut _ _ c4 (b2.extBut _ _ c3 (e))
   have z3:=b3.extBut _ _ D.a4.symm (b2.extBut _ _ D.a3.symm (hz))
   have up:∀ c o,g3.get? c=some o→(g3.push { cls:=.type "tuple",data:=.seq #[x,y] }).get? c=some o:=fun c o e=>Heap.get?_push_of_some _ e
   have p4:IsPair (g3.push { cls:=.type "tuple",data:=.seq #[x,y] }) g3.objs.size x y:=Heap.get?_push_size _ rfl
   rw[hsz] at p4
   change wpAny _ _ (pure (some (Value.ref g3.objs.size))) _ _ _
   rw[hsz]
   have hTz:T≠z∨T=z:=by
    by_cases e:T=z
    ·exact .inr e
    ·exact .inl e
   have hTo3:∃ o,(g3.push { cls:=.type "tuple",data:=.seq #[x,y] }).get? T=some o:=by
    by_cases e1:T=z
    ·subst e1;exact⟨_,up _ _ z3⟩
    ·by_cases e2:T=i1
     ·subst e2
      obtain⟨o,e,_⟩:=hV m1 b3 D.b1
      exact⟨o,up _ _ e⟩
     ·by_cases e3:T=i2
      ·subst e3
       obtain⟨o,e,_⟩:=m2
       exact⟨o,up _ _ e⟩
      ·exact⟨oT,up _ _ (k3 T oT e1 e2 e3 hTo)⟩
   obtain⟨oT',hTo'⟩:=hTo3
   exact wpAny_pure (g _ ⟨⟨rawInt (T:Nat),true,up _ _ z3, .inr ⟨T,oT',rfl,hTo'⟩⟩,up _ _ (k3 _ _ D.a1 D.a6 D.a7 hti),⟨a,b,up _ _ (k3 _ _ D.a2 D.a8 D.a9 hto)⟩,pX (hV m1 b3 D.b1),pX m2⟩ p4 fun c o c1 _ c3 c4 e=>up _ _ (k3 c o c1 c3 c4 e))
  |false=>
   rw[if_pos (by decide)]
   refine wpAny_bind (wpAny_setField_rec hz (by simp) fun g1 z1 b1=>wpAny_pure ?_)
   simp only[Bool.false_eq_true,if_false]
   simp only[← Array.forIn_toList,List.forIn_cons,List.forIn_nil]
   refine wpAny_bind (wpAny_bind (wpAny_bind (wpAny_holding ?_)))
   change wpAny _ _ (Builtin.SmallTypes.nextOf (.ref i1) >>=_) _ _ _
   refine wpAny_bind (eW (hV hn1 b1 D.a3) (jM h1 b1 D.b2) hx fun g2 m1 b2=>wpAny_pure (wpAny_pure ?_))
   dsimp only
   refine wpAny_bind (wpAny_bind (wpAny_holding ?_))
   change wpAny _ _ (Builtin.SmallTypes.nextOf (.ref i2) >>=_) _ _ _
   refine wpAny_bind (eW (hV (hV hn2 b1 D.a4) b2 D.b1.symm) (jM (jM h2 b1 D.b6) b2 D.b8) hy fun g3 m2 b3=>wpAny_pure (wpAny_pure (wpAny_pure ?_)))
   dsimp only
   refine wpAny_bind (wpAny_newTuple ?_ (by show 2≤sizeLine;rw[sizeLine_eq];decide))
   refine wpAny_pure ⟨_,rfl,?_⟩
   have hsz:g3.objs.size=s.heap.objs.size:=by rw[b3.1,b2.1,b1.1]
   have k3:∀ c o,c≠z→c≠i1→c≠i2→s.heap.get? c=some o→g3.get? c=some o:=fun c o c1 c3 c4 e=>b3.extBut _ _ c4 (b2.extBut _ _ c3 (b1.extBut _ _ c1 e))
   have z3:=b3.extBut _ _ D.a4.symm (b2.extBut _ _ D.a3.symm (z1))
   have up:∀ c o,g3.get? c=some o→(g3.push { cls:=.type "tuple",data:=.seq #[x,y] }).get? c=some o:=fun c o e=>Heap.get?_push_of_some _ e
   have p4:IsPair (g3.push { cls:=.type "tuple",data:=.seq #[x,y] }) g3.objs.size x y:=Heap.get?_push_size _ rfl
   rw[hsz] at p4
   change wpAny _ _ (pure (some (Value.ref g3.objs.size))) _ _ _
   rw[hsz]
   have hTz:T≠z∨T=z:=by
    by_cases e:T=z
    ·exact .inr e
    ·exact .inl e
   have hTo3:∃ o,(g3.push { cls:=.type "tuple",data:=.seq #[x,y] }).get? T=some o:=by
    by_cases e1:T=z
    ·subst e1;exact⟨_,up _ _ z3⟩
    ·by_cases e2:T=i1
     ·subst e2
      obtain⟨o,e,_⟩:=hV m1 b3 D.b1
      exact⟨o,up _ _ e⟩
     ·by_cases e3:T=i2
      ·subst e3
       obtain⟨o,e,_⟩:=m2
       exact⟨o,up _ _ e⟩
      ·exact⟨oT,up _ _ (k3 T oT e1 e2 e3 hTo)⟩
   obtain⟨oT',hTo'⟩:=hTo3
   exact wpAny_pure (g _ ⟨⟨rawInt (T:Nat),true,up _ _ z3, .inr ⟨T,oT',rfl,hTo'⟩⟩,up _ _ (k3 _ _ D.a1 D.a6 D.a7 hti),⟨a,b,up _ _ (k3 _ _ D.a2 D.a8 D.a9 hto)⟩,pX (hV m1 b3 D.b1),pX m2⟩ p4 fun c o c1 _ c3 c4 e=>up _ _ (k3 c o c1 c3 c4 e))
set_option maxHeartbeats 2000000 in
theorem stop{Q:Option Value→Shared→Prop}(hh:A.handled=none)(D:Ap z TI TO i1 i2 t1 t2)(Z:ZS s.heap z TI TO i1 i2 t1 t2 k)(h1:s.heap.IsTuple t1 xs)(hx:xs[k]?=none)
  (g:∀ h',(∀ c o,c≠z→c≠TO→c≠i1→c≠i2→s.heap.get? c=some o→h'.get? c=some o)→Q none { s with heap:=h' }):wpAny (model prog w) A (pyNext (.ref z)) Q E s:=by
 obtain⟨⟨f0,f1,hz,hf⟩,hti,⟨a,b,hto⟩,hn1,hn2⟩:=Z
 have hT:s.TypeIs (.ref z) "zip":=⟨_,hz,rfl⟩
 have fin:∀ (h':Heap) (e:Addr),(∀ c o,c≠z→c≠TO→c≠i1→c≠i2→s.heap.get? c=some o→h'.get? c=some o)→(∃ o,h'.get? e=some o∧o.cls=.type "StopIteration")→
   wpAny (model prog w) A (isInstance (.ref e) (.type "StopIteration") >>=fun r=>if r=true then pure none else throw (.ref e)) Q E { s with heap:=h' }:=fun h' e hk ⟨o,ho,hc⟩=>by
  refine wpAny_bind ?_
  refine wpAny_isInstance (T:="StopIteration") (b:=true) ⟨o,ho,hc⟩ isSubtype_stop ?_
  exact wpAny_pure (g _ hk)
 unfold pyNext
 refine wpAny_bind (wpAny_attempt (wpAny_callSpecial?_slot (name:=Str.ofString "__next__") hT F.slot_zip_next ?_))
 refine wpAny_call_entry F.slot_zip_next hT F.entry_zip_next ?_ (F.args_zip_next_1 _)
 change wpAny _ _ (field (.ref z) 2 >>=_) _ _ _
 refine wpAny_bind (wpAny_field hz rfl (x:=.bool false) rfl ?_)
 change wpAny _ _ (field (.ref z) 3 >>=_) _ _ _
 refine wpAny_bind (wpAny_field hz rfl (x:=.ref TI) rfl ?_)
 refine wpAny_bind (wpAny_seqItems hti rfl ?_)
 change wpAny _ _ (Builtin.SmallTypes.ownedTupleIsFree (.ref z) >>=_) _ _ _
 refine wpAny_bind ?_
 unfold Builtin.SmallTypes.ownedTupleIsFree
 rcases hf with rfl|⟨T,oT,rfl,hTo⟩
 ·refine wpAny_bind (wpAny_field hz rfl (x:=.none) rfl ?_)
  refine wpAny_pure ?_
  simp only[if_true]
  refine wpAny_bind (wpAny_rule ?_)
  refine wpAny_bind (wpAny_field hz rfl (x:=.ref TO) rfl ?_)
  refine wpAny_bind (wpAny_setField_rec hz (by simp) fun g1 z1 b1=>?_)
  refine wpAny_bind ?_
  simp only[List.zipIdx_cons,List.zipIdx_nil,List.forIn_cons,List.forIn_nil]
  refine wpAny_bind (wpAny_bind (wpAny_onRaise ?_))
  change wpAny _ _ (Builtin.SmallTypes.nextOf (.ref i1) >>=_) _ _ _
  refine wpAny_bind (iH (A:=A.in1) hh (hV hn1 b1 D.a3) (jM h1 b1 D.b2) hx fun g2 e b2 he=>?_)
  obtain⟨oe,hoe,hce⟩:=he
  have z2:=b2 _ _ D.a3.symm z1
  have hez:e≠z:=fun q=>by
   subst q
   rw[z2] at hoe
   cases hoe
   simp at hce
  refine wpAny_setField_rec z2 (by simp) fun g3 _ b3=>?_
  exact fin g3 e (fun c o c1 _ c3 _ q=>b3.extBut _ _ c1 (b2 _ _ c3 (b1.extBut _ _ c1 q))) ⟨oe,b3.extBut _ _ hez hoe,hce⟩
 ·refine wpAny_bind (wpAny_field hz rfl (x:=rawInt (T:Nat)) rfl ?_)
  change wpAny _ _ (loadIfAlive (Int.toNat (T:Nat)) >>=_) _ _ _
  refine wpAny_bind ?_
  rw[Int.toNat_natCast]
  refine(fun Γ p hΓ=>?_:wpAny _ _ (loadIfAlive T) _ _ _)
  change PySem.Sem.wp _ Γ (.loadIfAlive T .pure) _ _ p s
  rw[PySem.Sem.wp_loadIfAlive,hTo]
  refine(?_:wpAny (model prog w) A.in1 (pure (some oT)) _ _ s) Γ p hΓ
  refine wpAny_pure ?_
  simp only[Option.isNone_some,Bool.false_eq_true,if_false]
  refine wpAny_bind (wpAny_field hz rfl (x:=.bool f1) rfl ?_)
  cases f1 with
  |true=>
   rw[if_neg (by decide)]
   refine wpAny_pure ?_
   simp only[Bool.false_eq_true,if_false]
   simp only[← Array.forIn_toList,List.forIn_cons,List.forIn_nil]
   refine wpAny_bind (wpAny_bind (wpAny_bind (wpAny_holding ?_)))
   change wpAny _ _ (Builtin.SmallTypes.nextOf (.ref i1) >>=_) _ _ _
   refine wpAny_bind (iH (A:=A.in1) hh hn1 h1 hx fun g2 e b2 he=>?_)
   exact fin g2 e (fun c o _ _ c3 _ q=>b2 _ _ c3 q) he
  |false=>
   rw[if_pos (by decide)]
   refine wpAny_bind (wpAny_setField_rec hz (by simp) fun g1 z1 b1=>wpAny_pure ?_)
   simp only[Bool.false_eq_true,if_false]
   simp only[← Array.forIn_toList,List.forIn_cons,List.forIn_nil]
   refine wpAny_bind (wpAny_bind (wpAny_bind (wpAny_holding ?_)))
   change wpAny _ _ (Builtin.SmallTypes.nextOf (.ref i1) >>=_) _ _ _
   refine wpAny_bind (iH (A:=A.in1) hh (hV hn1 b1 D.a3) (jM h1 b1 D.b2) hx fun g2 e b2 he=>?_)
   exact fin g2 e (fun c o c1 _ c3 _ q=>b2 _ _ c3 (b1.extBut _ _ c1 q)) he
end
end ZPT
end
section
namespace ZPT
open PySem PySem.Spec PyProof.Rows L2
theorem nolen:typeLookup (.type "zip") "__len__"=pure none:=by
 rw[typeLookup_type,builtinLookup_eq_fast]
 kernel_rfl
theorem nohint:typeLookup (.type "zip") "__length_hint__"=pure none:=by
 rw[typeLookup_type,builtinLookup_eq_fast]
 kernel_rfl
abbrev tIt(t:Addr):Obj:={ cls:=.type "tuple_iterator",data:=.fields #[.ref t, .int 0 0] }
abbrev q1(h:Heap)(a:Addr):Heap:=h.push (tIt a)
abbrev q2(h:Heap)(a b:Addr):Heap:=(q1 h a).push (tIt b)
abbrev q3(h:Heap)(a b:Addr):Heap:=(q2 h a b).push { cls:=.type "tuple",data:=.seq #[.ref h.objs.size, .ref (q1 h a).objs.size] }
abbrev q4(h:Heap)(a b:Addr):Heap:=(q3 h a b).push { cls:=.type "tuple",data:=.seq #[.none, .none] }
abbrev q5(h:Heap)(a b:Addr):Heap:=(q4 h a b).push { cls:=.type "zip",data:=.fields #[.none, .bool false, .bool false, .ref (q2 h a b).objs.size, .ref (q3 h a b).objs.size] }
theorem zZ(a b:Addr)(xs ys:Array Value):Meets (Builtin.«zip.__new__» ⟨[.type "zip", .ref a, .ref b],[]⟩) (fun _ R s=>s.heap.IsTuple a xs∧s.heap.IsTuple b ys∧R (.ok (.ret (.ref (q4 s.heap a b).objs.size))) { s with heap:=q5 s.heap a b }):=
 .of_wp fun prog w A R s h=>by
  obtain⟨hp,g,d,tk,os⟩:=s
  obtain⟨ha,hb,h⟩:=h
  have hsub:=sub_zip
  have hA:Heap.IsTuple (Shared.heap ⟨hp,g,d,tk,os⟩) a xs:=ha
  have hB:Heap.IsTuple (Shared.heap ⟨hp.push (tIt a),g,d,tk,os⟩) b ys:=by
   obtain⟨o,e,r⟩:=hb
   exact⟨o,Heap.get?_push_of_some _ e,r⟩
  wp_walk using wpAny_pyIter_tuple hA,wpAny_pyIter_tuple hB
  exact⟨_,rfl,h⟩
theorem aEP{n t1 t2:Nat}(h1:t1<n)(h2:t2<n):Ap (n+4) (n+2) (n+3) n (n+1) t1 t2:=by
 constructor
 all_goals (intro e;have e':(_:Nat)=_:=e;omega)
theorem aEQ{n t1 t2 S:Nat}(hS:n+5≤S)(h1:t1<n)(h2:t2<n):S∉([n+4,n+2,n+3,n,n+1,t1,t2]:List Nat):=by
 simp only[List.mem_cons,List.not_mem_nil,or_false,not_or]
 refine⟨?_,?_,?_,?_,?_,?_,?_⟩<;>omega
theorem aER{n S b:Nat}(hS:n+5≤S)(hb:b∈([n+4,n+3,n,n+1,S]:List Nat)):n≤b:=by
 simp only[List.mem_cons,List.not_mem_nil,or_false] at hb
 omega
section
variable{prog:Program}{w:World}{A:Around}{E:Value→Shared→Prop}{s:Shared}
theorem make{a b:Addr}{xs ys:Array Value}{Q:Value→Shared→Prop}(ha:s.heap.IsTuple a xs)(hb:s.heap.IsTuple b ys)
  (g:∀ h',ZS h' (s.heap.objs.size+4) (s.heap.objs.size+2) (s.heap.objs.size+3) s.heap.objs.size (s.heap.objs.size+1) a b 0→h'.objs.size=s.heap.objs.size+5→(∀ c o,s.heap.get? c=some o→h'.get? c=some o)→Q (.ref (s.heap.objs.size+4)) { s with heap:=h' }):
  wpAny (model prog w) A (call (.type "zip") [.ref a, .ref b]) Q E s:=by
 refine callType_new F.called_zip (by decide) (F.typeCall_zip_2 _ _) (F.newCall_zip_2 _ _) (fun obj=>F.args_object_init_3 obj _ _) F.entry_zip_new (zZ a b xs ys) ⟨ha,hb,?_⟩
 have z1:(q1 s.heap a).objs.size=s.heap.objs.size+1:=Heap.size_push ..
 have z2:(q2 s.heap a b).objs.size=s.heap.objs.size+2:=by rw[Heap.size_push,z1]
 have z3:(q3 s.heap a b).objs.size=s.heap.objs.size+3:=by rw[Heap.size_push,z2]
 have z4:(q4 s.heap a b).objs.size=s.heap.objs.size+4:=by rw[Heap.size_push,z3]
 have z5:(q5 s.heap a b).objs.size=s.heap.objs.size+5:=by rw[Heap.size_push,z4]
 have p:∀ {h:Heap} {o:Obj} {c:Addr} {o':Obj},h.get? c=some o'→(h.push o).get? c=some o':=fun e=>Heap.get?_push_of_some _ e
 have g5:(q5 s.heap a b).get? (q4 s.heap a b).objs.size=some { cls:=.type "zip",data:=.fields #[.none, .bool false, .bool false, .ref (q2 s.heap a b).objs.size, .ref (q3 s.heap a b).objs.size] }:=Heap.get?_push_size _ rfl
 have g4:(q5 s.heap a b).get? (q3 s.heap a b).objs.size=some { cls:=.type "tuple",data:=.seq #[.none, .none] }:=p (Heap.get?_push_size _ rfl)
 have g3:(q5 s.heap a b).get? (q2 s.heap a b).objs.size=some { cls:=.type "tuple",data:=.seq #[.ref s.heap.objs.size, .ref (q1 s.heap a).objs.size] }:=p (p (Heap.get?_push_size _ rfl))
 have g2:(q5 s.heap a b).get? (q1 s.heap a).objs.size=some (tIt b):=p (p (p (Heap.get?_push_size _ rfl)))
 have g1:(q5 s.heap a b).get? s.heap.objs.size=some (tIt a):=p (p (p (p (Heap.get?_push_size _ rfl))))
 change _∧_
 rw[z2,z3,z4] at g5
 rw[z1,z2] at g3
 rw[z3] at g4
 rw[z1] at g2
 rw[z4]
 exact⟨⟨_,g5,rfl⟩,g _ ⟨⟨.none,false,g5, .inl rfl⟩,g3,⟨_,_,g4⟩,⟨_,g1,rfl,rfl⟩,⟨_,g2,rfl,rfl⟩⟩ z5 fun c o x=>p (p (p (p (p x))))⟩
theorem iterZ{z TI TO i1 i2 t1 t2:Addr}{k:Nat}{Q:Value→Shared→Prop}(Z:ZS s.heap z TI TO i1 i2 t1 t2 k)(g:Q (.ref z) s):wpAny (model prog w) A (pyIter (.ref z)) Q E s:=by
 obtain⟨f0,f1,hz,_⟩:=Z.z
 have hT:s.TypeIs (.ref z) "zip":=⟨_,hz,rfl⟩
 refine wpAny_pyIter_slot hT F.slot_zip_iter ?_
 refine wpAny_call_entry F.slot_zip_iter hT F.entry_zip_iter ?_ (F.args_zip_iter_1 _)
 change wpAny _ _ (ret (.ref z)) _ _ s
 exact wpAny_pure ⟨_,rfl,"zip",_,hT,F.slot_zip_next.lookup,g⟩
theorem hintZ{z TI TO i1 i2 t1 t2:Addr}{k:Nat}{Q:Bool→Shared→Prop}(Z:ZS s.heap z TI TO i1 i2 t1 t2 k)(g:Q true s):wpAny (model prog w) A (Builtin.List.listLengthHint (.ref z)) Q E s:=by
 obtain⟨f0,f1,hz,_⟩:=Z.z
 have hT:s.TypeIs (.ref z) "zip":=⟨_,hz,rfl⟩
 unfold Builtin.List.listLengthHint
 refine wpAny_bind (wpAny_specialOf hT nolen ?_)
 change wpAny _ _ (specialOf (Value.ref z) (Str.ofString "__length_hint__") >>=_) _ _ _
 refine wpAny_bind (wpAny_specialOf hT nohint ?_)
 exact wpAny_pure g
end
end ZPT
namespace L2
open PySem PySem.Spec PyProof.Rows
section
variable{X:Cx}{pins:List (Addr×Obj)}{σ:St}
theorem Inv.adopt{H:Hp}{s:Shared}{S:Addr}{o:HO}(I:Inv X pins σ H s)(hf:FpOk X pins H S)(new:ObjOk X.prog X.w (upd H S o) s.heap S o):Inv X pins σ (upd H S o) s:=by
 have hn:H S=none:=hf.1
 have:=I.step (h':=s.heap) (H':=upd H S o) (g':=s.gens) (t':=s.toks) (d':=s.drawn) (ch:=[S]) (fun b hb=>by
   rw[List.mem_singleton.mp hb]
   exact⟨hf.2.2.2.1,hf.2.1,hf.2.2.2.2.1,hf.2.2.2.2.2⟩) (fun b o _ _ _ e _=>e) (fun b o _ _ _ e _=>⟨o.slots,e⟩) (fun b o hc e n=>by rw[bL (by simpa using hc)];exact n) (fun b o _ e=>⟨o,e⟩)
  (fun b xs e=>by rw[bL (bF e hn)];exact e) (fun b u xs e=>by rw[bL (bF e hn)];exact e) (fun b ps e=>⟨#[],by rw[bL (bF e hn),e];simp⟩) (fun m h=>h) (fun b u e=>by
   by_cases hb:b=S
   ·subst hb;rw[fE] at e;cases e;exact new
   ·rw[bL hb] at e
    exact(I.hok b u e).stay (fun c v _ q=>q) (fun c q=>by rw[bL (bF q hn)];exact q) fun c xs q=>by rw[bL (bF q hn)];exact q) I.bare
 exact this
def Prs(H:Hp)(xs ys vs:List V):Prop:=∀ (i:Nat) v,vs[i]?=some v→∃ T x y,v=.ref T∧xs[i]?=some x∧ys[i]?=some y∧H T=some (.tup [x,y])
theorem Prs.same{H H':Hp}{xs ys vs:List V}(h:Prs H xs ys vs)(s:∀ b o,H b=some o→H' b=some o):Prs H' xs ys vs:=fun i v e=>by
 obtain⟨T,x,y,e1,e2,e3,e4⟩:=h i v e
 exact⟨T,x,y,e1,e2,e3,s _ _ e4⟩
theorem Prs.snoc{H:Hp}{xs ys vs:List V}{T:Addr}{x y:V}(h:Prs H xs ys vs)(hx:xs[vs.length]?=some x)(hy:ys[vs.length]?=some y)(e:H T=some (.tup [x,y])):Prs H xs ys (vs++[.ref T]):=fun i v hv=>by
 by_cases hi:i<vs.length
 ·rw[List.getElem?_append_left hi] at hv
  exact h i v hv
 ·rw[List.getElem?_append_right (by omega)] at hv
  have h0:i - vs.length=0:=by
   have:=(List.getElem?_eq_some_iff.mp hv).1
   simpa using this
  rw[h0] at hv
  cases hv
  have:i=vs.length:=by omega
  subst this
  exact⟨T,x,y,rfl,hx,hy,e⟩
theorem xT{K:PySem.W.Frag}{H H':Hp}{a:Addr}{xs:List V}(h:SqT K H a xs)(s:∀ b o,H b=some o→H' b=some o):SqT K H' a xs:=by
 rcases h with (h|⟨o,h⟩)|h
 ·exact .inl (.inl (s _ _ h))
 ·exact .inl (.inr ⟨o,s _ _ h⟩)
 ·exact .inr h
set_option maxHeartbeats 2000000 in
theorem zipLoop{A:Around}(hh:A.handled=none){z TI TO i1 i2 t1 t2 S:Addr}(D:ZPT.Ap z TI TO i1 i2 t1 t2)(nS:S∉[z,TI,TO,i1,i2,t1,t2]){xs ys:List V}(hlen:xs.length=ys.length)(hline:xs.length<sizeLine){R:Result→Shared→Prop}:
  ∀ (m:Nat) (s:Shared) (H:Hp) (us:List Value) (c:Nat) (vs:List V),xs.length - vs.length=m→vs.length≤xs.length→Inv X pins σ H s→ZPT.ZS s.heap z TI TO i1 i2 t1 t2 vs.length→s.heap.get? S=some (seqObj "list" us.toArray c)→
  (∀ b∈[z,TO,i1,i2,S],FpOk X pins H b)→SqT X.K H t1 xs→SqT X.K H t2 ys→Prs H xs ys vs→Vals vs us→
  (∀ s' H' us' c' vs',Inv X pins σ H' s'→(∀ b o,H b=some o→H' b=some o)→FpOk X pins H' S→s'.heap.get? S=some (seqObj "list" us'.toArray c')→Vals vs' us'→vs'.length=xs.length→Prs H' xs ys vs'→R (.ok (.ret .none)) s')→
  codeAny (model X.prog X.w) A (.builtin "list.extend.loop" ⟨[.ref S, .ref z, .none],[]⟩) R s
 |0,s,H,us,c,vs,hk,hle,I,Z,hS,hf,q1,q2,pr,rv,hR=>by
  have he:vs.length=xs.length:=by omega
  obtain⟨its1,r1,p1,_⟩:=I.tuple q1
  have l1:=r1.length
  refine codeAny_builtin F.entry_extend_loop ?_
  rw[Around.under_plainId F.plain_extend_loop _]
  change wpAny _ A.in1 (pyNext (.ref z) >>=_) _ _ s
  refine wpAny_bind (ZPT.stop (A:=A.in1) (xs:=its1.toArray) hh D Z p1 (by simp;omega) fun h' kp=>?_)
  have I1:Inv X pins σ H { s with heap:=h' }:=Inv.turnedF (s':={ s with heap:=h' }) (fp:=[z,TO,i1,i2]) I rfl rfl (fun b u hb e=>by
   simp only[List.mem_cons,List.not_mem_nil,or_false,not_or] at hb
   exact kp b u hb.1 hb.2.1 hb.2.2.1 hb.2.2.2 e) fun b hb=>hf b (by
    simp only[List.mem_cons,List.not_mem_nil,or_false] at hb ⊢
    rcases hb with h|h|h|h<;>simp[h])
  simp only[List.mem_cons,List.not_mem_nil,or_false,not_or] at nS
  have hS1:h'.get? S=some (seqObj "list" us.toArray c):=kp S _ nS.1 nS.2.2.1 nS.2.2.2.1 nS.2.2.2.2.1 hS
  exact wpAny_pure (hR { s with heap:=h' } H us c vs I1 (fun _ _ e=>e) (hf S (by simp)) hS1 rv he pr)
 |m+1,s,H,us,c,vs,hk,hle,I,Z,hS,hf,q1,q2,pr,rv,hR=>by
  have hlt:vs.length<xs.length:=by omega
  have hlt2:vs.length<ys.length:=by omega
  obtain⟨its1,r1,p1,_⟩:=I.tuple q1
  obtain⟨its2,r2,p2,_⟩:=I.tuple q2
  obtain⟨u1,e1,rl1⟩:=r1.get (i:=vs.length) (x:=xs[vs.length]) (by simp[hlt])
  obtain⟨u2,e2,rl2⟩:=r2.get (i:=vs.length) (x:=ys[vs.length]) (by simp[hlt2])
  refine codeAny_builtin F.entry_extend_loop ?_
  rw[Around.under_plainId F.plain_extend_loop _]
  change wpAny _ A.in1 (pyNext (.ref z) >>=_) _ _ s
  refine wpAny_bind (ZPT.item (A:=A.in1) (xs:=its1.toArray) (ys:=its2.toArray) (x:=u1) (y:=u2) D Z p1 p2 (by simpa using e1) (by simpa using e2) fun h1 Z1 pT kp=>?_)
  have nS':=nS
  simp only[List.mem_cons,List.not_mem_nil,or_false,not_or] at nS
  have hT:H s.heap.objs.size=none:=I.hok.fresh (Nat.le_refl _)
  have I1:Inv X pins σ (upd H s.heap.objs.size (.tup [xs[vs.length],ys[vs.length]])) { s with heap:=h1 }:=Inv.turnedN (s':={ s with heap:=h1 }) (fp:=[z,TO,i1,i2]) I rfl rfl (fun b u hb e=>by
   simp only[List.mem_cons,List.not_mem_nil,or_false,not_or] at hb
   exact kp b u hb.1 hb.2.1 hb.2.2.1 hb.2.2.2 e) (fun b hb=>hf b (by
    simp only[List.mem_cons,List.not_mem_nil,or_false] at hb ⊢
    rcases hb with h|h|h|h<;>simp[h])) (Nat.le_refl _) ⟨by show 2≤_;rw[sizeLine_eq];decide,[u1,u2], .cons rl1 (.cons rl2 .nil),_,pT,rfl,_,rfl⟩
  have sm:∀ b o,H b=some o→upd H s.heap.objs.size (.tup [xs[vs.length],ys[vs.length]]) b=some o:=fun b o e=>by rw[bL (bF e hT)];exact e
  have eT:upd H s.heap.objs.size (.tup [xs[vs.length],ys[vs.length]]) s.heap.objs.size=some (.tup [xs[vs.length],ys[vs.length]]):=fE
  have hS1:h1.get? S=some (seqObj "list" us.toArray c):=kp S _ nS.1 nS.2.2.1 nS.2.2.2.1 nS.2.2.2.2.1 hS
  have fr:∀ b∈[z,TO,i1,i2,S],FpOk X pins (upd H s.heap.objs.size (.tup [xs[vs.length],ys[vs.length]])) b:=fun b hb=>by
   obtain⟨a1,a2⟩:=hf b hb
   refine⟨?_,a2⟩
   have hbl:b<s.heap.objs.size:=by
    obtain⟨f0,f1,hz,_⟩:=Z.z
    obtain⟨ta,tb,hto⟩:=Z.to
    obtain⟨o1,n1,_⟩:=Z.n1
    obtain⟨o2,n2,_⟩:=Z.n2
    simp only[List.mem_cons,List.not_mem_nil,or_false] at hb
    rcases hb with rfl|rfl|rfl|rfl|rfl
    ·exact Heap.lt_size hz
    ·exact Heap.lt_size hto
    ·exact Heap.lt_size n1
    ·exact Heap.lt_size n2
    ·exact Heap.lt_size hS
   rw[bL (Nat.ne_of_lt hbl)]
   exact a1
  generalize upd H s.heap.objs.size (.tup [xs[vs.length],ys[vs.length]])=H1 at I1 sm eT fr
  have hul:=rv.length
  change wpAny _ A.in1 (updateSeq S (·.push (.ref s.heap.objs.size)) >>=_) _ _ _
  refine wpAny_bind (wpAny_updateSeq hS1 rfl ?_ ?_ ?_)
  ·have e3:=get?_update_seq hS1 (fun a=>a.push (Value.ref s.heap.objs.size))
   have kp3:∀ b o,b≠S→h1.get? b=some o→(h1.update S (Obj.mapSeq fun a=>a.push (Value.ref s.heap.objs.size))).get? b=some o:=fun b o hb e=>(Heap.get?_update_other _ _ (Ne.symm hb)).trans e
   have fS:=fr S (by simp)
   have I2:Inv X pins σ H1 { s with heap:=h1.update S (Obj.mapSeq fun a=>a.push (Value.ref s.heap.objs.size)) }:=Inv.turned (s:={ s with heap:=h1 }) (t':=s.toks) I1 kp3 fS.1 fS.2.1 fS.2.2.2.1 fS.2.2.2.2.1 fS.2.2.2.2.2
   refine wpAny_pure ⟨plainId_quiet F.plain_extend_loop _,?_⟩
   obtain⟨c3,e3'⟩:∃ c3,(h1.update S (Obj.mapSeq fun a=>a.push (Value.ref s.heap.objs.size))).get? S=some (seqObj "list" (us++[Value.ref s.heap.objs.size]).toArray c3):=⟨_,by rw[e3,List.push_toArray]⟩
   have Z2:ZPT.ZS (h1.update S (Obj.mapSeq fun a=>a.push (Value.ref s.heap.objs.size))) z TI TO i1 i2 t1 t2 (vs++[V.ref s.heap.objs.size]).length:=by
    rw[List.length_append]
    obtain⟨⟨f0,f1,hz,hf0⟩,a2,⟨ta,tb,a3⟩,⟨o1,a4,r4⟩,⟨o2,a5,r5⟩⟩:=Z1
    refine⟨⟨f0,f1,kp3 _ _ (Ne.symm nS.1) hz,?_⟩,kp3 _ _ (Ne.symm nS.2.1) a2,⟨ta,tb,kp3 _ _ (Ne.symm nS.2.2.1) a3⟩,⟨o1,kp3 _ _ (Ne.symm nS.2.2.2.1) a4,r4⟩,⟨o2,kp3 _ _ (Ne.symm nS.2.2.2.2.1) a5,r5⟩⟩
    rcases hf0 with h|⟨T,o,h,hT⟩
    ·exact .inl h
    ·by_cases hTS:T=S
     ·subst hTS;exact .inr ⟨T,_,h,e3⟩
     ·exact .inr ⟨T,o,h,kp3 _ _ hTS hT⟩
   refine zipLoop hh D nS' hlen hline m _ H1 (us++[Value.ref s.heap.objs.size]) _ (vs++[V.ref s.heap.objs.size]) (by rw[List.length_append];show xs.length - (vs.length+1)=m;omega) (by rw[List.length_append];exact hlt) I2 Z2 e3' fr (xT q1 sm) (xT q2 sm) ((pr.same sm).snoc (by simp[hlt]) (by simp[hlt2]) eT) (rv.append (.cons rfl .nil)) fun s' H' us' c' vs' a1 a2 a3 a4 a5 a6 a7=>?_
   exact hR s' H' us' c' vs' a1 (fun b o e=>a2 b o (sm b o e)) a3 a4 a5 a6 a7
  ·rw[List.size_toArray];omega
  ·change (us.toArray.push (Value.ref s.heap.objs.size)).size≤sizeLine+1
   rw[Array.size_push,List.size_toArray];omega
theorem bootZ:bootBuiltins "zip"=some (.type "zip"):=by decide +kernel
theorem bootL:bootBuiltins "list"=some (.type "list"):=by decide +kernel
def tLzip(K:PySem.W.Frag)(ta:TA):TE:=fun σ H Q=>ta σ H fun vs H1=>∃ t1 t2 xs ys,vs=[.ref t1, .ref t2]∧SqT K H1 t1 xs∧SqT K H1 t2 ys∧xs.length=ys.length∧xs.length<sizeLine∧
 ∀ l ps H',(∀ b o,H1 b=some o→H' b=some o)→H1 l=none→H' l=some (.lst ps)→ps.length=xs.length→Prs H' xs ys ps→Q (.ref l) H'
set_option maxHeartbeats 2000000 in
theorem aCN{a b:Expr}{ta:TA}{p1 p2 pos1 pos2:Pos}(hc:X.calm=true)(hgl:Gl X "list")(hml:X.mg "list"=none)(hgz:Gl X "zip")(hmz:X.mg "zip"=none)(ha:PA X [a,b] ta)
  (hs:starEach [a,b] X.env=(false,eval a X.env)::starEach [b] X.env:=by rfl)(hpl:(backTo pos2 (starEach [b] X.env)).any (·.1)=false:=by rfl)
  (hs2:starEach [.Call (.Name "zip" p2) [a,b] [] pos2] X.env=(false,eval (.Call (.Name "zip" p2) [a,b] [] pos2) X.env)::starEach [] X.env:=by rfl)(hpl2:(backTo pos1 (starEach [] X.env)).any (·.1)=false:=by rfl):
  PE X (.Call (.Name "list" p1) [.Call (.Name "zip" p2) [a,b] [] pos2] [] pos1) (tLzip X.K ta):=by
 intro pins s σ H Q I h
 refine wpAny_Call_Name_kw (kR I hgl hml bootL ?_)
 refine PyProof.Rows.callWith_type1 ?_ hs2 hpl2
 rw[hs2]
 change wpAny _ _ (spliced ((false,eval (.Call (.Name "zip" p2) [a,b] [] pos2) X.env)::backTo pos1 (starEach [] X.env))) _ _ s
 refine Calls.spliced_cons ?_
 refine wpAny_Call_Name_kw (kR I hgz hmz bootZ ?_)
 refine PyProof.Rows.callWith_type1 (thn (ha pos2 pins s σ H _ I h) fun us s1 ⟨vs,H1,I1,r1,t1,t2,xs,ys,ev,q1,q2,hlen,hline,q⟩=>?_) hs hpl
 subst ev
 obtain⟨v1,v2,rfl,e1,e2⟩:=vals2 r1
 cases e1
 cases e2
 obtain⟨its1,rv1,pt1,_⟩:=I1.tuple q1
 obtain⟨its2,rv2,pt2,_⟩:=I1.tuple q2
 have lt1:t1<s1.heap.objs.size:=by obtain⟨o,eo,_⟩:=pt1;exact Heap.lt_size eo
 have lt2:t2<s1.heap.objs.size:=by obtain⟨o,eo,_⟩:=pt2;exact Heap.lt_size eo
 refine ZPT.make pt1 pt2 fun h2 Z2 sz2 kp2=>?_
 refine Calls.spliced_nil ?_
 have I2:Inv X pins σ H1 { s1 with heap:=h2 }:=I1.kept (t':=s1.toks) kp2
 have hd:X.A.in1.handled=none:=I1.ok.hd hc
 refine callType_codes (Q₁:=fun v s3=>v=.ref h2.objs.size∧s3={ s1 with heap:=h2.push (seqObj "list" #[] 0) }) F.called_list (F.typeCall_list_1 _) F.entry_list_init (code_list_new _ ⟨rfl,rfl⟩) fun v s3 h3=>?_
 obtain⟨rfl,rfl⟩:=h3
 have hS:(h2.push (seqObj "list" #[] 0)).get? h2.objs.size=some (seqObj "list" #[] 0):=Heap.get?_push_size _ rfl
 refine⟨⟨_,hS,rfl⟩,F.args_list_init_2 _ _,?_⟩
 change wpAny _ _ (Builtin.List.listItems (.ref h2.objs.size) >>=fun old=>Builtin.List.listUpdate (.ref h2.objs.size) (fun _=>#[]) >>=fun _=>letGo old.toList.reverse >>=fun _=>Builtin.List.listExtendWith (.ref h2.objs.size) (.ref (s1.heap.objs.size+4)) .none) _ _ _
 refine wpAny_bind ?_
 unfold Builtin.List.listItems
 refine wpAny_bind (wpAny_seqItems hS rfl (wpAny_pure ?_))
 change wpAny _ _ (updateSeq h2.objs.size (fun _=>#[]) >>=_) _ _ _
 refine wpAny_bind (wpAny_updateSeq hS rfl ?_)
 have hS2:=get?_update_seq hS (fun _=>(#[]:Array Value))
 refine wpAny_bind (wpAny_letGo ?_)
 have kp3:∀ b o,h2.get? b=some o→((h2.push (seqObj "list" #[] 0)).update h2.objs.size (Obj.mapSeq fun _=>(#[]:Array Value))).get? b=some o:=fun b o e=>(Heap.get?_update_other _ _ (Nat.ne_of_gt (Heap.lt_size e))).trans (Heap.get?_push_of_some _ e)
 have zs:∀ {h h':Heap} {k:Nat},ZPT.ZS h (s1.heap.objs.size+4) (s1.heap.objs.size+2) (s1.heap.objs.size+3) s1.heap.objs.size (s1.heap.objs.size+1) t1 t2 k→(∀ b o,b≠h2.objs.size→h.get? b=some o→∃ o',h'.get? b=some o')→(∀ b o,b<s1.heap.objs.size+5→h.get? b=some o→h'.get? b=some o)→(∃ o,h'.get? h2.objs.size=some o)→
   ZPT.ZS h' (s1.heap.objs.size+4) (s1.heap.objs.size+2) (s1.heap.objs.size+3) s1.heap.objs.size (s1.heap.objs.size+1) t1 t2 k:=fun {h h' k} Z kk kl hSo=>by
  obtain⟨⟨f0,f1,hz,hf0⟩,a2,⟨ta,tb,a3⟩,⟨o1,a4,r4⟩,⟨o2,a5,r5⟩⟩:=Z
  refine⟨⟨f0,f1,kl _ _ (by omega) hz,?_⟩,kl _ _ (by omega) a2,⟨ta,tb,kl _ _ (by omega) a3⟩,⟨o1,kl _ _ (by omega) a4,r4⟩,⟨o2,kl _ _ (by omega) a5,r5⟩⟩
  rcases hf0 with e|⟨T,o,e,hT⟩
  ·exact .inl e
  ·by_cases hTS:T=h2.objs.size
   ·subst hTS
    obtain⟨o',e'⟩:=hSo
    exact .inr ⟨_,o',e,e'⟩
   ·obtain⟨o',e'⟩:=kk T o hTS hT
    exact .inr ⟨T,o',e,e'⟩
 have Z3:=zs Z2 (fun b o _ e=>⟨o,kp3 b o e⟩) (fun b o _ e=>kp3 b o e) ⟨_,hS2⟩
 have I3:Inv X pins σ H1 { s1 with heap:=(h2.push (seqObj "list" #[] 0)).update h2.objs.size (Obj.mapSeq fun _=>(#[]:Array Value)) }:=Inv.kept (s:={ s1 with heap:=h2 }) (t':=s1.toks) I2 kp3
 have fpk:∀ b,s1.heap.objs.size≤b→FpOk X pins H1 b:=fun b hb=>I1.fpOk hb (I1.hok.fresh hb)
 generalize hh3:(h2.push (seqObj "list" #[] 0)).update h2.objs.size (Obj.mapSeq fun _=>(#[]:Array Value))=h3 at hS2 kp3 Z3 I3
 have hzz:∃ o,h3.get? (s1.heap.objs.size+4)=some o∧o.cls=.type "zip":=by
  obtain⟨f0,f1,hz,_⟩:=Z3.z
  exact⟨_,hz,rfl⟩
 have nz:h2.objs.size≠s1.heap.objs.size+4:=by omega
 unfold Builtin.List.listExtendWith
 refine wpAny_bind (wpAny_typeOf (s:={ s1 with heap:=h3 }) hzz ?_)
 rw[if_neg (by simp[Builtin.List.listSameRef,nz])]
 refine wpAny_bind (ZPT.iterZ (s:={ s1 with heap:=h3 }) Z3 ?_)
 refine wpAny_bind (wpAny_holding (ZPT.hintZ (s:={ s1 with heap:=h3 }) Z3 ?_))
 rw[if_pos (by simp)]
 refine wpAny_bind (wpAny_rule ?_)
 refine wpAny_bind ?_
 change wpAny _ _ (updateSeq h2.objs.size (·.push .none) >>=fun _=>updateSeq h2.objs.size (·.pop)) _ _ _
 refine wpAny_bind (wpAny_updateSeq hS2 rfl ?_)
 have e4:=get?_update_seq hS2 (fun xs=>xs.push Value.none)
 refine wpAny_updateSeq (hz:=by seq_fits) e4 rfl ?_
 have e5:=get?_update_seq e4 (fun xs=>xs.pop)
 have kp5:∀ b o,b≠h2.objs.size→h3.get? b=some o→((h3.update h2.objs.size (Obj.mapSeq fun xs=>xs.push Value.none)).update h2.objs.size (Obj.mapSeq fun xs=>xs.pop)).get? b=some o:=fun b o hb e=>(Heap.get?_update_other _ _ (Ne.symm hb)).trans ((Heap.get?_update_other _ _ (Ne.symm hb)).trans e)
 have Z5:=zs Z3 (fun b o hb e=>⟨o,kp5 b o hb e⟩) (fun b o hb e=>kp5 b o (by omega) e) ⟨_,e5⟩
 have fS:=fpk h2.objs.size (by omega)
 have I5:Inv X pins σ H1 { s1 with heap:=(h3.update h2.objs.size (Obj.mapSeq fun xs=>xs.push Value.none)).update h2.objs.size (Obj.mapSeq fun xs=>xs.pop) }:=Inv.turned (s:={ s1 with heap:=h3 }) (t':=s1.toks) I3 kp5 fS.1 fS.2.1 fS.2.2.2.1 fS.2.2.2.2.1 fS.2.2.2.2.2
 refine wpAny_pure ⟨plainId_quiet F.plain_extend_loop _,?_⟩
 refine zipLoop hd (ZPT.aEP lt1 lt2) (ZPT.aEQ (by omega) lt1 lt2) hlen hline xs.length _ H1 [] _ [] rfl (Nat.zero_le _) I5 Z5 e5 (fun b hb=>fpk b (ZPT.aER (by omega) hb)) q1 q2 (fun i v e=>by simp at e) .nil fun s' H' us' c' ps I' sm fS' eS rv' hl' pr=>?_
 refine⟨rfl, .ref h2.objs.size,upd H' h2.objs.size (.lst ps),I'.adopt fS' ⟨by omega,us',c',rv',eS⟩,rfl,?_⟩
 have nS:∀ b o,H' b=some o→upd H' h2.objs.size (.lst ps) b=some o:=fun b o e=>by rw[bL (bF e fS'.1)];exact e
 exact q h2.objs.size ps _ (fun b o e=>nS b o (sm b o e)) fS.1 fE hl' (pr.same nS)
end
end L2
end
section
namespace L2
open PySem PySem.Spec PyProof.Rows
section
variable{X:Cx}
theorem xU{vs:List V}{us:List Value}(r:Vals vs us){j:Nat}(h:j<us.length):∃ (hv:j<vs.length),RelV vs[j] us[j]:=by
 have hl:=r.length
 have hv:j<vs.length:=by omega
 obtain⟨u,hu,ru⟩:=r.get (i:=j) (x:=vs[j]) (by simp[hv])
 have:us[j]=u:=by
  rw[List.getElem?_eq_getElem h] at hu
  exact Option.some.inj hu
 exact⟨hv,by rw[this];exact ru⟩
end
end L2
end
section
namespace L2
open PySem PySem.Spec PyProof.Rows
section
variable{X:Cx}
theorem aBb:MtR X "str.index" (fun x xs H Q=>∃ (z y:Str) (i:Nat) (rest:List Nat),x=.str z∧xs=[.str y]∧Builtin.Str.occurrences z y 0 z.length 1=i::rest∧Q (.int i) H):=by
 intro pins s σ H x xs v us Q I rx rv h
 obtain⟨z,y,i,rest,rfl,rfl,ho,q⟩:=h
 obtain⟨t,rfl⟩:=rx
 obtain⟨u,rfl,ru⟩:=vals1 rv
 obtain⟨t2,rfl⟩:=ru
 exact call_gives F.slot_str_index (typeIs_str s z t) F.entry_str_index (F.args_str_index_2 _ _) (gives_str_index z y t t2 i rest ho) ⟨.int i,H,I.tok _,⟨_,rfl⟩,q⟩
def rInsert:V→List V→Hp→VK→Prop:=fun x vs H Q=>∃ (l:Addr) (xs:List V) (i:Int) (y:V),x=.ref l∧vs=[.int i,y]∧H l=some (.lst xs)∧0≤i∧i≤xs.length∧xs.length<sizeLine∧Q .non (upd H l (.lst (xs.take i.toNat++y::xs.drop i.toNat)))
theorem aAa:MtM X "list.insert" rInsert:=by
 intro pins s σ H x vs v us Q I rx rv h
 obtain⟨l,xs,i,y,rfl,rfl,hH,hi0,hi,hz,q⟩:=h
 cases rx
 obtain⟨u1,u2,rfl,r1,r2⟩:=vals2 rv
 obtain⟨t,rfl⟩:=r1
 obtain⟨z,its,n,r,hl,e⟩:=I.lstM hH
 have hil:=r.length
 have hz2:xs.length<16777216:=by rw[sizeLine_eq] at hz;exact hz
 have hb:Builtin.List.listFitsIndex i=true:=by
  unfold Builtin.List.listFitsIndex
  rw[Bool.and_eq_true,decide_eq_true_eq,decide_eq_true_eq]
  constructor<;>omega
 have hfit:¬ (!Builtin.List.listFitsIndex i)=true:=by rw[hb];decide
 have hsz:its.toArray.size≤sizeLine:=by rw[List.size_toArray];omega
 have M:=PySem.AutoListH.list_insert_list_int_val_1 l its.toArray n i t u2 hfit hsz
 refine call_meets F.slot_list_insert ⟨_,e,rfl⟩ F.entry_list_insert (F.args_list_insert_3 _ _ _) M ⟨e,?_⟩
 refine⟨.non,_,I.lset (its':=its.take i.toNat++u2::its.drop i.toNat) hH e ?_ ((r.take i.toNat).append (.cons r2 (r.drop i.toNat))) ?_,rfl,q⟩
 ·have hk:(if i<0 then(i+((its.toArray.size:Nat):Int)).toNat else min i.toNat its.toArray.size)=i.toNat:=by
   rw[if_neg (by omega),List.size_toArray]
   omega
  simp only[hk]
  apply Array.ext'
  simp[List.extract_eq_take_drop,List.take_of_length_le]
 ·rw[List.length_append,List.length_take,List.length_cons,List.length_drop]
  omega
end
end L2
end
section
namespace L2
open PySem PySem.Spec PyProof.Rows
def Itel(K:PySem.W.Frag)(a:Addr):It:=⟨fun i H=>∃ xs x,SqL K H a xs∧xs[i]?=some x,fun i H v H'=>∃ T x,v=.ref T∧H T=none∧(∀ xs,SqL K H a xs→xs[i]?=some x)∧H'=upd H T (.tup [.int i,x]),fun i H=>∃ xs,SqL K H a xs∧xs.length=i⟩
abbrev enumLSt(e it a:Addr)(i:Nat)(h:Heap):Prop:=(∃ old,IsEnum h e it i old)∧h.IsListIter it a i
theorem wK{P:Program}{w:World}{K:PySem.W.Frag}{es:List Expr}{kk:Nat}{pos:Pos}(e it a:Addr)(hei:e≠it)(hai:a≠it)(hea:e≠a):
  Turn P w K (.Tuple es kk pos) (Itel K a) [e,it] e (enumLSt e it a) where
 mem:=by simp
 obj:=fun i h st b hb=>by
  obtain⟨⟨old,he⟩,o,ho,c,d⟩:=st
  rcases List.mem_cons.mp hb with rfl|hb
  ·exact⟨_,he,fun v z=>by cases z⟩
  ·rw[List.mem_singleton.mp hb]
   exact⟨o,ho,fun v z=>by rw[d] at z;cases z⟩
 keep:=fun i h h' st k=>by
  obtain⟨⟨old,he⟩,o,ho,r⟩:=st
  exact⟨⟨old,k e (by simp) _ he⟩,o,k it (by simp) o ho,r⟩
 item:=by
  intro X hP hw hK hc i pins s σ H E I hf st hg
  subst hP hw hK
  obtain⟨xs,x,hq,hx⟩:=hg
  obtain⟨its,rv,p,hz⟩:=I.list hq
  obtain⟨u,hu,ru⟩:=rv.get hx
  have hlt:i<its.length:=(List.getElem?_eq_some_iff.mp hu).1
  have W:=WalksT.enumerateD (Draws.list (prog:=X.prog) (w:=X.w) (A:=X.A.in1) (I.ok.hd hc) it a hai its.toArray) e hei (by simp[hei,hea]) (by simp)
  refine W.item i s _ _ (by simpa using hlt) ⟨st.1,st.2,p.isList⟩ fun T vals h' tk hv hT tup mid kk1=>?_
  obtain⟨tt,v,hv1,rfl⟩:=hv
  have ev:v=u:=by
   have h1:its[i]?=some v:=by simpa using hv1
   rw[hu] at h1;exact(Option.some.inj h1).symm
  subst ev
  refine⟨.ref T,rfl,W.go es kk pos i T _ _ _ mid fun h2 st2 kk2=>?_⟩
  have nT:T∉[e,it]:=W.apart i T h' mid
  obtain⟨oT,eT,cT,nT',dT⟩:=id tup
  have eT2:h2.get? T=some oT:=kk2 T oT nT eT
  refine⟨.ref T,upd H T (.tup [.int i,x]),Inv.turnedN (s':={ s with heap:=h2,toks:=tk }) I rfl rfl (fun b u0 hb e0=>kk2 b u0 hb (kk1 b u0 hb e0)) hf hT ?_,rfl,
   ⟨T,x,rfl,I.hok.fresh hT,fun ys hy=>by rw[I.list_inj hy hq];exact hx,rfl⟩,⟨st2.1,st2.2.1⟩,fun b hb=>?_⟩
  ·exact⟨by show 2≤_;rw[sizeLine_eq];decide,[.int i tt,v], .cons ⟨_,rfl⟩ (.cons ru .nil),oT,eT2,cT,nT',dT⟩
  ·have nb:b≠T:=fun z=>by subst z;exact nT hb
   rw[bL nb]
   exact(hf b hb).1
 done:=by
  intro X hP hw hK hc i pins s σ H E I hf st hg
  subst hP hw hK
  obtain⟨xs,hq,hx⟩:=hg
  obtain⟨its,rv,p,hz⟩:=I.list hq
  have hlen:=rv.length
  have W:=WalksT.enumerateD (Draws.list (prog:=X.prog) (w:=X.w) (A:=X.A.in1) (I.ok.hd hc) it a hai its.toArray) e hei (by simp[hei,hea]) (by simp)
  have hi:i=its.toArray.size:=by rw[List.size_toArray];omega
  subst hi
  refine W.done s _ _ ⟨st.1,st.2,p.isList⟩ fun h' tk kk1=>⟨rfl,?_⟩
  exact Inv.turnedF (s':={ s with heap:=h',toks:=tk }) I rfl rfl kk1 hf
 self:=fun A i s Q E st h=>by
  obtain⟨⟨old,he⟩,_⟩:=st
  exact wpAny_pyIter_enum he h
section
variable{X:Cx}
def iEnumL(K:PySem.W.Frag)(ta:TA):TI:=fun σ H R=>ta σ H fun vs H1=>∃ a,vs=[.ref a]∧(∃ xs,SqL K H1 a xs)∧R (Itel K a) H1
theorem aBc{a:Expr}{es:List Expr}{kk:Nat}{tpos:Pos}{ta:TA}{p pos:Pos}(hg:Gl X "enumerate")(hm:X.mg "enumerate"=none)(ha:PA X [a] ta)(hs:starEach [a] X.env=[(false,eval a X.env)]:=by rfl):
  PI X (.Tuple es kk tpos) (.Call (.Name "enumerate" p) [a] [] pos) (iEnumL X.K ta):=by
 intro pins s σ H R I h
 refine Call_ (kR I hg hm sL (PyProof.Rows.callWith_type1 (thn (ha pos pins s σ H _ I h) fun us s1 ⟨vs,H1,I1,r1,q1⟩=>?_) hs rfl))
 obtain⟨a,e,⟨xs,hq⟩,q⟩:=q1
 subst e
 cases r1 with
 |cons r rr=>
  cases rr
  cases r
  obtain⟨its,rv,pt,hz⟩:=I1.list hq
  have hlt:a<s1.heap.objs.size:=by obtain⟨o,eo,_⟩:=pt.isList;exact Heap.lt_size eo
  refine call_enumerate_list pt.isList fun h' he hit hz hk=>?_
  refine wpAny_pyIter_enum he ?_
  have I2:Inv X pins σ H1 { s1 with heap:=h' }:=I1.kept (t':=s1.toks) hk
  have fresh:∀ b,s1.heap.objs.size≤b→FpOk X pins H1 b:=fun b hb=>I1.fpOk hb (I1.hok.fresh hb)
  refine⟨s1.heap.objs.size+1,[s1.heap.objs.size+1,s1.heap.objs.size],_,Itel X.K a,H1,rfl,I2,wK _ _ a (Nat.succ_ne_self _) (Nat.ne_of_lt hlt) (Nat.ne_of_gt (Nat.lt_succ_of_lt hlt)),⟨⟨_,he⟩,hit⟩,fun b hb=>?_,q⟩
  rcases List.mem_cons.mp hb with rfl|hb
  ·exact fresh _ (Nat.le_succ _)
  ·rw[List.mem_singleton.mp hb];exact fresh _ (Nat.le_refl _)
end
section
variable{prog:Program}{w:World}{A:Around}{E:Value→Shared→Prop}
theorem drawL{it l:Addr}{items:Array Value}(hne:l≠it):∀ (n i:Nat) (s:Shared) (Q:List Value→Shared→Prop),s.heap.IsListIter it l i→s.heap.IsList l items→i+n≤items.size→
  (∀ h',h'.IsListIter it l (i+n)→Heap.SameBut it s.heap h'→Q ((items.toList.drop i).take n) { s with heap:=h' })→wpAny (model prog w) A (draw (.ref it) n) Q E s
 |0,i,s,Q,hit,_,_,g=>by
  change wpAny _ _ (pure []) Q E s
  exact wpAny_pure (by simpa using g s.heap hit (Heap.SameBut.refl ..))
 |n+1,i,s,Q,hit,ht,hle,g=>by
  have hlt:i<items.size:=by omega
  change wpAny _ _ (pyNext (.ref it) >>=_) Q E s
  refine wpAny_bind (wpAny_pyNext_list_item hit ht (x:=items[i]) (by simp[hlt]) fun g1 it1 b1=>?_)
  refine wpAny_bind (wpAny_holding (drawL hne n (i+1) _ _ it1 (ht.extBut b1.extBut hne) (by omega) fun g2 it2 b2=>wpAny_pure ?_))
  have e1:items.toList.drop i=items[i]::items.toList.drop (i+1):=by simp[List.drop_eq_getElem_cons,hlt]
  have e2:=g g2 (by rw[show i+(n+1)=i+1+n by omega];exact it2) (b1.trans b2)
  rw[e1,List.take_succ_cons] at e2
  exact e2
theorem unpackL{s:Shared}{t:Addr}{items:Array Value}{Q:List Value→Shared→Prop}(hh:A.handled=none)(ht:s.heap.IsList t items)(g:∀ h',Heap.ExtBut s.heap.objs.size s.heap h'→Q items.toList { s with heap:=h' }):wpAny (model prog w) A (unpackItems (.ref t) items.size none) Q E s:=by
 have hlt:t≠s.heap.objs.size:=by
  obtain⟨o,ho,_⟩:=ht
  exact Nat.ne_of_lt (Heap.lt_size ho)
 unfold unpackItems
 refine wpAny_bind ?_
 unfold notIterableAtAll
 refine wpAny_bind (wpAny_specialOf ht.typeIs slot_list_iter.lookup ?_)
 refine wpAny_pure ?_
 rw[if_neg Bool.false_ne_true]
 refine wpAny_bind (wpAny_holding (wpAny_pyIter_list ht ?_))
 refine wpAny_bind (wpAny_holding (drawL hlt items.size 0 _ _ ⟨_,Heap.get?_push_size _ rfl,rfl,rfl⟩ (ht.push _) (by omega) fun g1 it1 b1=>?_))
 have hall:List.take items.size (List.drop 0 items.toList)=items.toList:=by
  rw[List.drop_zero]
  exact List.take_of_length_le (by simp)
 rw[hall,if_neg (by simp)]
 have ht1:g1.IsList t items:=(ht.push _).extBut b1.extBut hlt
 refine wpAny_bind (wpAny_holding (wpAny_pyNext_list_end hh it1 ht1 (by simp) fun g2 b2=>?_))
 rw[if_neg (by simp)]
 exact wpAny_pure (g g2 fun b o hb e=>b2 b o hb (b1.extBut b o hb (Heap.get?_push_of_some _ e)))
end
section
variable{X:Cx}
def gTupL(K:PySem.W.Frag)(n:Nat)(t:TGs):TG:=fun v σ H Q=>∃ a xs,v=.ref a∧SqL K H a xs∧xs.length=n∧t xs σ H Q
theorem lK{es:List Expr}{k:Nat}{t:TGs}{n:Nat}{pos:Pos}(hc:X.calm=true)(h:PGs X es t)(hn:(assignEach es X.env).length=n:=by rfl)(hst:(assignEach es X.env).findIdx? (·.1)=none:=by rfl):PG X (.Tuple es k pos) (gTupL X.K n t):=by
 intro pins s σ H v u Q I r hw
 obtain⟨a,xs,e1,hq,hl,hw⟩:=hw
 subst e1
 cases r
 obtain⟨its,rv,ht,hz⟩:=I.list hq
 have hlen:=rv.length
 rw[assign_Tuple]
 refine wpAny_bind (wpAny_standAt ?_)
 unfold unpack
 have hsz:(assignEach es X.env).length=its.toArray.size:=by rw[hn,List.size_toArray];omega
 rw[hsz,hst]
 refine wpAny_bind (wpAny_holding (unpackL (I.ok.hd hc) ht.isList fun h' hx=>?_))
 have I1:Inv X pins σ H { s with heap:=h' }:=I.kept (t':=s.toks) fun b o e=>hx b o (Nat.ne_of_lt (Heap.lt_size e)) e
 exact h pins _ σ H xs _ Q I1 (by simpa using rv) hw
end
end L2
end
section
namespace RRG
open PySem PySem.Spec PyProof.Rows L2
theorem plainN:plainId "reversed.__new__"=true:=by decide +kernel
abbrev rgO(n:Int)(t u v:Tok):Obj:={ cls:=.type "range",data:=.fields #[.int 0 t, .int n u, .int 1 v] }
abbrev itO(n:Int):Obj:={ cls:=.type "range_iterator",data:=.fields #[rawInt (n - 1),rawInt n,rawInt (-1)] }
section
variable{prog:Program}{w:World}{A:Around}{E:Value→Shared→Prop}{s:Shared}{r:Addr}{n:Int}{t u v:Tok}
theorem selfRev{R:Result→Shared→Prop}(hr:s.heap.get? r=some (rgO n t u v))(h0:0≤n)(h1:n<2 ^ 62)(g:R (.ok (.ret (.ref s.heap.objs.size))) { s with heap:=s.heap.push (itO n) }):codeAny (model prog w) A (.call (.builtin "range.__reversed__") ⟨[.ref r],[]⟩) R s:=by
 have hT:s.TypeIs (.ref r) "range":=⟨_,hr,rfl⟩
 refine codeAny_call_builtin F.slot_range_reversed.plain F.entry_range_reversed (F.slot_range_reversed.check _ _ _ _ _ _ _ _ hT (F.args_range_reversed_1 _) ?_)
 unfold Builtin.«range.__reversed__»
 refine wpAny_bind (m:=selfOnly "range.__reversed__" _) (wpAny_pure ?_)
 unfold Builtin.Range.rangeFields
 refine wpAny_bind ?_
 refine wpAny_bind (wpAny_field hr rfl (x:=.int 0 t) rfl ?_)
 refine wpAny_bind (m:=asInt? (.int 0 t)) (wpAny_pure ?_)
 refine wpAny_bind (wpAny_field hr rfl (x:=.int n u) rfl ?_)
 refine wpAny_bind (m:=asInt? (.int n u)) (wpAny_pure ?_)
 refine wpAny_bind (wpAny_field hr rfl (x:=.int 1 v) rfl ?_)
 refine wpAny_bind (m:=asInt? (.int 1 v)) (wpAny_pure ?_)
 refine wpAny_pure ?_
 dsimp only
 have hs:Builtin.Range.rangeSize 0 n 1=n:=by
  rw[rangeSize_one]
  split<;>omega
 have hf:∀ i:Int,-(2 ^ 63)≤i→i<2 ^ 63→Builtin.Range.rangeFitsLong i=true:=fun i a b=>by
  unfold Builtin.Range.rangeFitsLong
  rw[Bool.and_eq_true,decide_eq_true_eq,decide_eq_true_eq]
  exact⟨a,b⟩
 rw[hs,hf 0 (by decide) (by decide),hf n (by omega) (by omega),hf 1 (by decide) (by decide),hf (-1) (by decide) (by decide),hf (0 - 1) (by decide) (by decide)]
 simp only[Bool.and_self,Bool.not_true,Bool.false_eq_true,if_false,if_true]
 unfold newFields
 refine wpAny_bind (wpAny_newObj_type ?_ (by size_fits))
 have e:(0:Int)+(n - 1) * 1=n - 1:=by omega
 refine wpAny_pure ?_
 rw[e]
 exact g
theorem newR{Q:Value→Shared→Prop}(hr:s.heap.get? r=some (rgO n t u v))(h0:0≤n)(h1:n<2 ^ 62)(g:Q (.ref s.heap.objs.size) { s with heap:=s.heap.push (itO n) }):codeAny (model prog w) A (.call (.builtin "reversed.__new__") ⟨[.type "reversed", .ref r],[]⟩) (wants Q E) s:=by
 refine codeAny_of_tree ?_
 change wpAny _ A.in1 (checkBuiltinCall "reversed.__new__" ⟨[.type "reversed", .ref r],[]⟩ >>=fun _=>again (.builtin "reversed.__new__" ⟨[.type "reversed", .ref r],[]⟩)) _ _ s
 refine wpAny_bind (wpAny_of_eq (RV.newCall _) ?_)
 refine wpAny_pure ⟨plainId_quiet plainN _,codeAny_builtin RV.eNew ?_⟩
 rw[Around.under_plainId plainN _]
 unfold Builtin.«reversed.__new__»
 have hsub:=RV.subRev
 have hT:s.TypeIs (.ref r) "range":=⟨_,hr,rfl⟩
 have hlk:=F.slot_range_reversed.lookup
 have hbd:=F.slot_range_reversed.bind (.ref r)
 obtain⟨hp,gs,d,tk,os⟩:=s
 dsimp only at g ⊢
 wp_walk
 refine selfRev (s:={ heap:=hp,gens:=gs,drawn:=d,toks:=tk,os:=os }) hr h0 h1 ?_
 exact wpAny_pure g
theorem subN:isSubtype (.type "range_iterator") (.type "reversed")=pure false:=by rw[isSubtype_type];kernel_rfl
set_option maxHeartbeats 1000000 in
theorem callR{Q:Value→Shared→Prop}(hr:s.heap.get? r=some (rgO n t u v))(h0:0≤n)(h1:n<2 ^ 62)(g:Q (.ref s.heap.objs.size) { s with heap:=s.heap.push (itO n) }):wpAny (model prog w) A (call (.type "reversed") [.ref r]) Q E s:=by
 obtain⟨c,tl,hm1⟩:=RV.called.mro
 have hm2:=RV.called.made
 have hm3:=RV.called.sub
 refine wpAny_call (codeAny_of_tree ?_)
 change wpAny _ _ (callAny (.type "reversed") _) _ _ _
 refine wpAny_pure ⟨Code.quiet_builtin _ (by decide +kernel),?_⟩
 refine codeAny_builtin F.entry_type_call ?_
 rw[Around.under_plain (weight_type_call_type "reversed" [.ref r] []) rfl]
 have q1:=RV.called.notType
 have q2:=RV.called.canCreate
 have q3:=RV.typeCall (.ref r)
 repeat (any_goals (first
  |assumption
  |wp_step))
 refine codeAny_mono (newR (E:=E) (Q:=fun x s1=>x=.ref s.heap.objs.size∧s1={ s with heap:=s.heap.push (itO n) }) hr h0 h1 ⟨rfl,rfl⟩) fun z s1 hz=>?_
 cases z with
 |error e=>exact hz
 |ok fl=>
  cases fl with
  |ret x=>
   obtain⟨rfl,rfl⟩:=hz
   have e1:(s.heap.push (itO n)).get? s.heap.objs.size=some (itO n):=Heap.get?_push_size _ rfl
   have e2:Shared.TypeIs { s with heap:=s.heap.push (itO n) } (.ref s.heap.objs.size) "range_iterator":=⟨_,e1,rfl⟩
   have e3:=subN
   repeat (any_goals (first
    |assumption
    |wp_step))
  |_=>exact hz.elim
end
end RRG
namespace L2
open PySem PySem.Spec PyProof.Rows
def Itrr(n:Nat):It:=⟨fun i _=>i<n,fun i H v H'=>v=.int ((n:Int) - 1 - i)∧H'=H,fun i _=>n≤i⟩
theorem uZ{P:Program}{w:World}{K:PySem.W.Frag}{tg:Expr}(it:Addr)(n:Nat):Turn P w K tg (Itrr n) [it] it (fun i h=>IsRangeIter h it (((n:Int) - 1)+(i:Nat) * (-1)) ((n:Int) - (i:Nat)) (-1)) where
 mem:=by simp
 obj:=fun i h st b hb=>by
  have e:b=it:=by simpa using hb
  subst e
  exact⟨_,st,fun v z=>by
   have z':Data.fields _=Data.cell v:=z
   cases z'⟩
 keep:=fun i h h' st k=>k it (by simp) _ st
 item:=by
  intro X hP hw hK hc i pins s σ H E I hf st hg
  subst hP hw hK
  obtain⟨f0,f1,f2,f3,f4,f5⟩:=hf it (by simp)
  have W:=Walks.range (prog:=X.prog) (w:=X.w) (I.ok.hd hc) it ((n:Int) - 1) (-1) n
  refine W.item i s _ _ hg st fun v h' tk hv st' kk=>?_
  obtain⟨t,rfl⟩:=hv
  have I1:Inv X pins σ H { s with heap:=h',toks:=tk }:=I.turned (fun b o hb e=>kk b o (by simpa using hb) e) f0 f1 f3 f4 f5
  refine⟨_,rfl,uQ (s:={ s with heap:=h',toks:=tk }) (n:="range_iterator") st' rfl rfl (by decide) ⟨.int ((n:Int) - 1 - i),H,I1,⟨t,?_⟩,⟨rfl,rfl⟩,st',fun b hb=>(hf b hb).1⟩⟩
  have e:(n:Int) - 1+(i:Int) * -1=(n:Int) - 1 - i:=by omega
  rw[e]
 done:=by
  intro X hP hw hK hc i pins s σ H E I hf st hg
  subst hP hw hK
  obtain⟨f0,f1,f2,f3,f4,f5⟩:=hf it (by simp)
  exact wpAny_pyNext_range_end (I.ok.hd hc) st (by have:n≤i:=hg;omega) fun h' eb=>⟨rfl,I.turned (t':=s.toks) (fun b o hb e=>eb b o hb e) f0 f1 f3 f4 f5⟩
 self:=fun _ _ _ _ _ st h=>wpAny_pyIter_rangeiter st h
section
variable{X:Cx}
def iRevR(ta:TA):TI:=fun σ H R=>ta σ H fun vs H1=>∃ n:Nat,vs=[.int (n:Nat)]∧n<2 ^ 62∧R (Itrr n) H1
theorem aCO{a tg:Expr}{ta:TA}{p p2 pos pos2:Pos}(hg:Gl X "reversed")(hm:X.mg "reversed"=none)(hgr:Gl X "range")(hmr:X.mg "range"=none)(ha:PA X [a] ta)
  (hs:starEach [a] X.env=(false,eval a X.env)::starEach [] X.env:=by rfl)(hpl:(backTo pos2 (starEach [] X.env)).any (·.1)=false:=by rfl)
  (hs2:starEach [.Call (.Name "range" p2) [a] [] pos2] X.env=(false,eval (.Call (.Name "range" p2) [a] [] pos2) X.env)::starEach [] X.env:=by rfl)(hpl2:(backTo pos (starEach [] X.env)).any (·.1)=false:=by rfl):
  PI X tg (.Call (.Name "reversed" p) [.Call (.Name "range" p2) [a] [] pos2] [] pos) (iRevR ta):=by
 intro pins s σ H R I h
 refine Call_ (kR I hg hm aAZ ?_)
 refine PyProof.Rows.callWith_type1 ?_ hs2 hpl2
 rw[hs2]
 change wpAny _ _ (spliced ((false,eval (.Call (.Name "range" p2) [a] [] pos2) X.env)::backTo pos (starEach [] X.env))) _ _ s
 refine Calls.spliced_cons ?_
 refine wpAny_Call_Name_kw (kR I hgr hmr boot_range ?_)
 refine PyProof.Rows.callWith_type1 (thn (ha pos2 pins s σ H _ I h) fun us s1 ⟨vs,H1,I1,r1,n,ev,hn,q⟩=>?_) hs hpl
 subst ev
 obtain⟨v1,rfl,e1⟩:=vals1 r1
 obtain⟨t,rfl⟩:=e1
 refine call_range_1 ?_
 refine Calls.spliced_nil ?_
 have hr:(s1.heap.push (RRG.rgO ((n:Nat):Int) s1.toks t (s1.toks+1))).get? s1.heap.objs.size=some (RRG.rgO ((n:Nat):Int) s1.toks t (s1.toks+1)):=Heap.get?_push_size _ rfl
 refine RRG.callR (s:={ s1 with heap:=s1.heap.push (RRG.rgO ((n:Nat):Int) s1.toks t (s1.toks+1)),toks:=s1.toks+1+1 }) hr (by omega) (by omega) ?_
 have I2:Inv X pins σ H1 { s1 with heap:=(s1.heap.push (RRG.rgO ((n:Nat):Int) s1.toks t (s1.toks+1))).push (RRG.itO ((n:Nat):Int)),toks:=s1.toks+1+1 }:=I1.kept (t':=s1.toks+1+1) fun b o e=>Heap.get?_push_of_some _ (Heap.get?_push_of_some _ e)
 have e0:IsRangeIter ((s1.heap.push (RRG.rgO ((n:Nat):Int) s1.toks t (s1.toks+1))).push (RRG.itO ((n:Nat):Int))) (s1.heap.push (RRG.rgO ((n:Nat):Int) s1.toks t (s1.toks+1))).objs.size (((n:Int) - 1)+((0:Nat):Int) * (-1)) ((n:Int) - ((0:Nat):Int)) (-1):=by
  have a1:((n:Int) - 1)+((0:Nat):Int) * (-1)=(n:Int) - 1:=by omega
  have a2:(n:Int) - ((0:Nat):Int)=(n:Int):=by omega
  rw[a1,a2]
  exact Heap.get?_push_size _ rfl
 refine wpAny_pyIter_rangeiter e0 ?_
 have hsz:(s1.heap.push (RRG.rgO ((n:Nat):Int) s1.toks t (s1.toks+1))).objs.size=s1.heap.objs.size+1:=Heap.size_push ..
 refine⟨_,[(s1.heap.push (RRG.rgO ((n:Nat):Int) s1.toks t (s1.toks+1))).objs.size],_,Itrr n,H1,rfl,I2,uZ _ n,e0,fun b hb=>?_,q⟩
 rw[List.mem_singleton.mp hb,hsz]
 exact I1.fpOk (Nat.le_succ _) (I1.hok.fresh (Nat.le_succ _))
end
end L2
end
section
namespace L2
open PySem PySem.Spec PyProof.Rows
section
variable{X:Cx}
theorem pL(ns:List Int):∀ k,k≤ns.length→preSum (fun i=>(ns[i]?).getD 0) k=(ns.take k).sum
 |0,_=>rfl
 |k+1,h=>by
  have hk:k<ns.length:=h
  have e:preSum (fun i=>(ns[i]?).getD 0) (k+1)=preSum (fun i=>(ns[i]?).getD 0) k+(ns[k]?).getD 0:=rfl
  rw[e,pL ns k (by omega),List.take_succ,List.getElem?_eq_getElem hk,List.sum_append]
  simp
theorem xV:∀ {ns:List Int} {us:List Value},Vals (ns.map V.int) us→us.length=ns.length∧∀ (i:Nat) v,us[i]?=some v→∃ t,v=.int ((ns[i]?).getD 0) t
 |[],_,r=>by
  cases r
  exact⟨rfl,fun i v h=>by simp at h⟩
 |n::ns,_,r=>by
  rw[List.map_cons] at r
  cases r with
  |cons r1 r2=>
   obtain⟨t,e⟩:=r1
   obtain⟨h1,h2⟩:=xV r2
   refine⟨by rw[List.length_cons,List.length_cons,h1],fun i v h=>?_⟩
   cases i with
   |zero=>cases h;exact⟨t,e⟩
   |succ i=>exact h2 i v h
theorem aAb(hc:X.calm=true):CallR X (.builtin "sum") (fun xs H Q=>∃ (l:Addr) (ns:List Int),xs=[.ref l]∧SqL X.K H l (ns.map V.int)∧Q (.int ns.sum) H):=by
 intro pins s σ H xs us Q I r h
 obtain⟨l,ns,rfl,hq,q⟩:=h
 obtain⟨u,rfl,ru⟩:=vals1 r
 cases ru
 obtain⟨its,rv,pl,hz⟩:=I.list hq
 obtain⟨hil,hin⟩:=xV rv
 have hl:=pl.isList
 have hlt:l<s.heap.objs.size:=by obtain⟨_,e,_⟩:=hl;exact Heap.lt_size e
 refine call_sum_walkAnyS (wpAny_pyIter_list hl ?_)
 refine⟨s.heap.objs.size,[s.heap.objs.size,l],[s.heap.objs.size],_,its.toArray.size,_,_,fun i=>(ns[i]?).getD 0,rfl,(Walks.list (A:=X.A.in1) (I.ok.hd hc) _ l (Nat.ne_of_lt hlt) _).toS,
  ⟨⟨_,Heap.get?_push_size _ rfl,rfl,rfl⟩,hl.push _⟩,fun b hb=>?_,fun i v hP=>hin i v (by simpa using hP),fun s' t' hm=>?_⟩
 ·change b < (s.heap.push _).objs.size
  rw[Heap.size_push]
  rcases List.mem_cons.mp hb with rfl|hb
  ·exact Nat.lt_succ_self _
  ·rw[List.mem_singleton.mp hb];exact Nat.lt_succ_of_lt hlt
 ·have kp:∀ b o,s.heap.get? b=some o→s'.heap.get? b=some o:=fun b o e=>
   hm.heap b o (fun hI=>absurd (Heap.lt_size e) (by rw[List.mem_singleton.mp hI];exact Nat.lt_irrefl _)) (Heap.get?_push_of_some _ e)
  have e1:preSum (fun i=>(ns[i]?).getD 0) its.toArray.size=ns.sum:=by
   rw[List.size_toArray,hil,pL ns _ (Nat.le_refl _),List.take_length]
  rw[Moved.eq_with hm,e1]
  exact⟨.int ns.sum,H,I.kept (h':=s'.heap) (t':=s'.toks) kp,⟨t',rfl⟩,q⟩
end
end L2
end
section
namespace L2
open PySem PySem.Spec PyProof.Rows
theorem fV{X:Cx}{e:Expr}{t u:TE}(h:PE X e t)(hu:∀ σ H Q,u σ H Q→t σ H Q):PE X e u:=fun pins s σ H Q I q=>h pins s σ H Q I (hu σ H Q q)
theorem wL{X:Cx}{e:Expr}{t u:TT}(h:PT X e t)(hu:∀ σ H Q,u σ H Q→t σ H Q):PT X e u:=fun pins s σ H Q I q=>h pins s σ H Q I (hu σ H Q q)
theorem aBd{X:Cx}{e:Expr}{t u:TT}(h:PW X e t)(hu:∀ σ H Q,u σ H Q→t σ H Q):PW X e u:=fun w pins s σ H Q I q=>h w pins s σ H Q I (hu σ H Q q)
theorem aBe{X:Cx}{es:List Expr}{t u:TA}(h:PA X es t)(hu:∀ σ H Q,u σ H Q→t σ H Q):PA X es u:=fun pos pins s σ H Q I q=>h pos pins s σ H Q I (hu σ H Q q)
theorem lV{X:Cx}{st:Stmt}{t u:TS}(h:PS X st t)(hu:∀ D σ H,u D σ H→t D σ H):PS X st u:=fun pins s σ H D I q=>h pins s σ H D I (hu D σ H q)
theorem xW{X:Cx}{st:List Stmt}{t u:TS}(h:PSs X st t)(hu:∀ D σ H,u D σ H→t D σ H):PSs X st u:=fun pins s σ H D I q=>h pins s σ H D I (hu D σ H q)
theorem wM{X:Cx}{e:Expr}{t u:TG}(h:PG X e t)(hu:∀ v σ H Q,u v σ H Q→t v σ H Q):PG X e u:=fun pins s σ H v uu Q I r q=>h pins s σ H v uu Q I r (hu v σ H Q q)
theorem xX{X:Cx}{e:List Expr}{t u:TGs}(h:PGs X e t)(hu:∀ v σ H Q,u v σ H Q→t v σ H Q):PGs X e u:=fun pins s σ H v uu Q I r q=>h pins s σ H v uu Q I r (hu v σ H Q q)
theorem tM{X:Cx}{tg e:Expr}{t u:TI}(h:PI X tg e t)(hu:∀ σ H Q,u σ H Q→t σ H Q):PI X tg e u:=fun pins s σ H R I q=>h pins s σ H R I (hu σ H R q)
theorem aES{X:Cx}{e:Expr}{t u:TE}(h:PE X e t)(h':PE X e u):PE X e (fun σ H Q=>t σ H Q∨u σ H Q):=fun pins s σ H Q I q=>q.elim (h pins s σ H Q I) (h' pins s σ H Q I)
theorem aBf{X:Cx}{tg e:Expr}{t u:TI}(h:PI X tg e t)(h':PI X tg e u):PI X tg e (fun σ H Q=>t σ H Q∨u σ H Q):=fun pins s σ H Q I q=>q.elim (h pins s σ H Q I) (h' pins s σ H Q I)
theorem qL{X:Cx}{e:Expr}{t u:TG}(h:PG X e t)(h':PG X e u):PG X e (fun v σ H Q=>t v σ H Q∨u v σ H Q):=fun pins s σ H v uu Q I r q=>q.elim (h pins s σ H v uu Q I r) (h' pins s σ H v uu Q I r)
theorem OpR.imp{X:Cx}{f:Value→Value→Sem Value}{r r':R2}(h:OpR X f r)(hu:∀ x y H Q,r' x y H Q→r x y H Q):OpR X f r':=fun pins s σ H x y v u Q I rx ry q=>h pins s σ H x y v u Q I rx ry (hu _ _ _ _ q)
theorem UnR.imp{X:Cx}{f:Value→Sem Value}{r r':V→Hp→VK→Prop}(h:UnR X f r)(hu:∀ x H Q,r' x H Q→r x H Q):UnR X f r':=fun pins s σ H x v Q I rx q=>h pins s σ H x v Q I rx (hu _ _ _ q)
theorem CallR.imp{X:Cx}{f:Value}{r r':List V→Hp→VK→Prop}(h:CallR X f r)(hu:∀ x H Q,r' x H Q→r x H Q):CallR X f r':=fun pins s σ H xs us Q I rx q=>h pins s σ H xs us Q I rx (hu _ _ _ q)
theorem MtR.imp{X:Cx}{id:String}{r r':V→List V→Hp→VK→Prop}(h:MtR X id r)(hu:∀ x xs H Q,r' x xs H Q→r x xs H Q):MtR X id r':=fun pins s σ H x xs v us Q I rx rs q=>h pins s σ H x xs v us Q I rx rs (hu _ _ _ _ q)
theorem SlR.imp{X:Cx}{r r':V→Option Int→Option Int→Hp→VK→Prop}(h:SlR X r)(hu:∀ x lo hi H Q,r' x lo hi H Q→r x lo hi H Q):SlR X r':=fun pins s σ H x v vl vu lo hi sl Q I rx hs pl pu q=>h pins s σ H x v vl vu lo hi sl Q I rx hs pl pu (hu _ _ _ _ _ q)
inductive D where
 |no
 |b (x:Bool)
 |i (n:Int)
 |s (x:Str)
 |t (xs:List D)
 |k (xs:List D)
 |f (xs:List D)
 |r (l:Nat)
 |ty (n:String)
inductive C where
 |l (xs:List D)
 |d (kvs:List (Key×D))
 |o (c:Addr) (fs:List (Str×D))
abbrev Sto:=List C
abbrev En:=List (Option D)
abbrev M(α:Type):=Sto→Option (α×Sto)
def FzL(K:PySem.W.Frag)(H:Hp)(a:Addr)(xs:List V):Prop:=
 (∃ o,H a=some (.frz o (.lst xs)))∨
  ∃ (o:Obj) (its:Array Value) (n:Nat),K.lookup a=some o∧o.cls=.type "list"∧o.dict=none∧o.data=.seq its n∧its.size≤sizeLine∧Vals xs its.toList
theorem FzL.sq{K:PySem.W.Frag}{H:Hp}{a:Addr}{xs:List V}(h:FzL K H a xs):SqL K H a xs:=by
 rcases h with⟨o,e⟩|h
 ·exact .inl (.inr ⟨o,e⟩)
 ·exact .inr h
def cellO:HO→Bool
 | .lst _=>true
 | .dK _=>true
 | .ins ..=>true
 |_=>false
theorem FzL.kp{K:PySem.W.Frag}{H H':Hp}{a:Addr}{xs:List V}(h:FzL K H a xs)(k:∀ a o,H a=some o→cellO o=false→H' a=some o):FzL K H' a xs:=by
 rcases h with⟨o,e⟩|h
 ·exact .inl ⟨o,k _ _ e rfl⟩
 ·exact .inr h
inductive RV (K:PySem.W.Frag) (m:List Addr) (H:Hp):V→D→Prop where
 |no:RV K m H .non .no
 |b (x:Bool):RV K m H (.bl x) (.b x)
 |i (n:Int):RV K m H (.int n) (.i n)
 |s (x:Str):RV K m H (.str x) (.s x)
 |ty (n:String):RV K m H (.ty n) (.ty n)
 |t {a:Addr} {vs:List V} {ds:List D}:H a=some (.tup vs)→vs.length=ds.length→(∀ (j:Nat) v d,vs[j]?=some v→ds[j]?=some d→RV K m H v d)→RV K m H (.ref a) (.t ds)
 |k {a:Addr} {vs:List V} {ds:List D}:(∀ H',SqT K H' a vs)→vs.length=ds.length→(∀ (j:Nat) v d,vs[j]?=some v→ds[j]?=some d→RV K m H v d)→RV K m H (.ref a) (.k ds)
 |f {a:Addr} {vs:List V} {ds:List D}:FzL K H a vs→vs.length=ds.length→(∀ (j:Nat) v d,vs[j]?=some v→ds[j]?=some d→RV K m H v d)→RV K m H (.ref a) (.f ds)
 |r {l:Nat} {a:Addr}:m[l]?=some a→RV K m H (.ref a) (.r l)
def RVs(K:PySem.W.Frag)(m:List Addr)(H:Hp)(vs:List V)(ds:List D):Prop:=vs.length=ds.length∧∀ (j:Nat) v d,vs[j]?=some v→ds[j]?=some d→RV K m H v d
def RC(K:PySem.W.Frag)(m:List Addr)(H:Hp)(a:Addr):C→Prop
 | .l xs=>∃ vs,H a=some (.lst vs)∧RVs K m H vs xs
 | .d kvs=>∃ kws:List (Key×V),H a=some (.dK kws)∧kws.map (·.1)=kvs.map (·.1)∧RVs K m H (kws.map (·.2)) (kvs.map (·.2))
 | .o c fs=>∃ dx ws,H a=some (.ins c dx ws)∧ws.map (·.1)=fs.map (·.1)∧RVs K m H (ws.map (·.2)) (fs.map (·.2))
structure SR (K:PySem.W.Frag) (m:List Addr) (H:Hp) (st:Sto):Prop where
 len:m.length=st.length
 nd:m.Nodup
 cel:∀ (l:Nat) a c,m[l]?=some a→st[l]?=some c→RC K m H a c
structure Stp (m:List Addr) (H:Hp) (m':List Addr) (H':Hp):Prop where
 pre:∀ (l:Nat) a,m[l]?=some a→m'[l]?=some a
 kt:∀ a o,H a=some o→cellO o=false→H' a=some o
 fr:∀ a o,H a=some o→a∉m→H' a=some o
 nw:∀ a,a∈m'→a∉m→H a=none
def RE(K:PySem.W.Frag)(m:List Addr)(H:Hp)(σ:St)(env:En):Prop:=σ.length=env.length∧∀ (j:Nat) d,env[j]?=some (some d)→∃ v,σ[j]?=some (some v)∧RV K m H v d
section
variable{K:PySem.W.Frag}{m m' m2:List Addr}{H H' H2:Hp}{st st':Sto}
theorem Stp.refl:Stp m H m H:=⟨fun _ _ h=>h,fun _ _ h _=>h,fun _ _ h _=>h,fun _ h n=>absurd h n⟩
theorem Stp.trans(s:Stp m H m' H')(u:Stp m' H' m2 H2):Stp m H m2 H2 where
 pre:=fun l a h=>u.pre l a (s.pre l a h)
 kt:=fun a o h c=>u.kt a o (s.kt a o h c) c
 fr:=fun a o h n=>u.fr a o (s.fr a o h n) fun hm=>by have:=s.nw a hm n;rw[h] at this;cases this
 nw:=fun a h n=>by
  by_cases h1:a∈m'
  ·exact s.nw a h1 n
  ·have e:=u.nw a h h1
   cases q:H a with
   |none=>rfl
   |some o=>rw[s.fr a o q n] at e;cases e
theorem RV.stp{v:V}{d:D}(h:RV K m H v d)(s:Stp m H m' H'):RV K m' H' v d:=by
 induction h with
 |no=>exact .no
 |b=>exact .b _
 |i=>exact .i _
 |s=>exact .s _
 |ty=>exact .ty _
 |t e l _ ih=>exact .t (s.kt _ _ e rfl) l ih
 |k e l _ ih=>exact .k e l ih
 |f e l _ ih=>exact .f (e.kp s.kt) l ih
 |r e=>exact .r (s.pre _ _ e)
theorem RVs.stp{vs:List V}{ds:List D}(h:RVs K m H vs ds)(s:Stp m H m' H'):RVs K m' H' vs ds:=⟨h.1,fun j v d a b=>(h.2 j v d a b).stp s⟩
theorem RVs.nil:RVs K m H [] []:=⟨rfl,fun j v d h=>by simp at h⟩
theorem RVs.cons{v:V}{d:D}{vs:List V}{ds:List D}(h:RV K m H v d)(h':RVs K m H vs ds):RVs K m H (v::vs) (d::ds):=by
 refine⟨by rw[List.length_cons,List.length_cons,h'.1],fun i v' d' h1 h2=>?_⟩
 cases i with
 |zero=>cases h1;cases h2;exact h
 |succ i=>exact h'.2 i v' d' (by simpa using h1) (by simpa using h2)
theorem RVs.append:∀ {vs:List V} {ds:List D} {vs':List V} {ds':List D},RVs K m H vs ds→RVs K m H vs' ds'→RVs K m H (vs++vs') (ds++ds')
 |[],[],_,_,_,h=>h
 |v::vs,d::ds,_,_,h,h'=>by
  have h1:RVs K m H vs ds:=⟨by have:=h.1;simpa using this,fun i v' d' e1 e2=>h.2 (i+1) v' d' (by simpa using e1) (by simpa using e2)⟩
  exact .cons (h.2 0 v d rfl rfl) (h1.append h')
 |[],d::ds,_,_,h,_=>by have:=h.1;simp at this
 |v::vs,[],_,_,h,_=>by have:=h.1;simp at this
theorem RVs.one{v:V}{d:D}(h:RV K m H v d):RVs K m H [v] [d]:=.cons h .nil
theorem RVs.at{vs:List V}{ds:List D}{i:Nat}{d:D}(h:RVs K m H vs ds)(e:ds[i]?=some d):∃ v,vs[i]?=some v∧RV K m H v d:=by
 have hi:i<ds.length:=(List.getElem?_eq_some_iff.mp e).1
 have hv:i<vs.length:=by rw[h.1];exact hi
 exact⟨vs[i],by simp[hv],h.2 i vs[i] d (by simp[hv]) e⟩
theorem RVs.set{vs:List V}{ds:List D}{i:Nat}{v:V}{d:D}(h:RVs K m H vs ds)(hv:RV K m H v d):RVs K m H (vs.set i v) (ds.set i d):=by
 refine⟨by rw[List.length_set,List.length_set,h.1],fun j v' d' a b=>?_⟩
 rw[List.getElem?_set] at a b
 by_cases hij:i=j
 ·subst hij
  rw[if_pos rfl] at a b
  split at a
  ·split at b
   ·cases a;cases b;exact hv
   ·cases b
  ·cases a
 ·rw[if_neg hij] at a b
  exact h.2 j v' d' a b
theorem RVs.take{vs:List V}{ds:List D}(h:RVs K m H vs ds)(n:Nat):RVs K m H (vs.take n) (ds.take n):=by
 refine⟨by rw[List.length_take,List.length_take,h.1],fun j v d a b=>?_⟩
 rw[List.getElem?_take] at a b
 split at a
 ·rename_i hj;rw[if_pos hj] at b;exact h.2 j v d a b
 ·cases a
theorem RVs.drop{vs:List V}{ds:List D}(h:RVs K m H vs ds)(n:Nat):RVs K m H (vs.drop n) (ds.drop n):=by
 refine⟨by rw[List.length_drop,List.length_drop,h.1],fun j v d a b=>?_⟩
 rw[List.getElem?_drop] at a b
 exact h.2 _ v d a b
theorem RVs.rev{vs:List V}{ds:List D}(h:RVs K m H vs ds):RVs K m H vs.reverse ds.reverse:=by
 refine⟨by rw[List.length_reverse,List.length_reverse,h.1],fun j v d a b=>?_⟩
 have hj:j<vs.length:=by have:=(List.getElem?_eq_some_iff.mp a).1;simpa using this
 rw[List.getElem?_reverse hj] at a
 rw[List.getElem?_reverse (by rw[← h.1];exact hj),← h.1] at b
 exact h.2 _ v d a b
theorem RVs.dropLast{vs:List V}{ds:List D}(h:RVs K m H vs ds):RVs K m H vs.dropLast ds.dropLast:=by
 rw[List.dropLast_eq_take,List.dropLast_eq_take,h.1];exact h.take _
theorem RVs.atI{vs:List V}{ds:List D}{i:Int}{d:D}(h:RVs K m H vs ds)(e:L2.atI ds i=some d):∃ v,L2.atI vs i=some v∧RV K m H v d:=by
 unfold L2.atI at e ⊢
 rw[h.1]
 cases q:ixN ds.length i with
 |none=>rw[q] at e;cases e
 |some j=>rw[q] at e;obtain⟨v,h1,h2⟩:=h.at (by simpa using e);exact⟨v,by simpa using h1,h2⟩
theorem RVs.cut{vs:List V}{ds:List D}(h:RVs K m H vs ds)(lo hi:Option Int):RVs K m H (cutV vs lo hi) ((ds.drop (HT.sIx ds.length 0 lo)).take (HT.sIx ds.length ds.length hi - HT.sIx ds.length 0 lo)):=by
 unfold cutV
 rw[h.1]
 exact(h.drop _).take _
theorem RE.stp{σ:St}{env:En}(h:RE K m H σ env)(s:Stp m H m' H'):RE K m' H' σ env:=⟨h.1,fun j d e=>by obtain⟨v,h1,h2⟩:=h.2 j d e;exact⟨v,h1,h2.stp s⟩⟩
theorem RE.set{σ:St}{env:En}{i:Nat}{v:V}{d:D}(h:RE K m H σ env)(hv:RV K m H v d):RE K m H (σ.set i (some v)) (env.set i (some d)):=by
 refine⟨by rw[List.length_set,List.length_set,h.1],fun j d' e=>?_⟩
 rw[List.getElem?_set] at e
 by_cases hij:i=j
 ·subst hij
  rw[if_pos rfl] at e
  split at e
  ·rename_i hl;cases e;exact⟨v,by rw[List.getElem?_set,if_pos rfl,if_pos (by rw[h.1];exact hl)],hv⟩
  ·cases e
 ·rw[if_neg hij] at e
  obtain⟨w,h1,h2⟩:=h.2 j d' e
  exact⟨w,by rw[List.getElem?_set,if_neg hij];exact h1,h2⟩
theorem RC.obj{a:Addr}{c:C}(h:RC K m H a c):∃ o,H a=some o∧cellO o=true:=by
 cases c with
 |l xs=>obtain⟨vs,e,_⟩:=h;exact⟨_,e,rfl⟩
 |d kvs=>obtain⟨vs,e,_⟩:=h;exact⟨_,e,rfl⟩
 |o c fs=>obtain⟨dx,ws,e,_⟩:=h;exact⟨_,e,rfl⟩
theorem RC.kp{a:Addr}{c:C}(h:RC K m H a c)(s:Stp m H m' H')(e:H' a=H a):RC K m' H' a c:=by
 cases c with
 |l xs=>obtain⟨vs,e',q⟩:=h;exact⟨vs,e.trans e',q.stp s⟩
 |d kvs=>obtain⟨vs,e',k,q⟩:=h;exact⟨vs,e.trans e',k,q.stp s⟩
 |o c fs=>obtain⟨dx,ws,e',k,q⟩:=h;exact⟨dx,ws,e.trans e',k,q.stp s⟩
theorem SR.mem{a:Addr}(S:SR K m H st)(h:a∈m):∃ o,H a=some o∧cellO o=true:=by
 obtain⟨l,hl⟩:=List.getElem?_of_mem h
 have hi:l<m.length:=(List.getElem?_eq_some_iff.mp hl).1
 have hs:l<st.length:=by rw[← S.len];exact hi
 exact(S.cel l a st[l] hl (by simp[hs])).obj
theorem SR.same(S:SR K m H st)(s:Same H H'):SR K m H' st∧Stp m H m H':=by
 have p:Stp m H m H':=⟨fun _ _ h=>h,fun a o h _=>s a o h,fun a o h _=>s a o h,fun a h n=>absurd h n⟩
 refine⟨⟨S.len,S.nd,fun l a c h1 h2=>?_⟩,p⟩
 have q:=S.cel l a c h1 h2
 obtain⟨o,e,_⟩:=q.obj
 exact q.kp p (by rw[e];exact s _ _ e)
theorem vA{p:Addr}{o:HO}(h:H p=none):Same H (upd H p o):=fun b u e=>by rw[bL (bF e h)];exact e
theorem SR.new{p:Addr}{o:HO}{c:C}(S:SR K m H st)(h:H p=none)(hc:Stp m H (m++[p]) (upd H p o)→RC K (m++[p]) (upd H p o) p c):SR K (m++[p]) (upd H p o) (st++[c])∧Stp m H (m++[p]) (upd H p o):=by
 have s:=vA (o:=o) h
 have hp:p∉m:=fun hm=>by obtain⟨o',e,_⟩:=S.mem hm;rw[h] at e;cases e
 have q:Stp m H (m++[p]) (upd H p o):=by
  refine⟨fun l a e=>by rw[List.getElem?_append_left (List.getElem?_eq_some_iff.mp e).1];exact e,fun a u e _=>s a u e,fun a u e _=>s a u e,fun a hm n=>?_⟩
  rcases List.mem_append.mp hm with hm|hm
  ·exact absurd hm n
  ·rw[List.mem_singleton.mp hm];exact h
 refine⟨⟨by simp[S.len],?_,fun l a c' h1 h2=>?_⟩,q⟩
 ·rw[List.nodup_append]
  exact⟨S.nd,by simp,fun a ha b hb e=>by rw[List.mem_singleton.mp hb] at e;exact hp (e ▸ ha)⟩
 ·by_cases hl:l<m.length
  ·rw[List.getElem?_append_left hl] at h1
   rw[List.getElem?_append_left (by rw[← S.len];exact hl)] at h2
   have r:=S.cel l a c' h1 h2
   obtain⟨o',e,_⟩:=r.obj
   exact r.kp q (by rw[e];exact s _ _ e)
  ·have hl2:l=m.length:=by
    have:=(List.getElem?_eq_some_iff.mp h1).1
    simp at this;omega
   subst hl2
   rw[List.getElem?_append_right (Nat.le_refl _)] at h1
   rw[S.len,List.getElem?_append_right (Nat.le_refl _)] at h2
   simp at h1 h2
   subst h1 h2
   exact hc q
theorem SR.put{p:Addr}{l:Nat}{o o':HO}{c:C}(S:SR K m H st)(hl:m[l]?=some p)(ho:H p=some o)(hk:cellO o=true)(hc:Stp m H m (upd H p o')→RC K m (upd H p o') p c):SR K m (upd H p o') (st.set l c)∧Stp m H m (upd H p o'):=by
 have q:Stp m H m (upd H p o'):=by
  refine⟨fun _ _ h=>h,fun a u e n=>?_,fun a u e n=>?_,fun a h n=>absurd h n⟩
  ·rw[bL fun z=>by subst z;rw[ho] at e;cases e;rw[hk] at n;cases n];exact e
  ·rw[bL fun z=>by subst z;exact n (List.mem_of_getElem? hl)];exact e
 refine⟨⟨by rw[List.length_set];exact S.len,S.nd,fun j a c' h1 h2=>?_⟩,q⟩
 rw[List.getElem?_set] at h2
 by_cases hj:l=j
 ·subst hj
  rw[if_pos rfl] at h2
  rw[hl] at h1
  split at h2
  ·cases h1;cases h2;exact hc q
  ·cases h2
 ·rw[if_neg hj] at h2
  have r:=S.cel j a c' h1 h2
  refine r.kp q (bL fun z=>?_)
  subst z
  exact hj ((List.getElem?_inj (List.getElem?_eq_some_iff.mp hl).1 S.nd).mp (hl.trans h1.symm))
theorem SR.newT{p:Addr}{vs:List V}{ds:List D}(S:SR K m H st)(h:H p=none)(r:RVs K m H vs ds):SR K m (upd H p (.tup vs)) st∧Stp m H m (upd H p (.tup vs))∧RV K m (upd H p (.tup vs)) (.ref p) (.t ds):=by
 obtain⟨S',q⟩:=S.same (vA (o:=.tup vs) h)
 exact⟨S',q, .t fE r.1 (r.stp q).2⟩
theorem SR.newL{p:Addr}{vs:List V}{ds:List D}(S:SR K m H st)(h:H p=none)(r:RVs K m H vs ds):SR K (m++[p]) (upd H p (.lst vs)) (st++[.l ds])∧Stp m H (m++[p]) (upd H p (.lst vs))∧RV K (m++[p]) (upd H p (.lst vs)) (.ref p) (.r st.length):=by
 obtain⟨S',q⟩:=S.new (c:=.l ds) h fun q=>⟨vs,fE,r.stp q⟩
 exact⟨S',q, .r (by rw[← S.len];simp)⟩
theorem SR.putL{p:Addr}{l:Nat}{o:HO}{vs:List V}{ds:List D}(S:SR K m H st)(hl:m[l]?=some p)(ho:H p=some o)(hk:cellO o=true)(r:RVs K m H vs ds):SR K m (upd H p (.lst vs)) (st.set l (.l ds))∧Stp m H m (upd H p (.lst vs)):=
 S.put hl ho hk fun q=>⟨vs,fE,r.stp q⟩
theorem SR.lst{v:V}{l:Nat}{xs:List D}(S:SR K m H st)(h:RV K m H v (.r l))(e:st[l]?=some (.l xs)):∃ a vs,v=.ref a∧m[l]?=some a∧H a=some (.lst vs)∧RVs K m H vs xs:=by
 cases h with
 |r hl=>obtain⟨vs,h1,h2⟩:=S.cel l _ _ hl e;exact⟨_,vs,rfl,hl,h1,h2⟩
theorem SR.dct{v:V}{l:Nat}{kvs:List (Key×D)}(S:SR K m H st)(h:RV K m H v (.r l))(e:st[l]?=some (.d kvs)):∃ a kws,v=.ref a∧m[l]?=some a∧H a=some (.dK kws)∧kws.map (·.1)=kvs.map (·.1)∧RVs K m H (kws.map (·.2)) (kvs.map (·.2)):=by
 cases h with
 |r hl=>obtain⟨vs,h1,h2⟩:=S.cel l _ _ hl e;exact⟨_,vs,rfl,hl,h1,h2⟩
end
end L2
end
section
namespace L2
open PySem PySem.Spec PyProof.Rows
variable{α β:Type}
noncomputable def ret(a:α):M α:=fun st=>some (a,st)
noncomputable def bad:M α:=fun _=>none
noncomputable def bnd(x:M α)(f:α→M β):M β:=fun st=>match x st with
 |some (a,st')=>f a st'
 |none=>none
noncomputable def opt(x:Option α):M α:=fun st=>match x with
 |some a=>some (a,st)
 |none=>none
noncomputable def need(p:Prop)[Decidable p](x:M α):M α:=fun st=>@ite _ p (Classical.propDecidable p) (x st) none
theorem aJ{x:M α}{f:α→M β}{st:Sto}{r:β×Sto}(h:bnd x f st=some r):∃ a st1,x st=some (a,st1)∧f a st1=some r:=by
 unfold bnd at h
 cases q:x st with
 |none=>rw[q] at h;cases h
 |some p=>rw[q] at h;exact⟨p.1,p.2,rfl,h⟩
theorem fW{x:M α}{f:α→M β}{st:Sto}{a:α}{st1:Sto}(h:x st=some (a,st1)):bnd x f st=f a st1:=by unfold bnd;rw[h]
theorem fG{p:Prop}[Decidable p]{x:M α}{st:Sto}{r:α×Sto}(h:need p x st=some r):p∧x st=some r:=by
 unfold need at h
 split at h
 ·exact⟨by assumption,h⟩
 ·cases h
theorem xY{p:Prop}[Decidable p]{x:M α}{st:Sto}(h:p):need p x st=x st:=by unfold need;rw[if_pos h]
theorem aP{a:α}{st:Sto}{r:α×Sto}(h:ret a st=some r):r=(a,st):=by unfold ret at h;exact(Option.some.inj h).symm
theorem vB{x:Option α}{st:Sto}{a:α}{st':Sto}(h:opt x st=some (a,st')):x=some a∧st'=st:=by
 unfold opt at h
 cases x with
 |none=>cases h
 |some b=>cases h;exact⟨rfl,rfl⟩
section
variable(K:PySem.W.Frag)
noncomputable def Fin(m:List Addr)(H:Hp)(d:D)(st':Sto)(Q:VK):Prop:=∀ v H' m',Stp m H m' H'→SR K m' H' st'→RV K m' H' v d→Q v H'
noncomputable def LE(te:En→M D):TE:=fun σ H Q=>∃ m env st d st',SR K m H st∧RE K m H σ env∧te env st=some (d,st')∧Fin K m H d st' Q
noncomputable def LT(te:En→M Bool):TT:=fun σ H Q=>∃ m env st d st',SR K m H st∧RE K m H σ env∧te env st=some (d,st')∧∀ H' m',Stp m H m' H'→SR K m' H' st'→Q d H'
noncomputable def LA(te:En→M (List D)):TA:=fun σ H Q=>∃ m env st d st',SR K m H st∧RE K m H σ env∧te env st=some (d,st')∧∀ vs H' m',Stp m H m' H'→SR K m' H' st'→RVs K m' H' vs d→Q vs H'
noncomputable def LR(f:D→D→M D):R2:=fun x y H Q=>∃ m st dx dy d st',SR K m H st∧RV K m H x dx∧RV K m H y dy∧f dx dy st=some (d,st')∧Fin K m H d st' Q
noncomputable def LU(f:D→M D):V→Hp→VK→Prop:=fun x H Q=>∃ m st dx d st',SR K m H st∧RV K m H x dx∧f dx st=some (d,st')∧Fin K m H d st' Q
noncomputable def LC(f:List D→M D):List V→Hp→VK→Prop:=fun xs H Q=>∃ m st ds d st',SR K m H st∧RVs K m H xs ds∧f ds st=some (d,st')∧Fin K m H d st' Q
noncomputable def LM(f:D→List D→M D):V→List V→Hp→VK→Prop:=fun x xs H Q=>∃ m st dx ds d st',SR K m H st∧RV K m H x dx∧RVs K m H xs ds∧f dx ds st=some (d,st')∧Fin K m H d st' Q
noncomputable def LO(te:En→M (Option Int)):TO:=fun σ H Q=>∃ m env st d st',SR K m H st∧RE K m H σ env∧te env st=some (d,st')∧∀ H' m',Stp m H m' H'→SR K m' H' st'→Q d H'
noncomputable def LSl(f:D→Option Int→Option Int→M D):V→Option Int→Option Int→Hp→VK→Prop:=fun x lo hi H Q=>∃ m st dx d st',SR K m H st∧RV K m H x dx∧f dx lo hi st=some (d,st')∧Fin K m H d st' Q
noncomputable def LF(f:List D→M D):Sp:=fun xs H Q _=>LC K f xs H Q
end
abbrev QE(X:Cx)(e:Expr)(te:En→M D):Prop:=PE X e (LE X.K te)
abbrev QT(X:Cx)(e:Expr)(te:En→M Bool):Prop:=PT X e (LT X.K te)
abbrev QW(X:Cx)(e:Expr)(te:En→M Bool):Prop:=PW X e (LT X.K te)
abbrev QA(X:Cx)(e:List Expr)(te:En→M (List D)):Prop:=PA X e (LA X.K te)
theorem Fin.now{K:PySem.W.Frag}{m:List Addr}{H:Hp}{d:D}{st:Sto}{Q:VK}(k:Fin K m H d st Q)(S:SR K m H st){v:V}(r:RV K m H v d):Q v H:=k v H m .refl S r
section
variable{X:Cx}{pos:Pos}{a b c:Expr}{ta tb:En→M D}{tc td:En→M Bool}
noncomputable def vD(i:Nat)(env:En):M D:=fun st=>match env[i]? with
 |some (some d)=>some (d,st)
 |_=>none
theorem aCP{i:Nat}{env:En}{st st':Sto}{d:D}(h:vD i env st=some (d,st')):env[i]?=some (some d)∧st'=st:=by
 unfold vD at h
 split at h
 ·cases h;exact⟨by assumption,rfl⟩
 ·cases h
theorem qv(i:Nat){x:Str}(hN:X.N[i]?=some x:=by rfl)(hv:Vis X.env.scope x:=by first|exact Or.inl rfl|exact Or.inr (Or.inl rfl)|exact Or.inr (Or.inr rfl))(hd:(x==("__debug__":Str))=false:=by decide)(hcd:(x==("__classdict__":Str))=false:=by decide):QE X (.Name x pos) (vD i):=by
 refine fV (aDY (i:=i) hN hv hd hcd) ?_
 rintro σ H Q ⟨m,env,st,d,st',S,E,e,k⟩
 obtain⟨e1,rfl⟩:=aCP e
 obtain⟨v,h1,h2⟩:=E.2 i d e1
 exact⟨v,h1,k.now S h2⟩
theorem aAc{e:Expr}{v:V}(d:D)(h:PE X e (tC v))(r:∀ m H,RV X.K m H v d):QE X e (fun _=>ret d):=by
 refine fV h ?_
 rintro σ H Q ⟨m,env,st,d',st',S,E,e,k⟩
 cases aP e
 exact k.now S (r m H)
theorem aD{i:Int}{j}:QE X (.Constant (.int i) j pos) (fun _=>ret (.i i)):=aAc _ aDZ fun _ _=>.i _
theorem bP{i:Str}{j}:QE X (.Constant (.str i) j pos) (fun _=>ret (.s i)):=aAc _ aEb fun _ _=>.s _
theorem xZ{i:Bool}{j}:QE X (.Constant (.bool i) j pos) (fun _=>ret (.b i)):=aAc _ aFV fun _ _=>.b _
theorem lW{j}:QE X (.Constant .none j pos) (fun _=>ret .no):=aAc _ aEa fun _ _=>.no
theorem kM{x:Str}{v:V}{u:Value}(d:D)(hg:Gl X x)(hm:X.mg x=some u)(r:RelV v u)(rd:∀ m H,RV X.K m H v d)(hd:(x==("__debug__":Str))=false:=by decide):QE X (.Name x pos) (fun _=>ret d):=aAc d (aCm hg hm r hd) rd
theorem aGi{x:Str}{n:String}(hg:Gl X x)(hm:X.mg x=none)(hv:bootBuiltins x=some (.type n))(hn:x≠"__name__":=by decide)(hd:(x==("__debug__":Str))=false:=by decide):QE X (.Name x pos) (fun _=>ret (.ty n)):=aAc (.ty n) (aCn (v:=.ty n) hg hm hv rfl hn hd) fun _ _=>.ty _
theorem tN{K:PySem.W.Frag}{ta tb:En→M D}{f:D→D→M D}{σ:St}{H:Hp}{Q:VK}(h:LE K (fun env=>bnd (ta env) fun x=>bnd (tb env) fun y=>f x y) σ H Q):tOp (LR K f) (LE K ta) (LE K tb) σ H Q:=by
 obtain⟨m,env,st,d,st',S,E,e,k⟩:=h
 obtain⟨x,st1,e1,e2⟩:=aJ e
 obtain⟨y,st2,e3,e4⟩:=aJ e2
 exact⟨m,env,st,x,st1,S,E,e1,fun v1 H1 m1 s1 S1 r1=>⟨m1,env,st1,y,st2,S1,E.stp s1,e3,fun v2 H2 m2 s2 S2 r2=>⟨m2,st2,x,y,d,st',S2,r1.stp s2,r2,e4,fun v H' m' s3 S3 r3=>k v H' m' ((s1.trans s2).trans s3) S3 r3⟩⟩⟩
theorem bR{op:Operator}{f:D→D→M D}(ho:OpR X (binaryOp op) (LR X.K f))(ha:QE X a ta)(hb:QE X b tb):QE X (.BinOp a op b pos) (fun env=>bnd (ta env) fun x=>bnd (tb env) fun y=>f x y):=
 fV (aFY ho ha hb) fun _ _ _ h=>tN h
theorem aBg{op:CmpOp}{f:D→D→M D}(ho:OpR X (compareOp op) (LR X.K f))(ha:QE X a ta)(hb:QE X b tb)(hm:behindInMarks op b=false):QE X (.Compare a [op] [b] pos) (fun env=>bnd (ta env) fun x=>bnd (tb env) fun y=>f x y):=
 fV (aCv ho ha hb hm) fun _ _ _ h=>tN h
noncomputable def isB:D→M Bool
 | .b x=>ret x
 |_=>bad
theorem vC{d:D}{st st':Sto}{x:Bool}(h:isB d st=some (x,st')):d=.b x∧st'=st:=by
 cases d<;>first|(cases h;exact⟨rfl,rfl⟩)|cases h
theorem bH{op:CmpOp}{f:D→D→M D}(ho:OpR X (compareOp op) (LR X.K f))(ha:QE X a ta)(hb:QE X b tb)(hm:behindInMarks op b=false):QT X (.Compare a [op] [b] pos) (fun env=>bnd (bnd (ta env) fun x=>bnd (tb env) fun y=>f x y) isB):=by
 refine wL (aCw ho ha hb hm) ?_
 rintro σ H Q ⟨m,env,st,d,st',S,E,e,k⟩
 obtain⟨x,st1,e1,e2⟩:=aJ e
 obtain⟨rfl,rfl⟩:=vC e2
 refine tN ⟨m,env,st, .b d,st',S,E,e1,fun v H' m' s S' r=>?_⟩
 cases r
 exact⟨d,rfl,k H' m' s S'⟩
noncomputable def cTru:Option C→Option Bool
 |some (.l xs)=>some (!xs.isEmpty)
 |some (.d xs)=>some (!xs.isEmpty)
 |_=>none
noncomputable def truD:D→M Bool
 | .no=>ret false
 | .b x=>ret x
 | .i n=>ret (n != 0)
 | .s y=>need (y.length≤sizeLine) (ret ((y.length:Int) != 0))
 | .t xs=>ret (!xs.isEmpty)
 | .k xs=>ret (!xs.isEmpty)
 | .f xs=>ret (!xs.isEmpty)
 | .r l=>fun st=>opt (cTru st[l]?) st
 | .ty _=>bad
theorem nW{α β:Type}{xs:List α}{ys:List β}(h:xs.length=ys.length):(!xs.isEmpty)=!ys.isEmpty:=by
 cases xs<;>cases ys<;>simp_all
theorem aET{K:PySem.W.Frag}{m:List Addr}{H:Hp}{st st':Sto}{x:V}{d:D}{k:Bool}(S:SR K m H st)(r:RV K m H x d)(e:truD d st=some (k,st')):TruV K x H k∧st'=st:=by
 cases r with
 |no=>cases e;exact⟨rfl,rfl⟩
 |b=>cases e;exact⟨rfl,rfl⟩
 |i=>cases e;exact⟨rfl,rfl⟩
 |s=>obtain⟨h,e⟩:=fG e;cases e;exact⟨⟨h,rfl⟩,rfl⟩
 |ty=>cases e
 |t e1 l _=>cases e;exact⟨.inr (.inl ⟨_,SqT.of e1,(nW l).symm⟩),rfl⟩
 |k e1 l _=>cases e;exact⟨.inr (.inl ⟨_,e1 H,(nW l).symm⟩),rfl⟩
 |f e1 l _=>cases e;exact⟨.inl ⟨_,e1.sq,(nW l).symm⟩,rfl⟩
 |@r l a e1=>
  obtain⟨e,rfl⟩:=vB e
  match hs:st'[l]? with
  |none=>rw[hs] at e;cases e
  |some (.o _ _)=>rw[hs] at e;cases e
  |some (.l xs)=>
   rw[hs] at e
   cases e
   obtain⟨vs,h1,h2⟩:=S.cel l a _ e1 hs
   exact⟨.inl ⟨_,SqL.of h1,(nW h2.1).symm⟩,rfl⟩
  |some (.d xs)=>
   rw[hs] at e
   cases e
   obtain⟨vs,h1,h2,h3⟩:=S.cel l a _ e1 hs
   exact⟨.inr (.inr ⟨_,h1,(nW (by have:=congrArg List.length h2;simpa using this)).symm⟩),rfl⟩
theorem tO(ha:QE X a ta)(he:∀ whole,isTrue a X.env whole=(do let v ← whole;standAt a.pos;holding [v] (truthy v)):=by intro _;rfl):QT X a (fun env=>bnd (ta env) truD):=by
 refine wL (aAE ha he) ?_
 rintro σ H Q ⟨m,env,st,d,st',S,E,e,k⟩
 obtain⟨x,st1,e1,e2⟩:=aJ e
 refine⟨m,env,st,x,st1,S,E,e1,fun v H' m' s S' r=>?_⟩
 obtain⟨h,rfl⟩:=aET S' r e2
 exact⟨d,h,k H' m' s S'⟩
theorem pY(ha:QT X a tc):QW X (.BoolOp .And [a] pos) tc:=aCo ha
theorem nM(ha:QT X a tc):QW X (.BoolOp .Or [a] pos) tc:=aEc ha
theorem oP{rest:List Expr}(ha:QT X a tc)(hb:QW X (.BoolOp .And (b::rest) pos) td):QW X (.BoolOp .And (a::b::rest) pos) (fun env=>bnd (tc env) fun x=>if x=true then td env else ret false):=by
 refine aBd (aEd ha hb) ?_
 rintro σ H Q ⟨m,env,st,d,st',S,E,e,k⟩
 obtain⟨x,st1,e1,e2⟩:=aJ e
 refine⟨m,env,st,x,st1,S,E,e1,fun H' m' s S'=>?_⟩
 cases x with
 |true=>exact⟨m',env,st1,d,st',S',E.stp s,e2,fun H2 m2 s2 S2=>k H2 m2 (s.trans s2) S2⟩
 |false=>cases aP e2;exact k H' m' s S'
theorem qM{rest:List Expr}(ha:QT X a tc)(hb:QW X (.BoolOp .Or (b::rest) pos) td):QW X (.BoolOp .Or (a::b::rest) pos) (fun env=>bnd (tc env) fun x=>if x=true then ret true else td env):=by
 refine aBd (aFW ha hb) ?_
 rintro σ H Q ⟨m,env,st,d,st',S,E,e,k⟩
 obtain⟨x,st1,e1,e2⟩:=aJ e
 refine⟨m,env,st,x,st1,S,E,e1,fun H' m' s S'=>?_⟩
 cases x with
 |false=>exact⟨m',env,st1,d,st',S',E.stp s,e2,fun H2 m2 s2 S2=>k H2 m2 (s.trans s2) S2⟩
 |true=>cases aP e2;exact k H' m' s S'
theorem qN(h:QW X a tc):QT X a tc:=PW.pt h
theorem aEU(ha:QT X a tc):QT X (.UnaryOp .Not a pos) (fun env=>bnd (tc env) fun x=>ret (!x)):=by
 refine wL (aEe ha) ?_
 rintro σ H Q ⟨m,env,st,d,st',S,E,e,k⟩
 obtain⟨x,st1,e1,e2⟩:=aJ e
 cases aP e2
 exact⟨m,env,st,x,_,S,E,e1,fun H' m' s S'=>k H' m' s S'⟩
theorem aEV{op}(h:QE X a ta):QE X (.BoolOp op [a] pos) ta:=aEf h
theorem aBh{rest:List Expr}(ha:QE X a ta)(hb:QE X (.BoolOp .And (b::rest) pos) tb):QE X (.BoolOp .And (a::b::rest) pos) (fun env=>bnd (bnd (ta env) isB) fun x=>if x=true then tb env else ret (.b false)):=by
 refine fV (aEg ha hb) ?_
 rintro σ H Q ⟨m,env,st,d,st',S,E,e,k⟩
 obtain⟨x,st1,e1,e2⟩:=aJ e
 obtain⟨y,st2,e3,e4⟩:=aJ e1
 obtain⟨rfl,rfl⟩:=vC e4
 refine⟨m,env,st, .b x,_,S,E,e3,fun v H' m' s S' r=>?_⟩
 cases r
 refine⟨x,rfl,?_⟩
 cases x with
 |true=>exact⟨m',env,st1,d,st',S',E.stp s,e2,fun v H2 m2 s2 S2=>k v H2 m2 (s.trans s2) S2⟩
 |false=>cases aP e2;exact k _ H' m' s S' (.b _)
theorem vE(hc:QT X c tc)(ha:QE X a ta)(hb:QE X b tb):QE X (.IfExp c a b pos) (fun env=>bnd (tc env) fun x=>if x=true then ta env else tb env):=by
 refine fV (aAz hc ha hb) ?_
 rintro σ H Q ⟨m,env,st,d,st',S,E,e,k⟩
 obtain⟨x,st1,e1,e2⟩:=aJ e
 refine⟨m,env,st,x,st1,S,E,e1,fun H' m' s S'=>?_⟩
 cases x with
 |true=>exact⟨m',env,st1,d,st',S',E.stp s,e2,fun v H2 m2 s2 S2=>k v H2 m2 (s.trans s2) S2⟩
 |false=>exact⟨m',env,st1,d,st',S',E.stp s,e2,fun v H2 m2 s2 S2=>k v H2 m2 (s.trans s2) S2⟩
theorem vF{op:UnaryOp}{f:D→M D}(ho:UnR X (unaryOp op) (LU X.K f))(ha:QE X a ta):QE X (.UnaryOp op a pos) (fun env=>bnd (ta env) f):=by
 refine fV (aFZ ho ha) ?_
 rintro σ H Q ⟨m,env,st,d,st',S,E,e,k⟩
 obtain⟨x,st1,e1,e2⟩:=aJ e
 exact⟨m,env,st,x,st1,S,E,e1,fun v H' m' s S' r=>⟨m',st1,x,d,st',S',r,e2,fun v2 H2 m2 s2 S2=>k v2 H2 m2 (s.trans s2) S2⟩⟩
theorem aB:QA X [] (fun _=>ret []):=by
 refine aBe aEv ?_
 rintro σ H Q ⟨m,env,st,d,st',S,E,e,k⟩
 cases aP e
 exact k [] H m .refl S .nil
theorem aA{es:List Expr}{t:En→M (List D)}(ha:QE X a ta)(hr:QA X es t)(hs:starEach (a::es) X.env=(false,eval a X.env)::starEach es X.env:=by rfl):QA X (a::es) (fun env=>bnd (ta env) fun x=>bnd (t env) fun xs=>ret (x::xs)):=by
 refine aBe (aCy ha hr hs) ?_
 rintro σ H Q ⟨m,env,st,d,st',S,E,e,k⟩
 obtain⟨x,st1,e1,e2⟩:=aJ e
 obtain⟨y,st2,e3,e4⟩:=aJ e2
 cases aP e4
 exact⟨m,env,st,x,st1,S,E,e1,fun v1 H1 m1 s1 S1 r1=>⟨m1,env,st1,y,_,S1,E.stp s1,e3,fun v2 H2 m2 s2 S2 r2=>k _ H2 m2 (s1.trans s2) S2 (.cons (r1.stp s2) r2)⟩⟩
theorem aQ{es:List Expr}{t:En→M (List D)}{x1}(h:QA X es t):QE X (.Tuple es x1 pos) (fun env=>bnd (t env) fun xs=>need (xs.length≤sizeLine) (ret (.t xs))):=by
 refine fV (aEw h) ?_
 rintro σ H Q ⟨m,env,st,d,st',S,E,e,k⟩
 obtain⟨x,st1,e1,e2⟩:=aJ e
 obtain⟨hl,e2⟩:=fG e2
 cases aP e2
 refine⟨m,env,st,x,_,S,E,e1,fun vs H' m' s S' r=>⟨by rw[r.1];exact hl,fun p hp=>?_⟩⟩
 obtain⟨S2,s2,r2⟩:=S'.newT hp r
 exact k _ _ _ (s.trans s2) S2 r2
noncomputable def newL(xs:List D):M D:=fun st=>if xs.length≤sizeLine then some (.r st.length,st++[.l xs]) else none
theorem oQ{xs:List D}{st st':Sto}{d:D}(h:newL xs st=some (d,st')):xs.length≤sizeLine∧d=.r st.length∧st'=st++[.l xs]:=by
 unfold newL at h
 split at h
 ·cases h;exact⟨by assumption,rfl,rfl⟩
 ·cases h
theorem eQ{es:List Expr}{t:En→M (List D)}(h:QA X es t):QE X (.List es pos) (fun env=>bnd (t env) newL):=by
 refine fV (aEx h) ?_
 rintro σ H Q ⟨m,env,st,d,st',S,E,e,k⟩
 obtain⟨x,st1,e1,e2⟩:=aJ e
 obtain⟨hl,rfl,rfl⟩:=oQ e2
 refine⟨m,env,st,x,_,S,E,e1,fun vs H' m' s S' r=>⟨by rw[r.1];exact hl,fun p hp=>?_⟩⟩
 obtain⟨S2,s2,r2⟩:=S'.newL hp r
 exact k _ _ _ (s.trans s2) S2 r2
theorem tP{K:PySem.W.Frag}{t:En→M (List D)}{f:List D→M D}{σ:St}{H:Hp}{Q:VK}(h:LE K (fun env=>bnd (t env) f) σ H Q):LA K t σ H fun vs H1=>LC K f vs H1 Q:=by
 obtain⟨m,env,st,d,st',S,E,e,k⟩:=h
 obtain⟨x,st1,e1,e2⟩:=aJ e
 exact⟨m,env,st,x,st1,S,E,e1,fun vs H' m' s S' r=>⟨m',st1,x,d,st',S',r,e2,fun v H2 m2 s2 S2=>k v H2 m2 (s.trans s2) S2⟩⟩
theorem aH{CX:CXT}{k:Nat}{f:Addr}{fd:FuncData}{ps:List Str}{x:Str}{p:Pos}{es:List Expr}{E:XK}{t:En→M (List D)}{g:List D→M D}(F:FnOk X.prog X.w X.K X.mg X.base CX k f fd ps (LF X.K g))(hr:Room k X.A)(hg:Gl X x)(hm:X.mg x=some (.ref f))(hk:PySem.W.keepIn X.K (.ref f)=true)(hb:Binds X.K fd ps [])(hx:Passes CX X E)
  (ha:QA X (a::es) t)(hdb:(x==("__debug__":Str))=false:=by decide)(he:starEach (a::es) X.env=(false,eval a X.env)::starEach es X.env:=by rfl)(hpl:(backTo pos (starEach es X.env)).any (·.1)=false:=by rfl):
  QE X (.Call (.Name x p) (a::es) [] pos) (fun env=>bnd (t env) g):=by
 refine fV (aCz F hr hg hm hk hb .nil hx ha hdb he hpl) ?_
 intro σ H Q h
 have:=tP h
 obtain⟨m,env,st,d,st',S,E,e,k⟩:=this
 exact⟨m,env,st,d,st',S,E,e,fun vs H' m' s S' r=>by show LF X.K g (vs++[]) H' Q _;rw[List.append_nil];exact k vs H' m' s S' r⟩
theorem eG{es:List Expr}{t:En→M (List D)}{g:List D→M D}{id:String}{x:Str}{p:Pos}(hc:CallR X (.builtin id) (LC X.K g))(hg:Gl X x)(hm:X.mg x=none)(hv:bootBuiltins x=some (.builtin id))(ha:QA X (a::es) t)(hn:x≠"__name__":=by decide)(hdb:(x==("__debug__":Str))=false:=by decide)
  (he:starEach (a::es) X.env=(false,eval a X.env)::starEach es X.env:=by rfl)(hpl:(backTo pos (starEach es X.env)).any (·.1)=false:=by rfl):
  QE X (.Call (.Name x p) (a::es) [] pos) (fun env=>bnd (t env) g):=fV (aAH hc hg hm hv ha hn hdb he hpl) fun _ _ _ h=>tP h
theorem eF{es:List Expr}{t:En→M (List D)}{g:List D→M D}{T:String}{x:Str}{p:Pos}(hc:CallR X (.type T) (LC X.K g))(hg:Gl X x)(hm:X.mg x=none)(hv:bootBuiltins x=some (.type T))(ha:QA X (a::es) t)(hn:x≠"__name__":=by decide)(hdb:(x==("__debug__":Str))=false:=by decide)
  (he:starEach (a::es) X.env=(false,eval a X.env)::starEach es X.env:=by rfl)(hpl:(backTo pos (starEach es X.env)).any (·.1)=false:=by rfl):
  QE X (.Call (.Name x p) (a::es) [] pos) (fun env=>bnd (t env) g):=fV (zQ hc hg hm hv ha hn hdb he hpl) fun _ _ _ h=>tP h
end
end L2
end
section
namespace L2
open PySem PySem.Spec PyProof.Rows
noncomputable def lsc(st:Sto)(l:Nat):Option (List D):=match st[l]? with
 |some (.l xs)=>some xs
 |_=>none
theorem kI{st:Sto}{l:Nat}{xs:List D}(h:lsc st l=some xs):st[l]?=some (.l xs):=by
 unfold lsc at h
 split at h
 ·cases h;assumption
 ·cases h
theorem kS{st:Sto}{l:Nat}{xs:List D}(h:st[l]?=some (.l xs)):lsc st l=some xs:=by unfold lsc;rw[h]
noncomputable def getL(l:Nat):M (List D):=fun st=>match lsc st l with
 |some xs=>some (xs,st)
 |none=>none
theorem hU{st st':Sto}{l:Nat}{xs:List D}(h:getL l st=some (xs,st')):st[l]?=some (.l xs)∧st'=st:=by
 unfold getL at h
 split at h
 ·rename_i h2;cases h;exact⟨kI h2,rfl⟩
 ·cases h
theorem jY{st:Sto}{l:Nat}{xs:List D}(h:st[l]?=some (.l xs)):getL l st=some (xs,st):=by unfold getL;rw[kS h]
noncomputable def addD:D→D→M D
 | .i a, .i b=>ret (.i (a+b))
 | .s a, .s b=>need (a.length+b.length≤sizeLine) (ret (.s (a++b)))
 | .t a, .t b=>need (a.length+b.length≤sizeLine) (ret (.t (a++b)))
 | .r a, .r b=>bnd (getL a) fun xs=>bnd (getL b) fun ys=>newL (xs++ys)
 |_,_=>bad
section
variable{X:Cx}
theorem cO:OpR X (binaryOp .Add) (LR X.K addD):=by
 refine(aEo.or (wB.or (aCL.or aEG))).imp ?_
 rintro x y H Q ⟨m,st,dx,dy,d,st',S,rx,ry,e,k⟩
 match dx,dy,rx,ry,e with
 | .i a, .i b, .i _, .i _,e=>cases aP e;exact .inl ⟨_,_,rfl,rfl,k.now S (.i _)⟩
 | .s a, .s b, .s _, .s _,e=>obtain⟨h,e⟩:=fG e;cases aP e;exact .inr (.inl ⟨_,_,rfl,rfl,h,k.now S (.s _)⟩)
 | .t a, .t b, .t ea la ha, .t eb lb hb,e=>
  obtain⟨h,e⟩:=fG e
  cases aP e
  refine .inr (.inr (.inl ⟨_,_,_,_,rfl,rfl,ea,eb,by rw[la,lb];exact h,fun p H' ep sm=>?_⟩))
  obtain⟨S2,s2⟩:=S.same sm
  have rr:=(RVs.append ⟨la,ha⟩ ⟨lb,hb⟩).stp s2
  exact k _ _ _ s2 S2 (.t ep rr.1 rr.2)
 | .r a, .r b,rx,ry,e=>
  obtain⟨xs,st1,e1,e2⟩:=aJ e
  obtain⟨h1,rfl⟩:=hU e1
  obtain⟨ys,st2,e3,e4⟩:=aJ e2
  obtain⟨h2,rfl⟩:=hU e3
  obtain⟨hl,rfl,rfl⟩:=oQ e4
  obtain⟨pa,vs,rfl,ma,oa,ra⟩:=S.lst rx h1
  obtain⟨pb,ws,rfl,mb,ob,rb⟩:=S.lst ry h2
  refine .inr (.inr (.inr ⟨pa,pb,vs,ws,rfl,rfl,oa,ob,by rw[ra.1,rb.1,← List.length_append];exact hl,fun p hp=>?_⟩))
  obtain⟨S2,s2,r2⟩:=S.newL hp (ra.append rb)
  exact k _ _ _ s2 S2 r2
noncomputable def intD(C:Int→Int→Prop)[∀ i j,Decidable (C i j)](g:Int→Int→D):D→D→M D
 | .i a, .i b=>need (C a b) (ret (g a b))
 |_,_=>bad
theorem wN{f:Value→Value→Sem Value}{C:Int→Int→Prop}[∀ i j,Decidable (C i j)]{g:Int→Int→V}{g':Int→Int→D}(ho:OpR X f (rI C g))(hg:∀ m H i j,RV X.K m H (g i j) (g' i j)):OpR X f (LR X.K (intD C g')):=by
 refine ho.imp ?_
 rintro x y H Q ⟨m,st,dx,dy,d,st',S,rx,ry,e,k⟩
 match dx,dy,rx,ry,e with
 | .i a, .i b, .i _, .i _,e=>obtain⟨h,e⟩:=fG e;cases aP e;exact⟨_,_,rfl,rfl,h,k.now S (hg ..)⟩
noncomputable def int0(g:Int→Int→D):D→D→M D
 | .i a, .i b=>ret (g a b)
 |_,_=>bad
theorem pZ{f:Value→Value→Sem Value}{g:Int→Int→V}{g':Int→Int→D}(ho:OpR X f (rI0 g))(hg:∀ m H i j,RV X.K m H (g i j) (g' i j)):OpR X f (LR X.K (int0 g')):=by
 refine ho.imp ?_
 rintro x y H Q ⟨m,st,dx,dy,d,st',S,rx,ry,e,k⟩
 match dx,dy,rx,ry,e with
 | .i a, .i b, .i _, .i _,e=>cases aP e;exact⟨_,_,rfl,rfl,k.now S (hg ..)⟩
instance (i j:Int):Decidable (CDiv i j):=inferInstanceAs (Decidable (_∧_))
instance (i j:Int):Decidable (CPow i j):=inferInstanceAs (Decidable (_∧_∧_))
instance (i j:Int):Decidable (CMul i j):=inferInstanceAs (Decidable (_∨_))
noncomputable def subD:D→D→M D:=int0 fun i j=>.i (i - j)
noncomputable def fdivD:D→D→M D:=intD CDiv fun i j=>.i (i / j)
noncomputable def modD:D→D→M D:=intD (fun _ j=>0<j) fun i j=>.i (i % j)
noncomputable def powD:D→D→M D:=intD CPow fun i j=>.i (i ^ j.toNat)
noncomputable def ltD:D→D→M D:=int0 fun i j=>.b (decide (i<j))
noncomputable def leD:D→D→M D:=int0 fun i j=>.b (decide (i≤j))
noncomputable def gtD:D→D→M D:=int0 fun i j=>.b (decide (j<i))
theorem nN:OpR X (binaryOp .Sub) (LR X.K subD):=pZ aEp fun _ _ _ _=>.i _
theorem yA:OpR X (binaryOp .FloorDiv) (LR X.K fdivD):=wN aCt fun _ _ _ _=>.i _
theorem lX:OpR X (binaryOp .Mod) (LR X.K modD):=wN aEr fun _ _ _ _=>.i _
theorem aEW:OpR X (binaryOp .Pow) (LR X.K powD):=wN aEs fun _ _ _ _=>.i _
theorem aDM:OpR X (compareOp .Lt) (LR X.K ltD):=pZ aGa fun _ _ _ _=>.b _
theorem aDN:OpR X (compareOp .LtE) (LR X.K leD):=pZ aGb fun _ _ _ _=>.b _
theorem aDO:OpR X (compareOp .Gt) (LR X.K gtD):=pZ aGc fun _ _ _ _=>.b _
noncomputable def mulD:D→D→M D
 | .i a, .i b=>need (CMul a b) (ret (.i (a * b)))
 | .r l, .i n=>bnd (getL l) fun xs=>need (-(2 ^ 63)≤n∧n<2 ^ 63) (newL (List.replicate n.toNat xs).flatten)
 |_,_=>bad
theorem RVs.rep{K:PySem.W.Frag}{m:List Addr}{H:Hp}{vs:List V}{ds:List D}(h:RVs K m H vs ds):∀ k:Nat,RVs K m H (List.replicate k vs).flatten (List.replicate k ds).flatten
 |0=>.nil
 |k+1=>by rw[List.replicate_succ,List.replicate_succ,List.flatten_cons,List.flatten_cons];exact h.append (h.rep k)
theorem lY:OpR X (binaryOp .Mult) (LR X.K mulD):=by
 refine(aEq.or aEH).imp ?_
 rintro x y H Q ⟨m,st,dx,dy,d,st',S,rx,ry,e,k⟩
 match dx,dy,rx,ry,e with
 | .i a, .i b, .i _, .i _,e=>obtain⟨h,e⟩:=fG e;cases aP e;exact .inl ⟨_,_,rfl,rfl,h,k.now S (.i _)⟩
 | .r l, .i n,rx, .i _,e=>
  obtain⟨xs,st1,e1,e2⟩:=aJ e
  obtain⟨h1,rfl⟩:=hU e1
  obtain⟨hn,e3⟩:=fG e2
  obtain⟨hl,rfl,rfl⟩:=oQ e3
  obtain⟨pa,vs,rfl,ma,oa,ra⟩:=S.lst rx h1
  refine .inr ⟨pa,n,vs,rfl,rfl,oa,hn.1,hn.2,?_,fun p hp=>?_⟩
  ·rw[len_rep] at hl;rw[ra.1,Nat.mul_comm];exact hl
  ·obtain⟨S2,s2,r2⟩:=S.newL hp (ra.rep n.toNat)
   exact k _ _ _ s2 S2 r2
noncomputable def negD:D→M D
 | .i a=>ret (.i (-a))
 |_=>bad
theorem qO:UnR X (unaryOp .USub) (LU X.K negD):=by
 refine aEt.imp ?_
 rintro x H Q ⟨m,st,dx,d,st',S,rx,e,k⟩
 match dx,rx,e with
 | .i a, .i _,e=>cases aP e;exact⟨_,rfl,k.now S (.i _)⟩
noncomputable def flD:D→Option V
 | .no=>some .non
 | .b x=>some (.bl x)
 | .i n=>some (.int n)
 | .s x=>some (.str x)
 |_=>none
theorem kT{K:PySem.W.Frag}{m:List Addr}{H:Hp}{v w:V}{d:D}(r:RV K m H v d)(h:flD d=some w):v=w:=by
 cases r<;>first|(cases h;rfl)|cases h
theorem kJ{d:D}{w:V}(h:flD d=some w):flatV w=true:=by
 cases d<;>first|(cases h;rfl)|cases h
noncomputable def deqL(f:D→D→Option Bool):List D→List D→Option Bool
 |x::xs,y::ys=>match f x y,deqL f xs ys with
  |some a,some b=>some (a&&b)
  |_,_=>none
 |[],[]=>some true
 |_,_=>some false
theorem qP{f:D→D→Option Bool}:∀ {xs ys:List D} {b:Bool},deqL f xs ys=some b→∃ e:Nat→Bool,(∀ (j:Nat) x y,xs[j]?=some x→ys[j]?=some y→f x y=some (e j))∧b=((List.range (min xs.length ys.length)).all e&&xs.length==ys.length)
 |[],[],b,h=>by cases h;exact⟨fun _=>true,fun j x y h=>by simp at h,by simp⟩
 |x::xs,[],b,h=>by cases h;exact⟨fun _=>true,fun j x y _ h=>by simp at h,by simp⟩
 |[],y::ys,b,h=>by cases h;exact⟨fun _=>true,fun j x y h=>by simp at h,by simp⟩
 |x::xs,y::ys,b,h=>by
  rw[deqL] at h
  cases q1:f x y with
  |none=>rw[q1] at h;cases h
  |some a=>
   cases q2:deqL f xs ys with
   |none=>rw[q1,q2] at h;cases h
   |some c=>
    rw[q1,q2] at h
    cases h
    obtain⟨e,h1,h2⟩:=qP q2
    refine⟨fun j=>match j with |0=>a|j+1=>e j,fun j x' y' a1 a2=>?_,?_⟩
    ·cases j with
     |zero=>cases a1;cases a2;exact q1
     |succ j=>exact h1 j x' y' (by simpa using a1) (by simpa using a2)
    ·rw[List.length_cons,List.length_cons,Nat.succ_min_succ,List.range_succ_eq_map,List.all_cons,List.all_map,h2]
     have e':(xs.length+1==ys.length+1)=(xs.length==ys.length):=by simp
     rw[e',Bool.and_assoc]
     rfl
noncomputable def flq(x y:D):Option Bool:=match flD x,flD y with
 |some a,some b=>some (eqV a b)
 |some _,none=>match y with
  | .t _=>some false
  |_=>none
 |none,some _=>match x with
  | .t _=>some false
  |_=>none
 |none,none=>none
noncomputable def deq:Nat→Sto→D→D→Option Bool
 |0,_,x,y=>flq x y
 |n+1,st,x,y=>match x,y with
  | .t xs, .t ys=>deqL (deq n st) xs ys
  | .r a, .r b=>match lsc st a,lsc st b with
   |some xs,some ys=>deqL (deq n st) xs ys
   |_,_=>none
  |x,y=>flq x y
theorem aBi{v:V}(h:flatV v=true):eqV v v=true:=by
 cases v<;>first|rfl|(simp[eqV];done)|cases h
section
variable{K:PySem.W.Frag}{m:List Addr}{H:Hp}{st:Sto}
theorem eX{v:V}{x y:D}{b:Bool}(r1:RV K m H v x)(r2:RV K m H v y)(h:flq x y=some b):b=true:=by
 unfold flq at h
 cases q1:flD x with
 |some a=>
  cases q2:flD y with
  |some c=>
   rw[q1,q2] at h
   cases h
   rw[← kT r1 q1,← kT r2 q2]
   exact aBi (by rw[kT r1 q1];exact kJ q1)
  |none=>
   rw[q1,q2] at h
   have e:=kT r1 q1
   cases r2<;>first|(cases h;done)|(subst e;cases r1<;>cases q1)
 |none=>
  cases q2:flD y with
  |some c=>
   rw[q1,q2] at h
   have e:=kT r2 q2
   cases r1<;>first|(cases h;done)|(subst e;cases r2<;>cases q2)
  |none=>rw[q1,q2] at h;cases h
theorem all_true{e:Nat→Bool}{n:Nat}(h:∀ j,j<n→e j=true):(List.range n).all e=true:=by
 rw[List.all_eq_true]
 intro j hj
 exact h j (List.mem_range.mp hj)
theorem vG(S:SR K m H st):∀ {n:Nat} {v:V} {x y:D} {b:Bool},RV K m H v x→RV K m H v y→deq n st x y=some b→b=true:=by
 intro n
 induction n with
 |zero=>intro v x y b r1 r2 h;exact eX r1 r2 h
 |succ n ih=>
  intro v x y b r1 r2 h
  have seq:∀ {vs:List V} {xs ys:List D},RVs K m H vs xs→RVs K m H vs ys→deqL (deq n st) xs ys=some b→b=true:=by
   intro vs xs ys h1 h2 h
   obtain⟨e,h3,rfl⟩:=qP h
   have hl:xs.length=ys.length:=h1.1.symm.trans h2.1
   rw[hl,Nat.min_self,all_true fun j hj=>?_]
   ·simp
   ·have hx:j<xs.length:=by omega
    have hv:j<vs.length:=by rw[h1.1];exact hx
    exact ih (h1.2 j vs[j] xs[j] (by simp[hv]) (by simp[hx])) (h2.2 j vs[j] ys[j] (by simp[hv]) (by simp[hj])) (h3 j xs[j] ys[j] (by simp[hx]) (by simp[hj]))
  cases r1 with
  |@t a vs ds e1 l1 h1=>
   cases r2 with
   |@t _ vs' ds' e2 l2 h2=>
    rw[e1] at e2;cases e2
    exact seq ⟨l1,h1⟩ ⟨l2,h2⟩ h
   |k=>exact eX (.t e1 l1 h1) (.k (by assumption) (by assumption) (by assumption)) h
   |f=>exact eX (.t e1 l1 h1) (.f (by assumption) (by assumption) (by assumption)) h
   |r=>exact eX (.t e1 l1 h1) (.r (by assumption)) h
  |@r l a e1=>
   cases r2 with
   |@r l' _ e2=>
    have hl:l=l':=(List.getElem?_inj (List.getElem?_eq_some_iff.mp e1).1 S.nd).mp (e1.trans e2.symm)
    subst hl
    rw[deq] at h
    cases q:lsc st l with
    |none=>rw[q] at h;cases h
    |some xs=>
     rw[q] at h
     obtain⟨vs,_,hv⟩:=S.cel l a _ e1 (kI q)
     exact seq hv hv h
   |k=>exact eX (.r e1) (.k (by assumption) (by assumption) (by assumption)) h
   |f=>exact eX (.r e1) (.f (by assumption) (by assumption) (by assumption)) h
   |t=>exact eX (.r e1) (.t (by assumption) (by assumption) (by assumption)) h
  |no=>cases r2<;>exact eX (.no (K:=K) (m:=m) (H:=H)) (.no) h
  |b x=>cases r2;exact eX (.b (K:=K) (m:=m) (H:=H) x) (.b x) h
  |i x=>cases r2;exact eX (.i (K:=K) (m:=m) (H:=H) x) (.i x) h
  |s x=>cases r2;exact eX (.s (K:=K) (m:=m) (H:=H) x) (.s x) h
  |ty x=>cases r2;cases h
  |@k a vs ds e1 l1 h1=>cases r2<;>first|exact eX (.k e1 l1 h1) (.k (by assumption) (by assumption) (by assumption)) h|exact eX (.k e1 l1 h1) (.t (by assumption) (by assumption) (by assumption)) h|exact eX (.k e1 l1 h1) (.f (by assumption) (by assumption) (by assumption)) h|exact eX (.k e1 l1 h1) (.r (by assumption)) h
  |@f a vs ds e1 l1 h1=>cases r2<;>first|exact eX (.f e1 l1 h1) (.k (by assumption) (by assumption) (by assumption)) h|exact eX (.f e1 l1 h1) (.t (by assumption) (by assumption) (by assumption)) h|exact eX (.f e1 l1 h1) (.f (by assumption) (by assumption) (by assumption)) h|exact eX (.f e1 l1 h1) (.r (by assumption)) h
end
section
variable{m:List Addr}{H:Hp}{st:Sto}{pins:List (Addr×Obj)}{σ:St}{s:Shared}
inductive EqW (A:Around) (s:Shared):Value→Value→Bool→Prop where
 |flat {a b:V} {u v:Value}:RelV a u→RelV b v→flatV a=true→flatV b=true→EqW A s u v (eqV a b)
 |ft {a:V} {u:Value} {l:Addr} {items:Array Value}:RelV a u→flatV a=true→IsTup s.heap l items→EqW A s u (.ref l) false
 |tf {a:V} {u:Value} {l:Addr} {items:Array Value}:RelV a u→flatV a=true→IsTup s.heap l items→EqW A s (.ref l) u false
 |tt {l b:Addr} {i1 i2:Array Value} {e:Nat→Bool} {k:Bool}:(l=b→k=true)→IsTup s.heap l i1→IsTup s.heap b i2→(∀ j (h1:j<i1.size) (h2:j<i2.size),SeqAt.EqAt A.in1 s i1[j] i2[j] (e j))→k=((List.range (min i1.size i2.size)).all e&&i1.size==i2.size)→EqW A s (.ref l) (.ref b) k
 |ll {l b:Addr} {i1 i2:Array Value} {e:Nat→Bool} {k:Bool}:(l=b→k=true)→s.heap.IsList l i1→s.heap.IsList b i2→(∀ j (h1:j<i1.size) (h2:j<i2.size),SeqAt.EqAt A.in1 s i1[j] i2[j] (e j))→k=((List.range (min i1.size i2.size)).all e&&i1.size==i2.size)→EqW A s (.ref l) (.ref b) k
theorem EqW.eqAt{A:Around}{u v:Value}{b:Bool}(hu:A.units<cLine)(h:EqW A s u v b):SeqAt.EqAt A s u v b:=by
 cases h with
 |flat r1 r2 f1 f2=>exact aAL r1 r2 f1 f2
 |@ft a u l items r f t=>
  cases a with
  |non=>cases r;exact SeqAt.EqAt.none_tuple t hu
  |bl=>cases r;exact SeqAt.EqAt.bool_tuple _ t hu
  |int=>obtain⟨t',rfl⟩:=r;exact SeqAt.EqAt.int_tuple _ _ t hu
  |str=>obtain⟨t',rfl⟩:=r;exact SeqAt.EqAt.str_tuple _ _ t hu
  |_=>cases f
 |@tf a u l items r f t=>
  cases a with
  |non=>cases r;exact SeqAt.EqAt.tuple_none t hu
  |bl=>cases r;exact SeqAt.EqAt.tuple_bool _ t hu
  |int=>obtain⟨t',rfl⟩:=r;exact SeqAt.EqAt.tuple_int _ _ t hu
  |str=>obtain⟨t',rfl⟩:=r;exact SeqAt.EqAt.tuple_str _ _ t hu
  |_=>cases f
 |@tt l b i1 i2 e k hs t1 t2 he hk=>
  by_cases hab:l=b
  ·subst hab;rw[hs rfl];exact SeqAt.EqAt.same _
  ·rw[hk];exact SeqAt.EqAt.of_refs hab (SeqAt.RcAt.tuples t1 t2 hu he)
 |@ll l b i1 i2 e k hs t1 t2 he hk=>
  by_cases hab:l=b
  ·subst hab;rw[hs rfl];exact SeqAt.EqAt.same _
  ·by_cases hsz:i1.size=i2.size
   ·have:=SeqAt.EqAt.of_refs hab (SeqAt.RcAt.lists t1 t2 hsz hu he)
    rw[hk,← hsz,Nat.min_self,beq_self_eq_true,Bool.and_true]
    exact this
   ·rw[hk,show((List.range (min i1.size i2.size)).all e&&i1.size==i2.size)=false by simp[hsz]]
    exact SeqAt.EqAt.of_refs hab (SeqAt.RcAt.lists_lengths t1 t2 (by simpa using hsz) hu)
theorem EqW.rc{A:Around}{u v:Value}{b:Bool}(hu:A.units<cLine)(h:EqW A s u v b):SeqAt.RcAt A s u v b:=by
 cases h with
 |@flat a b u v r1 r2 f1 f2=>
  cases a with
  |non=>
   cases r1
   cases b with
   |non=>cases r2;exact SeqAt.RcAt.none_none
   |bl=>cases r2;exact SeqAt.RcAt.none_bool _
   |int=>obtain⟨t',rfl⟩:=r2;exact SeqAt.RcAt.none_int _ _
   |str=>obtain⟨t',rfl⟩:=r2;exact SeqAt.RcAt.none_str _ _
   |_=>cases f2
  |bl=>
   cases r1
   cases b with
   |non=>cases r2;exact SeqAt.RcAt.bool_none _
   |bl=>cases r2;exact SeqAt.RcAt.bool_bool _ _
   |int=>obtain⟨t',rfl⟩:=r2;exact SeqAt.RcAt.bool_int _ _ _
   |str=>obtain⟨t',rfl⟩:=r2;exact SeqAt.RcAt.bool_str _ _ _
   |_=>cases f2
  |int=>
   obtain⟨t,rfl⟩:=r1
   cases b with
   |non=>cases r2;exact SeqAt.RcAt.int_none _ _
   |bl=>cases r2;exact SeqAt.RcAt.int_bool _ _ _
   |int=>obtain⟨t',rfl⟩:=r2;exact SeqAt.RcAt.int_int _ _ _ _
   |str=>obtain⟨t',rfl⟩:=r2;exact SeqAt.RcAt.int_str _ _ _ _
   |_=>cases f2
  |str=>
   obtain⟨t,rfl⟩:=r1
   cases b with
   |non=>cases r2;exact SeqAt.RcAt.str_none _ _
   |bl=>cases r2;exact SeqAt.RcAt.str_bool _ _ _
   |int=>obtain⟨t',rfl⟩:=r2;exact SeqAt.RcAt.str_int _ _ _ _
   |str=>obtain⟨t',rfl⟩:=r2;exact SeqAt.RcAt.str_str _ _ _ _
   |_=>cases f2
  |_=>cases f1
 |@ft a u l items r f t=>
  cases a with
  |non=>cases r;exact SeqAt.RcAt.none_tuple t hu
  |bl=>cases r;exact SeqAt.RcAt.bool_tuple _ t hu
  |int=>obtain⟨t',rfl⟩:=r;exact SeqAt.RcAt.int_tuple _ _ t hu
  |str=>obtain⟨t',rfl⟩:=r;exact SeqAt.RcAt.str_tuple _ _ t hu
  |_=>cases f
 |@tf a u l items r f t=>
  cases a with
  |non=>cases r;exact SeqAt.RcAt.tuple_none t hu
  |bl=>cases r;exact SeqAt.RcAt.tuple_bool _ t hu
  |int=>obtain⟨t',rfl⟩:=r;exact SeqAt.RcAt.tuple_int _ _ t hu
  |str=>obtain⟨t',rfl⟩:=r;exact SeqAt.RcAt.tuple_str _ _ t hu
  |_=>cases f
 |@tt l b i1 i2 e k hs t1 t2 he hk=>rw[hk];exact SeqAt.RcAt.tuples t1 t2 hu he
 |@ll l b i1 i2 e k hs t1 t2 he hk=>
  by_cases hsz:i1.size=i2.size
  ·have:=SeqAt.RcAt.lists t1 t2 hsz hu he
   rw[hk,← hsz,Nat.min_self,beq_self_eq_true,Bool.and_true]
   exact this
  ·rw[hk,show((List.range (min i1.size i2.size)).all e&&i1.size==i2.size)=false by simp[hsz]]
   exact SeqAt.RcAt.lists_lengths t1 t2 (by simpa using hsz) hu
theorem EqW.ne{A:Around}{u v:Value}{b:Bool}(hu:A.units<cLine)(h:EqW A s u v b):SeqAt.RcNeAt A s u v (!b):=by
 cases h with
 |@flat a b u v r1 r2 f1 f2=>
  cases a with
  |non=>
   cases r1
   cases b with
   |non=>cases r2;exact SeqAt.RcNeAt.none_none
   |bl=>cases r2;exact SeqAt.RcNeAt.none_bool _
   |int=>obtain⟨t',rfl⟩:=r2;exact SeqAt.RcNeAt.none_int _ _
   |str=>obtain⟨t',rfl⟩:=r2;exact SeqAt.RcNeAt.none_str _ _
   |_=>cases f2
  |bl=>
   cases r1
   cases b with
   |non=>cases r2;exact SeqAt.RcNeAt.bool_none _
   |bl=>cases r2;exact SeqAt.RcNeAt.bool_bool _ _
   |int=>obtain⟨t',rfl⟩:=r2;exact SeqAt.RcNeAt.bool_int _ _ _
   |str=>obtain⟨t',rfl⟩:=r2;exact SeqAt.RcNeAt.bool_str _ _ _
   |_=>cases f2
  |int=>
   obtain⟨t,rfl⟩:=r1
   cases b with
   |non=>cases r2;exact SeqAt.RcNeAt.int_none _ _
   |bl=>cases r2;exact SeqAt.RcNeAt.int_bool _ _ _
   |int=>obtain⟨t',rfl⟩:=r2;exact SeqAt.RcNeAt.int_int _ _ _ _
   |str=>obtain⟨t',rfl⟩:=r2;exact SeqAt.RcNeAt.int_str _ _ _ _
   |_=>cases f2
  |str=>
   obtain⟨t,rfl⟩:=r1
   cases b with
   |non=>cases r2;exact SeqAt.RcNeAt.str_none _ _
   |bl=>cases r2;exact SeqAt.RcNeAt.str_bool _ _ _
   |int=>obtain⟨t',rfl⟩:=r2;exact SeqAt.RcNeAt.str_int _ _ _ _
   |str=>obtain⟨t',rfl⟩:=r2;exact SeqAt.RcNeAt.str_str _ _ _ _
   |_=>cases f2
  |_=>cases f1
 |@ft a u l items r f t=>
  cases a with
  |non=>cases r;exact SeqAt.RcNeAt.none_tuple t hu
  |bl=>cases r;exact SeqAt.RcNeAt.bool_tuple _ t hu
  |int=>obtain⟨t',rfl⟩:=r;exact SeqAt.RcNeAt.int_tuple _ _ t hu
  |str=>obtain⟨t',rfl⟩:=r;exact SeqAt.RcNeAt.str_tuple _ _ t hu
  |_=>cases f
 |@tf a u l items r f t=>
  cases a with
  |non=>cases r;exact SeqAt.RcNeAt.tuple_none t hu
  |bl=>cases r;exact SeqAt.RcNeAt.tuple_bool _ t hu
  |int=>obtain⟨t',rfl⟩:=r;exact SeqAt.RcNeAt.tuple_int _ _ t hu
  |str=>obtain⟨t',rfl⟩:=r;exact SeqAt.RcNeAt.tuple_str _ _ t hu
  |_=>cases f
 |@tt l b i1 i2 e k hs t1 t2 he hk=>rw[hk];exact SeqAt.RcNeAt.tuples t1 t2 hu he
 |@ll l b i1 i2 e k hs t1 t2 he hk=>
  by_cases hsz:i1.size=i2.size
  ·have:=SeqAt.RcNeAt.lists t1 t2 hsz hu he
   rw[hk,← hsz,Nat.min_self,beq_self_eq_true,Bool.and_true]
   exact this
  ·rw[hk,show((List.range (min i1.size i2.size)).all e&&i1.size==i2.size)=false by simp[hsz]]
   exact SeqAt.RcNeAt.lists_lengths t1 t2 (by simpa using hsz) hu
theorem kK{A:Around}{x y:V}{d e:D}{b:Bool}{u v:Value}(I:Inv X pins σ H s)(r1:RV X.K m H x d)(r2:RV X.K m H y e)(h:flq d e=some b)(ru:RelV x u)(rv:RelV y v):EqW A s u v b:=by
 unfold flq at h
 cases q1:flD d with
 |some a=>
  have e1:=kT r1 q1
  subst e1
  cases q2:flD e with
  |some c=>
   have e2:=kT r2 q2
   subst e2
   rw[q1,q2] at h
   cases h
   exact .flat ru rv (kJ q1) (kJ q2)
  |none=>
   rw[q1,q2] at h
   cases r2 with
   |t e' l' h'=>
    cases h
    cases rv
    obtain⟨us,_,t1,_⟩:=I.tuple (SqT.of e')
    exact .ft ru (kJ q1) t1
   |_=>cases h
 |none=>
  cases q2:flD e with
  |some c=>
   have e2:=kT r2 q2
   subst e2
   rw[q1,q2] at h
   cases r1 with
   |t e' l' h'=>
    cases h
    cases ru
    obtain⟨us,_,t1,_⟩:=I.tuple (SqT.of e')
    exact .tf rv (kJ q2) t1
   |_=>cases h
  |none=>rw[q1,q2] at h;cases h
theorem aBj(I:Inv X pins σ H s)(S:SR X.K m H st):∀ {n:Nat} {A:Around} {x y:V} {d e:D} {b:Bool} {u v:Value},A.units+n<cLine→RV X.K m H x d→RV X.K m H y e→deq n st d e=some b→RelV x u→RelV y v→EqW A s u v b:=by
 intro n
 induction n with
 |zero=>intro A x y d e b u v hu r1 r2 h ru rv;exact kK I r1 r2 h ru rv
 |succ n ih=>
  intro A x y d e b u v hu r1 r2 h ru rv
  have seq:∀ {vs ws:List V} {xs ys:List D} {us zs:List Value},RVs X.K m H vs xs→RVs X.K m H ws ys→Vals vs us→Vals ws zs→deqL (deq n st) xs ys=some b→
    ∃ e:Nat→Bool,(∀ j (h1:j<us.toArray.size) (h2:j<zs.toArray.size),SeqAt.EqAt A.in1 s us.toArray[j] zs.toArray[j] (e j))∧b=((List.range (min us.toArray.size zs.toArray.size)).all e&&us.toArray.size==zs.toArray.size):=by
   intro vs ws xs ys us zs h1 h2 q1 q2 h
   obtain⟨e,h3,h4⟩:=qP h
   have l1:=q1.length
   have l2:=q2.length
   refine⟨e,fun j g1 g2=>?_,by rw[List.size_toArray,List.size_toArray,← l1,← l2,h1.1,h2.1];exact h4⟩
   have g1':j<us.length:=by simpa using g1
   have g2':j<zs.length:=by simpa using g2
   obtain⟨hv,rx⟩:=xU q1 g1'
   obtain⟨hv',ry⟩:=xU q2 g2'
   have hj:j<xs.length:=by rw[← h1.1];exact hv
   have hj':j<ys.length:=by rw[← h2.1];exact hv'
   have:=(ih (A:=A.in1) (by show A.units+1+n<cLine;omega) (h1.2 j vs[j] xs[j] (by simp[hv]) (by simp[hj])) (h2.2 j ws[j] ys[j] (by simp[hv']) (by simp[hj'])) (h3 j xs[j] ys[j] (by simp[hj]) (by simp[hj'])) rx ry).eqAt (by show A.units+1<cLine;omega)
   simpa using this
  cases r1 with
  |@t a vs ds e1 l1 h1=>
   cases r2 with
   |@t a' vs' ds' e2 l2 h2=>
    cases ru;cases rv
    obtain⟨us,q1,t1,_⟩:=I.tuple (SqT.of e1)
    obtain⟨zs,q2,t2,_⟩:=I.tuple (SqT.of e2)
    obtain⟨e,he,hk⟩:=seq ⟨l1,h1⟩ ⟨l2,h2⟩ q1 q2 h
    exact .tt (fun z=>by subst z;exact vG S (n:=n+1) (.t e1 l1 h1) (.t e2 l2 h2) h) t1 t2 he hk
   |no=>exact kK I (.t e1 l1 h1) (.no) h ru rv
   |b x=>exact kK I (.t e1 l1 h1) (.b x) h ru rv
   |i x=>exact kK I (.t e1 l1 h1) (.i x) h ru rv
   |s x=>exact kK I (.t e1 l1 h1) (.s x) h ru rv
   |ty x=>cases h
   |k e2 l2 h2=>cases h
   |f e2 l2 h2=>cases h
   |r e2=>cases h
  |@r l a e1=>
   cases r2 with
   |@r l' a' e2=>
    rw[deq] at h
    have h0:=h
    cases q:lsc st l with
    |none=>rw[q] at h;cases h
    |some xs=>
     cases q':lsc st l' with
     |none=>rw[q,q'] at h;cases h
     |some ys=>
      rw[q,q'] at h
      obtain⟨vs,o1,hv1⟩:=S.cel l a _ e1 (kI q)
      obtain⟨ws,o2,hv2⟩:=S.cel l' a' _ e2 (kI q')
      cases ru;cases rv
      obtain⟨us,q1,t1,_⟩:=I.list (SqL.of o1)
      obtain⟨zs,q2,t2,_⟩:=I.list (SqL.of o2)
      obtain⟨e,he,hk⟩:=seq hv1 hv2 q1 q2 h
      exact .ll (fun z=>by subst z;exact vG S (n:=n+1) (.r e1) (.r e2) (by rw[deq];exact h0)) t1.isList t2.isList he hk
   |no=>cases h
   |b x=>cases h
   |i x=>cases h
   |s x=>cases h
   |ty x=>cases h
   |k e2 l2 h2=>cases h
   |f e2 l2 h2=>cases h
   |t e2 l2 h2=>cases h
  |no=>exact kK I (.no) r2 (by cases r2<;>exact h) ru rv
  |b x=>exact kK I (.b x) r2 (by cases r2<;>exact h) ru rv
  |i x=>exact kK I (.i x) r2 (by cases r2<;>exact h) ru rv
  |s x=>exact kK I (.s x) r2 (by cases r2<;>exact h) ru rv
  |ty x=>cases r2<;>cases h
  |k e1 l1 h1=>exact kK I (.k e1 l1 h1) r2 (by cases r2<;>exact h) ru rv
  |f e1 l1 h1=>exact kK I (.f e1 l1 h1) r2 (by cases r2<;>exact h) ru rv
end
noncomputable def eqD(x y:D):M D:=fun st=>match deq 60 st x y with
 |some b=>some (.b b,st)
 |none=>none
noncomputable def neD(x y:D):M D:=fun st=>match deq 60 st x y with
 |some b=>some (.b (!b),st)
 |none=>none
theorem eY(hu:X.A.units+60<cLine):OpR X (compareOp .Eq) (LR X.K eqD):=by
 rintro pins s σ H x y v u Q I rx ry ⟨m,st,dx,dy,d,st',S,r1,r2,e,k⟩
 unfold eqD at e
 cases q:deq 60 st dx dy with
 |none=>rw[q] at e;cases e
 |some b=>
  rw[q] at e
  cases e
  exact EqBoolInt.of_rc ((aBj I S (A:=X.A) hu r1 r2 q rx ry).rc (by omega)) ⟨.bl b,H,I,rfl,k.now S (.b _)⟩
theorem yB(hu:X.A.units+60<cLine):OpR X (compareOp .NotEq) (LR X.K neD):=by
 rintro pins s σ H x y v u Q I rx ry ⟨m,st,dx,dy,d,st',S,r1,r2,e,k⟩
 unfold neD at e
 cases q:deq 60 st dx dy with
 |none=>rw[q] at e;cases e
 |some b=>
  rw[q] at e
  cases e
  exact EqBoolInt.of_rcne ((aBj I S (A:=X.A) hu r1 r2 q rx ry).ne (by omega)) ⟨.bl (!b),H,I,rfl,k.now S (.b _)⟩
end
end L2
end
section
namespace L2
open PySem PySem.Spec PyProof.Rows
section
variable{X:Cx}
noncomputable def seqOf(st:Sto):D→Option (List D)
 | .t xs=>some xs
 | .k xs=>some xs
 | .f xs=>some xs
 | .r l=>lsc st l
 |_=>none
theorem lA{K:PySem.W.Frag}{m:List Addr}{H:Hp}{st:Sto}{v:V}{d:D}{xs:List D}(S:SR K m H st)(r:RV K m H v d)(h:seqOf st d=some xs):∃ a vs,v=.ref a∧(SqL K H a vs∨SqT K H a vs)∧RVs K m H vs xs:=by
 cases r with
 |t e l q=>cases h;exact⟨_,_,rfl, .inr (SqT.of e),l,q⟩
 |k e l q=>cases h;exact⟨_,_,rfl, .inr (e H),l,q⟩
 |f e l q=>cases h;exact⟨_,_,rfl, .inl e.sq,l,q⟩
 |r e=>obtain⟨vs,o1,hv⟩:=S.cel _ _ _ e (kI h);exact⟨_,_,rfl, .inl (SqL.of o1),hv⟩
 |_=>cases h
noncomputable def dcc(st:Sto)(l:Nat):Option (List (Key×D)):=match st[l]? with
 |some (.d xs)=>some xs
 |_=>none
theorem lZ{st:Sto}{l:Nat}{xs:List (Key×D)}(h:dcc st l=some xs):st[l]?=some (.d xs):=by
 unfold dcc at h
 split at h
 ·cases h;assumption
 ·cases h
theorem qQ{st:Sto}{l:Nat}{xs:List (Key×D)}(h:st[l]?=some (.d xs)):dcc st l=some xs:=by unfold dcc;rw[h]
noncomputable def keyD:D→Option Key
 | .i n=>some (.inl n)
 | .s x=>some (.inr x)
 |_=>none
theorem nX{K:PySem.W.Frag}{m:List Addr}{H:Hp}{v:V}{d:D}{k:Key}(r:RV K m H v d)(h:keyD d=some k):v=kV k:=by
 cases r<;>first|(cases h;rfl)|cases h
noncomputable def valD(kvs:List (Key×D))(k:Key):Option D:=(kvs.find? fun kv=>decide (kv.1=k)).map (·.2)
noncomputable def putD(kvs:List (Key×D))(k:Key)(v:D):List (Key×D):=if(kvs.any fun kv=>decide (kv.1=k)) then kvs.map fun kv=>if kv.1=k then(kv.1,v) else kv else kvs++[(k,v)]
theorem qA{K:PySem.W.Frag}{m:List Addr}{H:Hp}:∀ {kws:List (Key×V)} {kvs:List (Key×D)} {k:Key},kws.map (·.1)=kvs.map (·.1)→RVs K m H (kws.map (·.2)) (kvs.map (·.2))→(valD kvs k=none→valV kws k=none)∧∀ d,valD kvs k=some d→∃ v,valV kws k=some v∧RV K m H v d
 |[],[],k,_,_=>⟨fun _=>rfl,fun d h=>by cases h⟩
 |p::kws,[],k,h,_=>by cases h
 |[],q::kvs,k,h,_=>by cases h
 |p::kws,q::kvs,k,h,r=>by
  simp only[List.map_cons,List.cons.injEq] at h
  have r0:=r.2 0 p.2 q.2 rfl rfl
  have r1:RVs K m H (kws.map (·.2)) (kvs.map (·.2)):=⟨by have:=r.1;simpa using this,fun i v' d' e1 e2=>r.2 (i+1) v' d' (by simpa using e1) (by simpa using e2)⟩
  by_cases hk:q.1=k
  ·have hp:p.1=k:=h.1.trans hk
   rw[nR hp]
   have:valD (q::kvs) k=some q.2:=by simp[valD,List.find?_cons,hk]
   rw[this]
   exact⟨(fun z=>by cases z),fun d z=>by cases z;exact⟨_,rfl,r0⟩⟩
  ·have hp:¬ p.1=k:=fun z=>hk (h.1.symm.trans z)
   rw[nU hp]
   have:valD (q::kvs) k=valD kvs k:=by simp[valD,List.find?_cons,hk]
   rw[this]
   exact qA h.2 r1
noncomputable def inB(x y:D)(st:Sto):Option Bool:=match x,y with
 | .s a, .s b=>some (!(Builtin.Str.occurrences b a 0 b.length 1).isEmpty)
 |x, .r l=>match dcc st l with
  |some kvs=>(keyD x).map fun k=>(valD kvs k).isSome
  |none=>match lsc st l with
   |some xs=>(flD x).bind fun a=>(xs.mapM flD).map fun vs=>inV a vs
   |none=>none
 |x,y=>match seqOf st y with
  |some xs=>(flD x).bind fun a=>(xs.mapM flD).map fun vs=>inV a vs
  |none=>none
theorem vH{α β:Type}{f:α→Option β}:∀ {xs:List α} {ys:List β},xs.mapM f=some ys→xs.length=ys.length∧∀ (i:Nat) x y,xs[i]?=some x→ys[i]?=some y→f x=some y
 |[],ys,h=>by simp at h;subst h;exact⟨rfl,fun i x y h=>by simp at h⟩
 |x::xs,ys,h=>by
  rw[List.mapM_cons] at h
  cases q:f x with
  |none=>rw[q] at h;cases h
  |some z=>
   rw[q] at h
   cases q2:xs.mapM f with
   |none=>rw[q2] at h;cases h
   |some zs=>
    rw[q2] at h
    cases h
    obtain⟨h1,h2⟩:=vH q2
    refine⟨by simp[h1],fun i a b ha hb=>?_⟩
    cases i with
    |zero=>cases ha;cases hb;exact q
    |succ i=>exact h2 i a b (by simpa using ha) (by simpa using hb)
theorem aBk{K:PySem.W.Frag}{m:List Addr}{H:Hp}{vs ws:List V}{ds:List D}(r:RVs K m H vs ds)(h:ds.mapM flD=some ws):vs=ws∧ws.all flatV=true:=by
 obtain⟨h1,h2⟩:=vH h
 refine⟨List.ext_getElem (by rw[r.1,h1]) fun i g1 g2=>?_,?_⟩
 ·have hd:i<ds.length:=by rw[← r.1];exact g1
  exact kT (r.2 i vs[i] ds[i] (by simp[g1]) (by simp[hd])) (h2 i ds[i] ws[i] (by simp[hd]) (by simp[g2]))
 ·rw[List.all_eq_true]
  intro w hw
  obtain⟨i,hi⟩:=List.getElem?_of_mem hw
  have hd:i<ds.length:=by rw[h1];exact(List.getElem?_eq_some_iff.mp hi).1
  exact kJ (h2 i ds[i] w (by simp[hd]) hi)
inductive InR (K:PySem.W.Frag) (H:Hp):V→V→Bool→Prop where
 |s (a b:Str):InR K H (.str a) (.str b) (!(Builtin.Str.occurrences b a 0 b.length 1).isEmpty)
 |d {p:Addr} {y:V} {o:Option V}:DGet H p y o→InR K H y (.ref p) o.isSome
 |l {p:Addr} {x:V} {vs:List V}:(SqL K H p vs∨SqT K H p vs)→flatV x=true→vs.all flatV=true→InR K H x (.ref p) (inV x vs)
theorem aEX{K:PySem.W.Frag}{m:List Addr}{H:Hp}{st:Sto}{x y:V}{dx dy:D}{b:Bool}(S:SR K m H st)(rx:RV K m H x dx)(ry:RV K m H y dy)(h:inB dx dy st=some b):InR K H x y b:=by
 have sq:∀ {xs:List D},seqOf st dy=some xs→((flD dx).bind fun a=>(xs.mapM flD).map fun vs=>inV a vs)=some b→InR K H x y b:=by
  intro xs h1 h2
  obtain⟨a,vs,rfl,hs,rr⟩:=lA S ry h1
  obtain⟨w,q1,q2⟩:=Option.bind_eq_some_iff.mp h2
  obtain⟨ws,q3,rfl⟩:=Option.map_eq_some_iff.mp q2
  obtain⟨rfl,hf⟩:=aBk rr q3
  have e:=kT rx q1
  subst e
  exact .l hs (kJ q1) hf
 have gen:(match seqOf st dy with |some xs=>(flD dx).bind fun a=>(xs.mapM flD).map fun vs=>inV a vs|none=>none)=some b→InR K H x y b:=by
  intro h
  cases q:seqOf st dy with
  |none=>rw[q] at h;cases h
  |some xs=>rw[q] at h;exact sq q h
 cases ry with
 |@r l a e=>
  have h':(match dcc st l with |some kvs=>(keyD dx).map fun k=>(valD kvs k).isSome|none=>match lsc st l with |some xs=>(flD dx).bind fun a=>(xs.mapM flD).map fun vs=>inV a vs|none=>none)=some b:=by
   cases dx<;>exact h
  cases q:dcc st l with
  |some kvs=>
   rw[q] at h'
   obtain⟨k,q1,rfl⟩:=Option.map_eq_some_iff.mp h'
   have e1:=nX rx q1
   subst e1
   obtain⟨kws,o1,h2,h3⟩:=S.cel l a _ e (lZ q)
   have v:=qA (k:=k) h2 h3
   have hs:(valV kws k).isSome=(valD kvs k).isSome:=by
    cases q2:valD kvs k with
    |none=>rw[v.1 q2];rfl
    |some d=>obtain⟨w,hw,_⟩:=v.2 d q2;rw[hw];rfl
   rw[← hs]
   exact .d (DGet.k o1)
  |none=>
   rw[q] at h'
   cases q2:lsc st l with
   |none=>rw[q2] at h';cases h'
   |some xs=>rw[q2] at h';exact sq (by exact q2) h'
 |s z=>cases rx with
  |s w=>cases h;exact .s _ _
  |_=>cases h
 |_=>exact gen (by cases dx<;>exact h)
noncomputable def inD(x y:D):M D:=fun st=>match inB x y st with
 |some b=>some (.b b,st)
 |none=>none
theorem mB(hu:X.A.units+1<cLine):OpR X (compareOp .In) (LR X.K inD):=by
 rintro pins s σ H x y v u Q I rx ry ⟨m,st,dx,dy,d,st',S,r1,r2,e,k⟩
 unfold inD at e
 cases q:inB dx dy st with
 |none=>rw[q] at e;cases e
 |some b=>
  rw[q] at e
  cases e
  have kk:=k.now S (.b b)
  cases aEX S r1 r2 q with
  |s a c=>exact zK pins s σ H _ _ v u Q I rx ry ⟨a,c,rfl,rfl,kk⟩
  |d g=>cases ry;exact aGB hu I g rx fun s' I'=>⟨.bl _,H,I',rfl,kk⟩
  |l g1 g2 g3=>exact zR pins s σ H _ _ v u Q I rx ry ⟨_,_,rfl,g1,g2,g3,kk⟩
noncomputable def noB:D→Bool
 | .no=>true
 |_=>false
theorem aEY{K:PySem.W.Frag}{m:List Addr}{H:Hp}{v:V}{d:D}(r:RV K m H v d):decide (v=.non)=noB d:=by
 cases r<;>simp[noB]
noncomputable def isD:D→D→M D
 |x, .no=>ret (.b (noB x))
 | .b x, .b y=>ret (.b (x==y))
 |_,_=>bad
noncomputable def isnotD:D→D→M D
 |x, .no=>ret (.b (!noB x))
 | .b x, .b y=>ret (.b (x != y))
 |_,_=>bad
theorem aBl:OpR X (compareOp .IsNot) (LR X.K isnotD):=by
 refine(aCu.or zY).imp ?_
 rintro x y H Q ⟨m,st,dx,dy,d,st',S,rx,ry,e,k⟩
 cases ry with
 |no=>
  have e':ret (D.b (!noB dx)) st=some (d,st'):=by cases dx<;>exact e
  cases aP e'
  exact .inl ⟨rfl,by rw[aEY rx];exact k.now S (.b _)⟩
 |b z=>cases rx with
  |b w=>cases aP e;exact .inr ⟨w,z,rfl,rfl,k.now S (.b _)⟩
  |_=>cases e
 |_=>cases rx<;>cases e
noncomputable def ixL:Option (List D)→D→Option D
 |some xs, .i n=>atI xs n
 |_,_=>none
noncomputable def ixR(st:Sto)(l:Nat)(y:D):Option D:=match dcc st l with
 |some kvs=>(keyD y).bind fun k=>valD kvs k
 |none=>ixL (lsc st l) y
noncomputable def ixV(st:Sto):D→D→Option D
 | .s z, .i n=>if z.length≤sizeLine then(atI z.cps.toList n).map fun c=>.s ⟨#[c]⟩ else none
 | .r l,y=>ixR st l y
 |x, .i n=>(seqOf st x).bind fun xs=>atI xs n
 |_,_=>none
noncomputable def ixD(x y:D):M D:=fun st=>match ixV st x y with
 |some d=>some (d,st)
 |none=>none
theorem aBm{x y d:D}{st st':Sto}(h:ixD x y st=some (d,st')):ixV st x y=some d∧st'=st:=by
 unfold ixD at h
 cases q:ixV st x y with
 |none=>rw[q] at h;cases h
 |some z=>rw[q] at h;cases h;exact⟨rfl,rfl⟩
theorem aK{a b:Expr}{ta tb:En→M D}{pos:Pos}(hu:X.A.units+1<cLine)(ha:QE X a ta)(hb:QE X b tb)(hs:PlainIx b):QE X (.Subscript a b pos) (fun env=>bnd (ta env) fun x=>bnd (tb env) fun y=>ixD x y):=by
 refine fV (aES (aGe aED ha hb hs) (aCI hu ha hb hs)) ?_
 rintro σ H Q ⟨m,env,st,d,st',S,E,e,k⟩
 obtain⟨x,st1,e1,e2⟩:=aJ e
 obtain⟨y,st2,e3,e4⟩:=aJ e2
 obtain⟨e5,rfl⟩:=aBm e4
 by_cases hd:∃ l kvs,x=.r l∧dcc st' l=some kvs
 ·right
  obtain⟨l,kvs,rfl,hd⟩:=hd
  refine⟨m,env,st,_,st1,S,E,e1,fun v1 H1 m1 s1 S1 r1=>⟨m1,env,st1,y,_,S1,E.stp s1,e3,fun v2 H2 m2 s2 S2 r2=>?_⟩⟩
  have e6:((keyD y).bind fun k=>valD kvs k)=some d:=by
   have:ixV st' (.r l) y=((keyD y).bind fun k=>valD kvs k):=by cases y<;>simp[ixV,ixR,hd]
   rw[← this];exact e5
  obtain⟨key,q1,q2⟩:=Option.bind_eq_some_iff.mp e6
  have ek:=nX r2 q1
  subst ek
  obtain⟨a',kws,rfl,hm,o1,h2,h3⟩:=S2.dct (r1.stp s2) (lZ hd)
  obtain⟨v,hv,rv⟩:=(qA (k:=key) h2 h3).2 d q2
  exact⟨a',v,rfl,by rw[← hv];exact DGet.k o1,k v H2 m2 (s1.trans s2) S2 rv⟩
 ·left
  refine⟨m,env,st,_,st1,S,E,e1,fun v1 H1 m1 s1 S1 r1=>⟨m1,env,st1,y,_,S1,E.stp s1,e3,fun v2 H2 m2 s2 S2 r2=>?_⟩⟩
  have r1:=r1.stp s2
  have fin:∀ v,RV X.K m2 H2 v d→Q v H2:=fun v rv=>k v H2 m2 (s1.trans s2) S2 rv
  have sq:∀ xs n,seqOf st' x=some xs→y=.i n→atI xs n=some d→rIx X.K v1 v2 H2 Q:=by
   rintro xs n q1 rfl q2
   obtain⟨a',vs,rfl,hs,rr⟩:=lA S2 r1 q1
   obtain⟨v,hv,rv⟩:=rr.atI q2
   cases r2
   rcases hs with hs|hs
   ·exact .inl ⟨a',vs,n,v,rfl,rfl,hs,hv,fin v rv⟩
   ·exact .inr (.inl ⟨a',vs,n,v,rfl,rfl,hs,hv,fin v rv⟩)
  cases r1 with
  |s z=>
   cases r2 with
   |i n=>
    rw[ixV] at e5
    split at e5
    ·obtain⟨c,q1,rfl⟩:=Option.map_eq_some_iff.mp e5
     exact .inr (.inr ⟨z,n,c,rfl,rfl,by assumption,q1,fin _ (.s _)⟩)
    ·cases e5
   |_=>cases e5
  |@r l a' el=>
   have hn:dcc st' l=none:=by
    cases q:dcc st' l with
    |none=>rfl
    |some kvs=>exact absurd ⟨l,kvs,rfl,q⟩ hd
   cases r2 with
   |i n=>
    have e6:ixL (lsc st' l) (.i n)=some d:=by rw[← e5];simp[ixV,ixR,hn]
    cases q:lsc st' l with
    |none=>rw[q] at e6;cases e6
    |some xs=>rw[q] at e6;exact sq xs n q rfl e6
   |_=>
    simp only[ixV,ixR,hn] at e5
    cases q:lsc st' l<;>rw[q] at e5<;>cases e5
  |t e' l' h'=>cases r2 with
   |i n=>exact sq _ n rfl rfl e5
   |_=>cases e5
  |k e' l' h'=>cases r2 with
   |i n=>exact sq _ n rfl rfl e5
   |_=>cases e5
  |f e' l' h'=>cases r2 with
   |i n=>exact sq _ n rfl rfl e5
   |_=>cases e5
  |no=>cases r2<;>cases e5
  |b z=>cases r2<;>cases e5
  |i z=>cases r2<;>cases e5
  |ty z=>cases r2<;>cases e5
end
end L2
end
section
namespace L2
open PySem PySem.Spec PyProof.Rows
section
variable{X:Cx}{pos:Pos}
noncomputable def asI:D→M Int
 | .i n=>ret n
 |_=>bad
theorem aBn{d:D}{st st':Sto}{x:Int}(h:asI d st=some (x,st')):d=.i x∧st'=st:=by
 cases d<;>first|(cases h;exact⟨rfl,rfl⟩)|cases h
abbrev QO(X:Cx)(e:Option Expr)(te:En→M (Option Int)):Prop:=PO X e (LO X.K te)
theorem aBo{e:Option Expr}{t u:TO}(h:PO X e t)(hu:∀ σ H Q,u σ H Q→t σ H Q):PO X e u:=fun pins s σ H Q I q=>h pins s σ H Q I (hu σ H Q q)
theorem gW:QO X none (fun _=>ret none):=by
 refine aBo aCB ?_
 rintro σ H Q ⟨m,env,st,d,st',S,E,e,k⟩
 cases aP e
 exact k H m .refl S
theorem eO{a:Expr}{ta:En→M D}(ha:QE X a ta):QO X (some a) (fun env=>bnd (ta env) fun x=>bnd (asI x) fun n=>ret (some n)):=by
 refine aBo (aCC ha) ?_
 rintro σ H Q ⟨m,env,st,d,st',S,E,e,k⟩
 obtain⟨x,st1,e1,e2⟩:=aJ e
 obtain⟨n,st2,e3,e4⟩:=aJ e2
 cases aP e4
 obtain⟨rfl,rfl⟩:=aBn e3
 refine⟨m,env,st,_,_,S,E,e1,fun v H' m' s S' r=>?_⟩
 cases r
 exact⟨n,rfl,k H' m' s S'⟩
noncomputable def cutD(xs:List D)(lo hi:Option Int):List D:=(xs.drop (HT.sIx xs.length 0 lo)).take (HT.sIx xs.length xs.length hi - HT.sIx xs.length 0 lo)
noncomputable def slD(x:D)(lo hi:Option Int):M D:=match x with
 | .s z=>need (z.length≤sizeLine) (ret (.s (Txt.slice z lo hi)))
 | .t xs=>ret (.t (cutD xs lo hi))
 | .f xs=>fun st=>some (.r st.length,st++[.l (cutD xs lo hi)])
 | .r l=>bnd (getL l) fun xs=>fun st=>some (.r st.length,st++[.l (cutD xs lo hi)])
 |_=>bad
theorem aGj:SlR X (LSl X.K slD):=by
 refine(aEL.or (aCM.or aCF)).imp ?_
 rintro x lo hi H Q ⟨m,st,dx,d,st',S,rx,e,k⟩
 cases rx with
 |s z=>obtain⟨h,e⟩:=fG e;cases aP e;exact .inl ⟨z,rfl,h,k.now S (.s _)⟩
 |t e1 l1 h1=>
  cases aP e
  refine .inr (.inl ⟨_,_,rfl,e1,fun p H' ep sm=>?_⟩)
  obtain⟨S2,s2⟩:=S.same sm
  have rr:=(RVs.cut ⟨l1,h1⟩ lo hi).stp s2
  exact k _ _ _ s2 S2 (.t ep rr.1 rr.2)
 |f e1 l1 h1=>
  cases e
  refine .inr (.inr ⟨_,_,rfl,e1.sq,fun p hp=>?_⟩)
  obtain⟨S2,s2,r2⟩:=S.newL hp (RVs.cut ⟨l1,h1⟩ lo hi)
  exact k _ _ _ s2 S2 r2
 |r e1=>
  obtain⟨xs,st1,e2,e3⟩:=aJ e
  obtain⟨h1,rfl⟩:=hU e2
  cases e3
  obtain⟨pa,vs,q,ma,oa,ra⟩:=S.lst (.r e1) h1
  cases q
  refine .inr (.inr ⟨_,_,rfl,SqL.of oa,fun p hp=>?_⟩)
  obtain⟨S2,s2,r2⟩:=S.newL hp (ra.cut lo hi)
  exact k _ _ _ s2 S2 r2
 |_=>cases e
theorem eR{a:Expr}{ta:En→M D}{lo hi:Option Expr}{tl th:En→M (Option Int)}{p2:Pos}(ha:QE X a ta)(hl:QO X lo tl)(hh:QO X hi th):QE X (.Subscript a (.Slice lo hi none p2) pos) (fun env=>bnd (ta env) fun x=>bnd (tl env) fun l=>bnd (th env) fun h=>slD x l h):=by
 refine fV (aAJ aGj ha hl hh) ?_
 rintro σ H Q ⟨m,env,st,d,st',S,E,e,k⟩
 obtain⟨x,st1,e1,e2⟩:=aJ e
 obtain⟨l,st2,e3,e4⟩:=aJ e2
 obtain⟨h,st3,e5,e6⟩:=aJ e4
 exact⟨m,env,st,x,st1,S,E,e1,fun v1 H1 m1 s1 S1 r1=>⟨m1,env,st1,l,st2,S1,E.stp s1,e3,fun H2 m2 s2 S2=>⟨m2,env,st2,h,st3,S2,(E.stp s1).stp s2,e5,fun H3 m3 s3 S3=>
  ⟨m3,st3,x,d,st',S3,(r1.stp s2).stp s3,e6,fun v H' m' s4 S4 r4=>k v H' m' (((s1.trans s2).trans s3).trans s4) S4 r4⟩⟩⟩⟩
theorem aEZ{a b:Expr}{ta tb:En→M D}{p2:Pos}(ha:QE X a ta)(hb:QE X b tb):QE X (.Subscript a (.Slice none none (some b) p2) pos) (fun env=>bnd (ta env) fun x=>bnd (tb env) fun y=>match x,y with
  | .t xs, .i n=>need (n=-1) (ret (.t xs.reverse))
  |_,_=>bad):=by
 refine fV (aEM ha hb) ?_
 rintro σ H Q ⟨m,env,st,d,st',S,E,e,k⟩
 obtain⟨x,st1,e1,e2⟩:=aJ e
 obtain⟨y,st2,e3,e4⟩:=aJ e2
 refine⟨m,env,st,x,st1,S,E,e1,fun v1 H1 m1 s1 S1 r1=>⟨m1,env,st1,y,st2,S1,E.stp s1,e3,fun v2 H2 m2 s2 S2 r2=>?_⟩⟩
 have r1':=r1.stp s2
 match x,y,r1',r2,e4 with
 | .t xs, .i n, .t ea la ha, .i _,e4=>
  obtain⟨hn,e5⟩:=fG e4
  subst hn
  cases aP e5
  refine⟨rfl,_,_,rfl,ea,fun p hp=>?_⟩
  obtain⟨S3,s3,r3⟩:=S2.newT hp (RVs.rev ⟨la,ha⟩)
  exact k _ _ _ ((s1.trans s2).trans s3) S3 r3
noncomputable def lenV(st:Sto):D→Option Int
 | .s y=>if y.length≤sizeLine then some (y.length:Nat) else none
 |x=>(seqOf st x).map fun xs=>((xs.length:Nat):Int)
noncomputable def lenD:List D→M D
 |[x]=>fun st=>match lenV st x with
  |some n=>some (.i n,st)
  |none=>none
 |_=>bad
theorem gL{K:PySem.W.Frag}{m:List Addr}{H:Hp}{vs:List V}{d:D}(r:RVs K m H vs [d]):∃ v,vs=[v]∧RV K m H v d:=by
 have hl:=r.1
 match vs,hl with
 |[v],_=>exact⟨v,rfl,r.2 0 v d rfl rfl⟩
theorem qR{K:PySem.W.Frag}{m:List Addr}{H:Hp}{vs:List V}{d e:D}(r:RVs K m H vs [d,e]):∃ v w,vs=[v,w]∧RV K m H v d∧RV K m H w e:=by
 have hl:=r.1
 match vs,hl with
 |[v,w],_=>exact⟨v,w,rfl,r.2 0 v d rfl rfl,r.2 1 w e rfl rfl⟩
theorem tQ{K:PySem.W.Frag}{m:List Addr}{H:Hp}{vs:List V}(r:RVs K m H vs []):vs=[]:=List.length_eq_zero_iff.mp r.1
theorem jF:CallR X (.builtin "len") (LC X.K lenD):=by
 refine aAG.imp ?_
 rintro xs H Q ⟨m,st,ds,d,st',S,r,e,k⟩
 match ds,r,e with
 |[x],r,e=>
  obtain⟨v,rfl,rv⟩:=gL r
  unfold lenD at e
  dsimp only at e
  cases q:lenV st x with
  |none=>rw[q] at e;cases e
  |some n=>
   rw[q] at e
   cases e
   have kk:=k.now S (.i n)
   have sq:((seqOf st x).map fun xs=>((xs.length:Nat):Int))=some n→∃ x_1 n,[v]=[x_1]∧LenV X.K x_1 H n∧Q (.int (n:Nat)) H:=by
    intro q
    obtain⟨ys,q1,q2⟩:=Option.map_eq_some_iff.mp q
    subst q2
    obtain⟨a,vs,rfl,hs,rr⟩:=lA S rv q1
    refine⟨_,ys.length,rfl,?_,kk⟩
    rcases hs with hs|hs
    ·exact .inl ⟨vs,hs,rr.1.symm⟩
    ·exact .inr ⟨vs,hs,rr.1.symm⟩
   cases rv with
   |s y=>
    rw[lenV] at q
    split at q
    ·cases q;exact⟨_,y.length,rfl,⟨by assumption,rfl⟩,kk⟩
    ·cases q
   |_=>exact sq q
noncomputable def listD:List D→M D
 |[x]=>fun st=>match seqOf st x with
  |some xs=>some (.r st.length,st++[.l xs])
  |none=>none
 |_=>bad
theorem nY:CallR X (.type "list") (LC X.K listD):=by
 refine tJ.imp ?_
 rintro xs H Q ⟨m,st,ds,d,st',S,r,e,k⟩
 match ds,r,e with
 |[x],r,e=>
  obtain⟨v,rfl,rv⟩:=gL r
  unfold listD at e
  dsimp only at e
  cases q:seqOf st x with
  |none=>rw[q] at e;cases e
  |some ys=>
   rw[q] at e
   cases e
   obtain⟨a,vs,rfl,hs,rr⟩:=lA S rv q
   refine⟨a,vs,rfl,hs,fun l hl=>?_⟩
   obtain⟨S2,s2,r2⟩:=S.newL hl rr
   exact k _ _ _ s2 S2 r2
noncomputable def tupD:List D→M D
 |[.t xs]=>ret (.t xs)
 |[.r l]=>bnd (getL l) fun xs=>ret (.t xs)
 |[.f xs]=>ret (.t xs)
 |_=>bad
theorem gM:CallR X (.type "tuple") (LC X.K tupD):=by
 refine rM.imp ?_
 rintro xs H Q ⟨m,st,ds,d,st',S,r,e,k⟩
 match ds,r,e with
 |[.t xs],r,e=>
  obtain⟨v,rfl,rv⟩:=gL r
  cases aP e
  have kk:=k.now S rv
  cases rv with
  |t e1 l1 h1=>exact⟨_,_,rfl, .inr ⟨SqT.of e1,kk⟩⟩
 |[.f xs],r,e=>
  obtain⟨v,rfl,rv⟩:=gL r
  cases aP e
  cases rv with
  |f e1 l1 h1=>
   refine⟨_,_,rfl, .inl ⟨e1.sq,fun p hp=>?_⟩⟩
   obtain⟨S2,s2,r2⟩:=S.newT hp ⟨l1,h1⟩
   exact k _ _ _ s2 S2 r2
 |[.r l],r,e=>
  obtain⟨v,rfl,rv⟩:=gL r
  obtain⟨xs,st1,e2,e3⟩:=aJ e
  obtain⟨h1,rfl⟩:=hU e2
  cases aP e3
  obtain⟨pa,vs,rfl,ma,oa,ra⟩:=S.lst rv h1
  refine⟨_,_,rfl, .inl ⟨SqL.of oa,fun p hp=>?_⟩⟩
  obtain⟨S2,s2,r2⟩:=S.newT hp ra
  exact k _ _ _ s2 S2 r2
noncomputable def intsD:List D→Option (List Int)
 |[]=>some []
 | .i n::xs=>(intsD xs).map (n::·)
 |_=>none
theorem vI{K:PySem.W.Frag}{m:List Addr}{H:Hp}:∀ {vs:List V} {ds:List D} {ns:List Int},RVs K m H vs ds→intsD ds=some ns→vs=ns.map V.int
 |[],[],ns,_,h=>by cases h;rfl
 |v::vs,d::ds,ns,r,h=>by
  have r0:=r.2 0 v d rfl rfl
  have r1:RVs K m H vs ds:=⟨by have:=r.1;simpa using this,fun i v' d' e1 e2=>r.2 (i+1) v' d' (by simpa using e1) (by simpa using e2)⟩
  cases r0 with
  |i n=>
   rw[intsD] at h
   obtain⟨ms,q,rfl⟩:=Option.map_eq_some_iff.mp h
   rw[vI r1 q];rfl
  |_=>cases h
 |[],d::ds,_,r,_=>by have:=r.1;simp at this
 |v::vs,[],_,r,_=>by have:=r.1;simp at this
noncomputable def sumD:List D→M D
 |[.r l]=>bnd (getL l) fun xs=>bnd (opt (intsD xs)) fun ns=>ret (.i ns.sum)
 |_=>bad
theorem wO(hc:X.calm=true):CallR X (.builtin "sum") (LC X.K sumD):=by
 refine(aAb hc).imp ?_
 rintro xs H Q ⟨m,st,ds,d,st',S,r,e,k⟩
 match ds,r,e with
 |[.r l],r,e=>
  obtain⟨v,rfl,rv⟩:=gL r
  obtain⟨xs,st1,e2,e3⟩:=aJ e
  obtain⟨h1,rfl⟩:=hU e2
  obtain⟨ns,st2,e4,e5⟩:=aJ e3
  obtain⟨e6,rfl⟩:=vB e4
  cases aP e5
  obtain⟨pa,vs,rfl,ma,oa,ra⟩:=S.lst rv h1
  rw[vI ra e6] at oa
  exact⟨pa,ns,rfl,SqL.of oa,k.now S (.i _)⟩
noncomputable def min2D:List D→M D
 |[.i a, .i b]=>ret (.i (if b<a then b else a))
 |_=>bad
theorem wQ(hc:X.calm=true):CallR X (.builtin "min") (LC X.K min2D):=by
 refine(zL hc).imp ?_
 rintro xs H Q ⟨m,st,ds,d,st',S,r,e,k⟩
 match ds,r,e with
 |[.i a, .i b],r,e=>
  obtain⟨v,w,rfl,rv,rw⟩:=qR r
  cases rv;cases rw
  cases aP e
  exact⟨a,b,rfl,k.now S (.i _)⟩
noncomputable def absD:List D→M D
 |[.i a]=>ret (.i (if a<0 then -a else a))
 |_=>bad
theorem aFa:CallR X (.builtin "abs") (LC X.K absD):=by
 refine aAF.imp ?_
 rintro xs H Q ⟨m,st,ds,d,st',S,r,e,k⟩
 match ds,r,e with
 |[.i a],r,e=>
  obtain⟨v,rfl,rv⟩:=gL r
  cases rv
  cases aP e
  exact⟨a,rfl,k.now S (.i _)⟩
noncomputable def int1D:List D→M D
 |[.i a]=>ret (.i a)
 |[.b k]=>ret (.i (if k then 1 else 0))
 |_=>bad
theorem aFb:CallR X (.type "int") (LC X.K int1D):=by
 refine zM.imp ?_
 rintro xs H Q ⟨m,st,ds,d,st',S,r,e,k⟩
 match ds,r,e with
 |[.i a],r,e=>
  obtain⟨v,rfl,rv⟩:=gL r
  cases rv
  cases aP e
  exact .inl ⟨a,rfl,k.now S (.i _)⟩
 |[.b a],r,e=>
  obtain⟨v,rfl,rv⟩:=gL r
  cases rv
  cases aP e
  exact .inr ⟨a,rfl,k.now S (.i _)⟩
noncomputable def divmodD:List D→M D
 |[.i a, .i b]=>need (CDiv a b) (ret (.t [.i (a / b), .i (a % b)]))
 |_=>bad
theorem aAd:CallR X (.builtin "divmod") (LC X.K divmodD):=by
 refine uR.imp ?_
 rintro xs H Q ⟨m,st,ds,d,st',S,r,e,k⟩
 match ds,r,e with
 |[.i a, .i b],r,e=>
  obtain⟨v,w,rfl,rv,rw⟩:=qR r
  cases rv;cases rw
  obtain⟨h,e⟩:=fG e
  cases aP e
  refine⟨a,b,rfl,h,fun p hp=>?_⟩
  obtain⟨S2,s2,r2⟩:=S.newT hp (ds:=[.i (a / b), .i (a % b)]) (.cons (.i _) (.cons (.i _) .nil))
  exact k _ _ _ s2 S2 r2
noncomputable def tyName(st:Sto):D→Option String
 | .no=>some "NoneType"
 | .b _=>some "bool"
 | .i _=>some "int"
 | .s _=>some "str"
 | .t _=>some "tuple"
 | .r l=>match st[l]? with
  |some (.l _)=>some "list"
  |some (.d _)=>some "dict"
  |_=>none
 |_=>none
theorem aAe{K:PySem.W.Frag}{m:List Addr}{H:Hp}{st:Sto}{v:V}{d:D}{n:String}(S:SR K m H st)(r:RV K m H v d)(h:tyName st d=some n):TyOf K H v (.type n):=by
 cases r with
 |no=>cases h;exact .non
 |b=>cases h;exact .bl _
 |i=>cases h;exact .int _
 |s=>cases h;exact .str _
 |t e _ _=>cases h;exact .tup e
 |@r l a e=>
  rw[tyName] at h
  match q:st[l]? with
  |none=>rw[q] at h;cases h
  |some (.o _ _)=>rw[q] at h;cases h
  |some (.l xs)=>rw[q] at h;cases h;obtain⟨vs,o1,_⟩:=S.cel l a _ e q;exact .lst o1
  |some (.d xs)=>rw[q] at h;cases h;obtain⟨vs,o1,_⟩:=S.cel l a _ e q;exact .dK o1
 |_=>cases h
noncomputable def isinstD:List D→M D
 |[x, .ty c]=>fun st=>if tyName st x=some c then some (.b true,st) else none
 |_=>bad
theorem aAf:CallR X (.builtin "isinstance") (LC X.K isinstD):=by
 refine uX.imp ?_
 rintro xs H Q ⟨m,st,ds,d,st',S,r,e,k⟩
 match ds,r,e with
 |[x, .ty c],r,e=>
  obtain⟨v,w,rfl,rv,rw⟩:=qR r
  cases rw
  unfold isinstD at e
  dsimp only at e
  split at e
  ·rename_i h
   cases e
   exact⟨v, .type c,c,true,rfl,aAe S rv h,by unfold PySem.W.kitOne;rw[if_pos (by simp)],k.now S (.b _)⟩
  ·cases e
noncomputable def chkT(T:String)(x:D):M Unit:=fun st=>match x with
 | .s _=>if T="str" then some ((),st) else none
 | .f _=>if T="list" then some ((),st) else none
 | .r l=>match st[l]? with
  |some (.l _)=>if T="list" then some ((),st) else none
  |some (.d _)=>if T="dict" then some ((),st) else none
  |_=>none
 |_=>none
theorem tR{K:PySem.W.Frag}{m:List Addr}{H:Hp}{st st':Sto}{T:String}{v:V}{d:D}{u:Unit}(S:SR K m H st)(r:RV K m H v d)(h:chkT T d st=some (u,st')):tyV K T v H∧st'=st:=by
 unfold chkT at h
 cases r with
 |s=>dsimp only at h;split at h;· rename_i e;cases h;exact⟨e,rfl⟩
     ·cases h
 |f e _ _=>
  dsimp only at h
  split at h
  ·rename_i eT;cases h;exact⟨.inl ⟨eT,_,e.sq⟩,rfl⟩
  ·cases h
 |@r l a e=>
  dsimp only at h
  match q:st[l]? with
  |none=>rw[q] at h;cases h
  |some (.o _ _)=>rw[q] at h;cases h
  |some (.l xs)=>
   rw[q] at h
   dsimp only at h
   split at h
   ·rename_i eT;cases h;obtain⟨vs,o1,_⟩:=S.cel l a _ e q;exact⟨.inl ⟨eT,_,SqL.of o1⟩,rfl⟩
   ·cases h
  |some (.d xs)=>
   rw[q] at h
   dsimp only at h
   split at h
   ·rename_i eT;cases h;obtain⟨vs,o1,_⟩:=S.cel l a _ e q;exact⟨.inr (.inr (.inl ⟨eT, .inl ⟨_,o1⟩⟩)),rfl⟩
   ·cases h
 |_=>cases h
theorem iV{o a:Expr}{es:List Expr}{to:En→M D}{t:En→M (List D)}{name:Str}{apos cpos:Pos}{T id:String}{f:D→List D→M D}(pa:PlainAttrs T)(slot:Slot T name id)(hty:typeOf (.builtin id)=pure (.type "method_descriptor"))(hm:MtR X id (LM X.K f))(ho:QE X o to)(ha:QA X (a::es) t)
  (hbase:attributeBase o name X.env (eval o X.env)=eval o X.env:=by rfl)
  (hfew:((backTo cpos (starEach (a::es) X.env)).all (fun x=>!x.1)&&(backToKw cpos (keywordEach [] X.env)).all (fun x=>x.1.isSome)
   &&decide ((a::es).length+([]:List Keyword).length+(if([]:List Keyword).isEmpty then 0 else 1)<30))=true:=by rfl)
  (hline:(apos.endLine==cpos.line)=true:=by rfl)(hs:starEach (a::es) X.env=(false,eval a X.env)::starEach es X.env:=by rfl)(hplain:(backTo cpos (starEach es X.env)).any (·.1)=false:=by rfl):
  QE X (.Call (.Attribute o name apos) (a::es) [] cpos) (fun env=>bnd (to env) fun x=>bnd (chkT T x) fun _=>bnd (t env) fun xs=>f x xs):=by
 refine fV (aGf pa slot hty hm ho ha hbase hfew hline hs hplain) ?_
 rintro σ H Q ⟨m,env,st,d,st',S,E,e,k⟩
 obtain⟨x,st1,e1,e2⟩:=aJ e
 obtain⟨u,st2,e3,e4⟩:=aJ e2
 obtain⟨xs,st3,e5,e6⟩:=aJ e4
 refine⟨m,env,st,x,st1,S,E,e1,fun v1 H1 m1 s1 S1 r1=>?_⟩
 obtain⟨ty,rfl⟩:=tR S1 r1 e3
 exact⟨ty,m1,env,_,xs,st3,S1,E.stp s1,e5,fun vs H2 m2 s2 S2 r2=>⟨m2,st3,x,xs,d,st',S2,r1.stp s2,r2,e6,fun v H' m' s3 S3 r3=>k v H' m' ((s1.trans s2).trans s3) S3 r3⟩⟩
theorem tS{o:Expr}{to:En→M D}{name:Str}{apos cpos:Pos}{T id:String}{f:D→List D→M D}(pa:PlainAttrs T)(slot:Slot T name id)(hty:typeOf (.builtin id)=pure (.type "method_descriptor"))(hm:MtR X id (LM X.K f))(ho:QE X o to)
  (hbase:attributeBase o name X.env (eval o X.env)=eval o X.env:=by rfl)(hline:(apos.endLine==cpos.line)=true:=by rfl):
  QE X (.Call (.Attribute o name apos) [] [] cpos) (fun env=>bnd (to env) fun x=>bnd (chkT T x) fun _=>f x []):=by
 refine fV (aEE pa slot hty hm ho hbase hline) ?_
 rintro σ H Q ⟨m,env,st,d,st',S,E,e,k⟩
 obtain⟨x,st1,e1,e2⟩:=aJ e
 obtain⟨u,st2,e3,e4⟩:=aJ e2
 refine⟨m,env,st,x,st1,S,E,e1,fun v1 H1 m1 s1 S1 r1=>?_⟩
 obtain⟨ty,rfl⟩:=tR S1 r1 e3
 exact⟨ty,m1,_,x,[],d,st',S1,r1, .nil,e4,fun v H' m' s3 S3 r3=>k v H' m' (s1.trans s3) S3 r3⟩
noncomputable def updL(l:Nat)(f:List D→Option (D×List D)):M D:=fun st=>match lsc st l with
 |some xs=>match f xs with
  |some (d,ys)=>some (d,st.set l (.l ys))
  |none=>none
 |none=>none
theorem jG{l:Nat}{f:List D→Option (D×List D)}{st st':Sto}{d:D}(h:updL l f st=some (d,st')):∃ xs ys,st[l]?=some (.l xs)∧f xs=some (d,ys)∧st'=st.set l (.l ys):=by
 unfold updL at h
 cases q:lsc st l with
 |none=>rw[q] at h;cases h
 |some xs=>
  rw[q] at h
  dsimp only at h
  cases q2:f xs with
  |none=>rw[q2] at h;cases h
  |some p=>rw[q2] at h;cases h;exact⟨xs,p.2,kI q,q2,rfl⟩
theorem lL{l:Nat}{f:List D→Option (D×List D)}{st:Sto}{d:D}{xs ys:List D}(h:st[l]?=some (.l xs))(h2:f xs=some (d,ys)):updL l f st=some (d,st.set l (.l ys)):=by
 unfold updL
 rw[kS h]
 dsimp only
 rw[h2]
noncomputable def appendD:D→List D→M D
 | .r l,[y]=>updL l fun xs=>if xs.length<sizeLine then some (.no,xs++[y]) else none
 |_,_=>bad
theorem gO:MtR X "list.append" (LM X.K appendD):=by
 have h0:MtR X "list.append" rAppend:=zS
 refine h0.imp ?_
 rintro x xs H Q ⟨m,st,dx,ds,d,st',S,rx,r,e,k⟩
 match dx,ds,rx,r,e with
 | .r l,[y],rx,r,e=>
  obtain⟨w,rfl,rw⟩:=gL r
  obtain⟨zs,ys,h1,h2,rfl⟩:=jG e
  split at h2
  ·rename_i hl
   cases h2
   obtain⟨a,vs,rfl,ma,oa,ra⟩:=S.lst rx h1
   obtain⟨S2,s2⟩:=S.putL ma oa rfl (ra.append (.one rw))
   exact⟨a,vs,w,rfl,rfl,oa,by rw[ra.1];exact hl,k _ _ _ s2 S2 .no⟩
  ·cases h2
noncomputable def popD:D→List D→M D
 | .r l,[]=>updL l fun xs=>(xs[xs.length - 1]?).map fun y=>(y,xs.dropLast)
 | .r l,[.i n]=>updL l fun xs=>if -(2 ^ 63)≤n∧n<2 ^ 63 then(seqIndex? n xs.length).bind fun k=>(xs[k]?).map fun y=>(y,xs.eraseIdx k) else none
 |_,_=>bad
theorem RVs.erase{K:PySem.W.Frag}{m:List Addr}{H:Hp}:∀ {vs:List V} {ds:List D} (k:Nat),RVs K m H vs ds→RVs K m H (vs.eraseIdx k) (ds.eraseIdx k)
 |vs,ds,k,h=>by
  rw[List.eraseIdx_eq_take_drop_succ,List.eraseIdx_eq_take_drop_succ]
  exact(h.take k).append (h.drop (k+1))
theorem oR:MtR X "list.pop" (LM X.K popD):=by
 have h0:MtR X "list.pop" rPop:=aEF
 have h1:MtR X "list.pop" rPopAt:=aAO
 refine(h0.or h1).imp ?_
 rintro x xs H Q ⟨m,st,dx,ds,d,st',S,rx,r,e,k⟩
 match dx,ds,rx,r,e with
 | .r l,[],rx,r,e=>
  cases tQ r
  obtain⟨zs,ys,h1,h2,rfl⟩:=jG e
  obtain⟨y,q1,q2⟩:=Option.map_eq_some_iff.mp h2
  cases q2
  obtain⟨a,vs,rfl,ma,oa,ra⟩:=S.lst rx h1
  obtain⟨S2,s2⟩:=S.putL ma oa rfl ra.dropLast
  obtain⟨v,hv,rv⟩:=ra.at q1
  exact .inl ⟨a,vs,v,rfl,rfl,oa,by rw[ra.1];exact hv,k _ _ _ s2 S2 (rv.stp s2)⟩
 | .r l,[.i n],rx,r,e=>
  obtain⟨w,rfl,rw⟩:=gL r
  cases rw
  obtain⟨zs,ys,h1,h2,rfl⟩:=jG e
  split at h2
  ·rename_i hn
   obtain⟨j,q0,q3⟩:=Option.bind_eq_some_iff.mp h2
   obtain⟨y,q1,q2⟩:=Option.map_eq_some_iff.mp q3
   cases q2
   obtain⟨a,vs,rfl,ma,oa,ra⟩:=S.lst rx h1
   obtain⟨S2,s2⟩:=S.putL ma oa rfl (ra.erase j)
   obtain⟨v,hv,rv⟩:=ra.at q1
   exact .inr ⟨a,vs,n,j,v,rfl,rfl,oa,hn.1,hn.2,by rw[ra.1];exact q0,hv,k _ _ _ s2 S2 (rv.stp s2)⟩
  ·cases h2
noncomputable def extendD:D→List D→M D
 | .r l,[.t ys]=>updL l fun xs=>if xs.length+ys.length≤sizeLine then some (.no,xs++ys) else none
 | .r l,[.r b]=>bnd (getL b) fun ys=>updL l fun xs=>if xs.length+ys.length≤sizeLine then some (.no,xs++ys) else none
 |_,_=>bad
theorem oU:MtR X "list.extend" (LM X.K extendD):=by
 have h0:MtR X "list.extend" rExtend:=zT
 have h1:MtR X "list.extend" rExtendT:=wI
 refine(h0.or h1).imp ?_
 rintro x xs H Q ⟨m,st,dx,ds,d,st',S,rx,r,e,k⟩
 match dx,ds,rx,r,e with
 | .r l,[.t ys],rx,r,e=>
  obtain⟨w,rfl,rw⟩:=gL r
  obtain⟨zs,us,h1,h2,rfl⟩:=jG e
  split at h2
  ·rename_i hl
   cases h2
   obtain⟨a,vs,rfl,ma,oa,ra⟩:=S.lst rx h1
   cases rw with
   |@t b ws _ e1 l1 q1=>
    obtain⟨S2,s2⟩:=S.putL ma oa rfl (ra.append ⟨l1,q1⟩)
    exact .inr ⟨a,b,vs,ws,rfl,rfl,oa,e1,by rw[ra.1,l1];exact hl,k _ _ _ s2 S2 .no⟩
  ·cases h2
 | .r l,[.r b],rx,r,e=>
  obtain⟨w,rfl,rw⟩:=gL r
  obtain⟨ys,st1,e2,e3⟩:=aJ e
  obtain⟨hb,rfl⟩:=hU e2
  obtain⟨zs,us,h1,h2,rfl⟩:=jG e3
  split at h2
  ·rename_i hl
   cases h2
   obtain⟨a,vs,rfl,ma,oa,ra⟩:=S.lst rx h1
   obtain⟨c,ws,rfl,mc,oc,rc⟩:=S.lst rw hb
   obtain⟨S2,s2⟩:=S.putL ma oa rfl (ra.append rc)
   exact .inl ⟨a,c,vs,ws,rfl,rfl,oa,oc,by rw[ra.1,rc.1];exact hl,k _ _ _ s2 S2 .no⟩
  ·cases h2
noncomputable def insertD:D→List D→M D
 | .r l,[.i n,y]=>updL l fun xs=>if 0≤n∧n≤xs.length∧xs.length<sizeLine then some (.no,xs.take n.toNat++y::xs.drop n.toNat) else none
 |_,_=>bad
theorem aAg:MtR X "list.insert" (LM X.K insertD):=by
 have h0:MtR X "list.insert" rInsert:=aAa
 refine h0.imp ?_
 rintro x xs H Q ⟨m,st,dx,ds,d,st',S,rx,r,e,k⟩
 match dx,ds,rx,r,e with
 | .r l,[.i n,y],rx,r,e=>
  obtain⟨w,z,rfl,rw,rz⟩:=qR r
  cases rw
  obtain⟨zs,us,h1,h2,rfl⟩:=jG e
  split at h2
  ·rename_i hl
   cases h2
   obtain⟨a,vs,rfl,ma,oa,ra⟩:=S.lst rx h1
   obtain⟨S2,s2⟩:=S.putL ma oa rfl ((ra.take n.toNat).append (.cons rz (ra.drop n.toNat)))
   exact⟨a,vs,n,z,rfl,rfl,oa,hl.1,by rw[ra.1];exact hl.2.1,by rw[ra.1];exact hl.2.2,k _ _ _ s2 S2 .no⟩
  ·cases h2
noncomputable def reverseD:D→List D→M D
 | .r l,[]=>updL l fun xs=>some (.no,xs.reverse)
 |_,_=>bad
theorem wR:MtR X "list.reverse" (LM X.K reverseD):=by
 have h0:MtR X "list.reverse" rReverse:=wH
 refine h0.imp ?_
 rintro x xs H Q ⟨m,st,dx,ds,d,st',S,rx,r,e,k⟩
 match dx,ds,rx,r,e with
 | .r l,[],rx,r,e=>
  cases tQ r
  obtain⟨zs,us,h1,h2,rfl⟩:=jG (show updL l (fun xs=>some (.no,xs.reverse)) st=some (d,st') from e)
  cases h2
  obtain⟨a,vs,rfl,ma,oa,ra⟩:=S.lst rx h1
  obtain⟨S2,s2⟩:=S.putL ma oa rfl ra.rev
  exact⟨a,vs,rfl,rfl,oa,k _ _ _ s2 S2 .no⟩
noncomputable def indexD:D→List D→M D
 | .s z,[.s y]=>fun st=>match Builtin.Str.occurrences z y 0 z.length 1 with
  |i::_=>some (.i (i:Nat),st)
  |[]=>none
 |_,_=>bad
theorem aBp:MtR X "str.index" (LM X.K indexD):=by
 refine aBb.imp ?_
 rintro x xs H Q ⟨m,st,dx,ds,d,st',S,rx,r,e,k⟩
 match dx,ds,rx,r,e with
 | .s z,[.s y], .s _,r,e=>
  obtain⟨w,rfl,rw⟩:=gL r
  cases rw
  unfold indexD at e
  dsimp only at e
  cases q:Builtin.Str.occurrences z y 0 z.length 1 with
  |nil=>rw[q] at e;cases e
  |cons i rest=>rw[q] at e;cases e;exact⟨z,y,i,rest,rfl,rfl,q,k.now S (.i _)⟩
noncomputable def get2D(x y z:D):M D:=fun st=>match x with
 | .r l=>match dcc st l,keyD y with
  |some kvs,some k=>some ((valD kvs k).getD z,st)
  |_,_=>none
 |_=>none
theorem aCQ{o a b:Expr}{to ta tb:En→M D}{apos cpos:Pos}(hu:X.A.units+1<cLine)(ho:QE X o to)(ha:QE X a ta)(hb:QE X b tb)(m:M2 X o "get" apos a b cpos):
  QE X (.Call (.Attribute o "get" apos) [a,b] [] cpos) (fun env=>bnd (to env) fun x=>bnd (chkT "dict" x) fun _=>bnd (ta env) fun y=>bnd (tb env) fun z=>get2D x y z):=by
 refine fV (aAU hu ho ha hb m) ?_
 rintro σ H Q ⟨m,env,st,d,st',S,E,e,k⟩
 obtain⟨x,st1,e1,e2⟩:=aJ e
 obtain⟨u,st2,e3,e4⟩:=aJ e2
 obtain⟨y,st3,e5,e6⟩:=aJ e4
 obtain⟨z,st4,e7,e8⟩:=aJ e6
 refine⟨m,env,st,x,st1,S,E,e1,fun v1 H1 m1 s1 S1 r1=>?_⟩
 have hst:st2=st1:=(tR S1 r1 e3).2
 subst hst
 unfold get2D at e8
 cases r1 with
 |@r l a' el=>
  dsimp only at e8
  unfold chkT at e3
  dsimp only at e3
  match q:st2[l]? with
  |none=>rw[q] at e3;cases e3
  |some (.o _ _)=>rw[q] at e3;cases e3
  |some (.l _)=>rw[q] at e3;dsimp only at e3;rw[if_neg (by decide)] at e3;cases e3
  |some (.d kvs0)=>
   obtain⟨kws0,o0,_⟩:=S1.cel l a' _ el q
   refine⟨a',rfl, .inl ⟨_, .inl o0⟩,m1,env,_,y,st3,S1,E.stp s1,e5,fun v2 H2 m2 s2 S2 r2=>⟨m2,env,st3,z,st4,S2,(E.stp s1).stp s2,e7,fun v3 H3 m3 s3 S3 r3=>?_⟩⟩
   cases q1:dcc st4 l with
   |none=>rw[q1] at e8;cases e8
   |some kvs=>
    cases q2:keyD y with
    |none=>rw[q1,q2] at e8;cases e8
    |some key=>
     rw[q1,q2] at e8
     cases e8
     have ek:=nX r2 q2
     subst ek
     obtain⟨kws,o1,h2,h3⟩:=S3.cel l a' _ (s3.pre _ _ (s2.pre _ _ el)) (lZ q1)
     have v:=qA (k:=key) h2 h3
     refine⟨_,DGet.k o1,k _ H3 m3 ((s1.trans s2).trans s3) S3 ?_⟩
     cases q3:valD kvs key with
     |none=>rw[v.1 q3];exact r3
     |some w=>obtain⟨w',hw,rw⟩:=v.2 w q3;rw[hw];exact rw
 |_=>cases e8
end
end L2
end
section
namespace L2
open PySem PySem.Spec PyProof.Rows
inductive Fw where
 |nx
 |bk
 |ct
 |rt (d:D)
section
variable(K:PySem.W.Frag)
noncomputable def LG(g:D→En→M En):TG:=fun v σ H Q=>∃ m env st d env' st',SR K m H st∧RE K m H σ env∧RV K m H v d∧g d env st=some (env',st')∧∀ σ' H' m',Stp m H m' H'→SR K m' H' st'→RE K m' H' σ' env'→Q σ' H'
noncomputable def LGs(g:List D→En→M En):TGs:=fun vs σ H Q=>∃ m env st ds env' st',SR K m H st∧RE K m H σ env∧RVs K m H vs ds∧g ds env st=some (env',st')∧∀ σ' H' m',Stp m H m' H'→SR K m' H' st'→RE K m' H' σ' env'→Q σ' H'
noncomputable def LSet(f:D→D→D→M Unit):TSet:=fun o i v H Q=>∃ m st x y z st',SR K m H st∧RV K m H o x∧RV K m H i y∧RV K m H v z∧f x y z st=some ((),st')∧∀ H' m',Stp m H m' H'→SR K m' H' st'→Q H'
noncomputable def After(D:Ends)(σ':St)(H':Hp)(m':List Addr):Fw→Prop
 | .nx=>D.nx σ' H'
 | .bk=>D.bk σ' H'
 | .ct=>D.ct σ' H'
 | .rt d=>∀ v,RV K m' H' v d→D.rt v H'
noncomputable def LS(ts:En→M (Fw×En)):TS:=fun D σ H=>∃ m env st fl env' st',SR K m H st∧RE K m H σ env∧ts env st=some ((fl,env'),st')∧∀ σ' H' m',Stp m H m' H'→SR K m' H' st'→RE K m' H' σ' env'→After K D σ' H' m' fl
end
abbrev QG(X:Cx)(e:Expr)(g:D→En→M En):Prop:=PG X e (LG X.K g)
abbrev QGs(X:Cx)(e:List Expr)(g:List D→En→M En):Prop:=PGs X e (LGs X.K g)
abbrev QS(X:Cx)(s:Stmt)(t:En→M (Fw×En)):Prop:=PS X s (LS X.K t)
abbrev QSs(X:Cx)(s:List Stmt)(t:En→M (Fw×En)):Prop:=PSs X s (LS X.K t)
section
variable{X:Cx}{pos:Pos}{a b c:Expr}{ta tb:En→M D}{tc:En→M Bool}{s1 s2:En→M (Fw×En)}
noncomputable def setN(i:Nat)(d:D)(env:En):M En:=ret (env.set i (some d))
theorem cV{i:Nat}{x:Str}(hN:X.N.Nodup)(hi:X.N[i]?=some x)(hx:Loc X.env.scope x)(hf:X.fn x=true∨X.env.scope.names.lookup x=some .local:=by first|exact .inl rfl|exact .inr rfl|assumption):QG X (.Name x pos) (setN i):=by
 refine wM (xQ (i:=i) hN hi hx hf) ?_
 rintro v σ H Q ⟨m,env,st,d,env',st',S,E,r,e,k⟩
 cases aP e
 exact k _ H m .refl S (E.set r)
theorem jN:QGs X [] (fun ds env=>match ds with
  |[]=>ret env
  |_=>bad):=by
 refine xX iG ?_
 rintro v σ H Q ⟨m,env,st,ds,env',st',S,E,r,e,k⟩
 cases ds with
 |nil=>cases tQ r;cases aP e;exact⟨rfl,k _ H m .refl S E⟩
 |cons d ds=>cases e
theorem dQ{es:List Expr}{g:D→En→M En}{gs:List D→En→M En}(h1:QG X a g)(h2:QGs X es gs)
  (ha:(assignEach (a::es) X.env).map (fun x=>x.snd)=assign a X.env::(assignEach es X.env).map (fun x=>x.snd):=by rfl):QGs X (a::es) (fun ds env=>match ds with
  |d::ds=>bnd (g d env) fun env'=>gs ds env'
  |[]=>bad):=by
 refine xX (cM h1 h2 ha) ?_
 rintro vs σ H Q ⟨m,env,st,ds,env',st',S,E,r,e,k⟩
 match ds,vs,r,e with
 |d::ds,v::vs,r,e=>
  have r0:=r.2 0 v d rfl rfl
  have r1:RVs X.K m H vs ds:=⟨by have:=r.1;simpa using this,fun i v' d' e1 e2=>r.2 (i+1) v' d' (by simpa using e1) (by simpa using e2)⟩
  obtain⟨env1,st1,e1,e2⟩:=aJ e
  exact⟨v,vs,rfl,m,env,st,d,env1,st1,S,E,r0,e1,fun σ1 H1 m1 p1 S1 E1=>⟨m1,env1,st1,ds,env',st',S1,E1,r1.stp p1,e2,fun σ' H' m' p2 S2 E2=>k σ' H' m' (p1.trans p2) S2 E2⟩⟩
 |d::ds,[],r,e=>exact absurd r.1 (by simp)
noncomputable def unp(n:Nat)(gs:List D→En→M En)(d:D)(env:En):M En:=fun st=>match seqOf st d with
 |some xs=>if xs.length=n then gs xs env st else none
 |none=>none
theorem aBq{n:Nat}{gs:List D→En→M En}{d:D}{env env':En}{st st':Sto}(h:unp n gs d env st=some (env',st')):∃ xs,seqOf st d=some xs∧xs.length=n∧gs xs env st=some (env',st'):=by
 unfold unp at h
 cases q:seqOf st d with
 |none=>rw[q] at h;cases h
 |some xs=>
  rw[q] at h
  dsimp only at h
  split at h
  ·exact⟨xs,rfl,by assumption,h⟩
  ·cases h
theorem kU{es:List Expr}{kk:Nat}{gs:List D→En→M En}{n:Nat}(hc:X.calm=true)(h:QGs X es gs)(hn:(assignEach es X.env).length=n:=by rfl)(hst:(assignEach es X.env).findIdx? (·.1)=none:=by rfl):QG X (.Tuple es kk pos) (unp n gs):=by
 refine wM (qL (nL (k:=kk) (n:=n) hc h hn hst) (lK (k:=kk) (n:=n) hc h hn hst)) ?_
 rintro v σ H Q ⟨m,env,st,d,env',st',S,E,r,e,k⟩
 obtain⟨xs,q1,q2,q3⟩:=aBq e
 obtain⟨p,vs,rfl,hs,rr⟩:=lA S r q1
 have body:LGs X.K gs vs σ H Q:=⟨m,env,st,xs,env',st',S,E,rr,q3,k⟩
 rcases hs with hs|hs
 ·exact .inr ⟨p,vs,rfl,hs,by rw[rr.1];exact q2,body⟩
 ·exact .inl ⟨p,vs,rfl,hs,by rw[rr.1];exact q2,body⟩
noncomputable def setD(x y z:D):M Unit:=fun st=>match x with
 | .r l=>match dcc st l with
  |some kvs=>match keyD y with
   |some k=>if kvs.length<sizeLine then some ((),st.set l (.d (putD kvs k z))) else none
   |none=>none
  |none=>match lsc st l,y with
   |some xs, .i n=>match ixN xs.length n with
    |some j=>some ((),st.set l (.l (xs.set j z)))
    |none=>none
   |_,_=>none
 |_=>none
theorem yC{K:PySem.W.Frag}{m:List Addr}{H:Hp}{kws:List (Key×V)}{kvs:List (Key×D)}{k:Key}{v:V}{d:D}(h:kws.map (·.1)=kvs.map (·.1))(r:RVs K m H (kws.map (·.2)) (kvs.map (·.2)))(rv:RV K m H v d):
  (putK kws k v).map (·.1)=(putD kvs k d).map (·.1)∧RVs K m H ((putK kws k v).map (·.2)) ((putD kvs k d).map (·.2)):=by
 have hany:(kws.any fun kv=>decide (kv.1=k))=kvs.any fun kv=>decide (kv.1=k):=by
  have e1:∀ {β:Type} (l:List (Key×β)),(l.any fun kv=>decide (kv.1=k))=(l.map (·.1)).any fun x=>decide (x=k):=fun l=>by rw[List.any_map];rfl
  rw[e1,e1,h]
 unfold putK putD
 rw[hany]
 split
 ·have key:∀ (kws:List (Key×V)) (kvs:List (Key×D)),kws.map (·.1)=kvs.map (·.1)→RVs K m H (kws.map (·.2)) (kvs.map (·.2))→
    (kws.map fun kv=>if kv.1=k then(kv.1,v) else kv).map (·.1)=(kvs.map fun kv=>if kv.1=k then(kv.1,d) else kv).map (·.1)∧RVs K m H ((kws.map fun kv=>if kv.1=k then(kv.1,v) else kv).map (·.2)) ((kvs.map fun kv=>if kv.1=k then(kv.1,d) else kv).map (·.2)):=by
   intro kws
   induction kws with
   |nil=>intro kvs h r;cases kvs with
    |nil=>exact⟨rfl, .nil⟩
    |cons=>cases h
   |cons p kws ih=>
    intro kvs h r
    cases kvs with
    |nil=>cases h
    |cons q kvs=>
     simp only[List.map_cons,List.cons.injEq] at h
     have r0:=r.2 0 p.2 q.2 rfl rfl
     have r1:RVs K m H (kws.map (·.2)) (kvs.map (·.2)):=⟨by have:=r.1;simpa using this,fun i v' d' e1 e2=>r.2 (i+1) v' d' (by simpa using e1) (by simpa using e2)⟩
     obtain⟨i1,i2⟩:=ih kvs h.2 r1
     rw[List.map_cons,List.map_cons,List.map_cons,List.map_cons,List.map_cons,List.map_cons,i1]
     by_cases hk:q.1=k
     ·rw[if_pos hk,if_pos (h.1.trans hk),h.1]
      exact⟨rfl, .cons rv i2⟩
     ·rw[if_neg hk,if_neg fun z=>hk (h.1.symm.trans z),h.1]
      exact⟨rfl, .cons r0 i2⟩
  exact key kws kvs h r
 ·rw[List.map_append,List.map_append,List.map_append,List.map_append,h]
  exact⟨rfl,r.append (.one rv)⟩
theorem aFc(hu:X.A.units+1<cLine):PSet X (LSet X.K setD):=by
 rintro pins s σ H o i v ov iv u Q I ro ri rv ⟨m,st,x,y,z,st',S,rx,ry,rz,e,k⟩
 unfold setD at e
 cases rx with
 |@r l p el=>
  dsimp only at e
  cases q1:dcc st l with
  |some kvs=>
   rw[q1] at e
   dsimp only at e
   cases q2:keyD y with
   |none=>rw[q2] at e;cases e
   |some key=>
    rw[q2] at e
    dsimp only at e
    split at e
    ·rename_i hl
     cases e
     have ek:=nX ry q2
     subst ek
     obtain⟨kws,o1,h2,h3⟩:=S.cel l p _ el (lZ q1)
     obtain⟨S2,s2⟩:=S.put (o':=.dK (putK kws key v)) (c:=.d (putD kvs key z)) el o1 rfl fun q=>by
      obtain⟨g1,g2⟩:=yC (k:=key) h2 h3 rz
      exact⟨_,fE,g1,g2.stp q⟩
     cases ro
     have hl':kws.length<sizeLine:=by have:=congrArg List.length h2;simp at this;omega
     exact zX hu I (DPut.k o1 hl') ri rv fun s' I'=>⟨_,I',k _ _ s2 S2⟩
    ·cases e
  |none=>
   rw[q1] at e
   dsimp only at e
   cases q2:lsc st l with
   |none=>rw[q2] at e;cases e
   |some xs=>
    rw[q2] at e
    cases ry with
    |i n=>
     dsimp only at e
     cases q3:ixN xs.length n with
     |none=>rw[q3] at e;cases e
     |some j=>
      rw[q3] at e
      cases e
      obtain⟨vs,o1,rr⟩:=S.cel l p _ el (kI q2)
      obtain⟨S2,s2⟩:=S.putL el o1 rfl (rr.set (i:=j) rz)
      exact set_list pins s σ H _ _ v ov iv u Q I ro ri rv ⟨p,vs,n,j,rfl,rfl,o1,by rw[rr.1];exact q3,k _ _ s2 S2⟩
    |_=>cases e
 |_=>cases e
theorem oV(hu:X.A.units+1<cLine)(ho:QE X a ta)(hi:QE X b tb)
  (ha:∀ v,assign (.Subscript a b pos) X.env v=(do
   let ov ← holding [v] (eval a X.env)
   let iv ← holding [v,ov] (eval b X.env)
   standAt pos
   holding [v,ov,iv] (setItem ov iv v)
   release [v,ov,iv] []):=by intro _;rfl):QG X (.Subscript a b pos) (fun d env=>bnd (ta env) fun x=>bnd (tb env) fun y=>bnd (setD x y d) fun _=>ret env):=by
 refine wM (aEi ho hi (aFc hu) ha) ?_
 rintro v σ H Q ⟨m,env,st,d,env',st',S,E,r,e,k⟩
 obtain⟨x,st1,e1,e2⟩:=aJ e
 obtain⟨y,st2,e3,e4⟩:=aJ e2
 obtain⟨u,st3,e5,e6⟩:=aJ e4
 cases aP e6
 exact⟨m,env,st,x,st1,S,E,e1,fun v1 H1 m1 s1 S1 r1=>⟨m1,env,st1,y,st2,S1,E.stp s1,e3,fun v2 H2 m2 s2 S2 r2=>⟨m2,st2,x,y,d,_,S2,r1.stp s2,r2,(r.stp s1).stp s2,e5,fun H3 m3 s3 S3=>k _ H3 m3 ((s1.trans s2).trans s3) S3 (((E.stp s1).stp s2).stp s3)⟩⟩⟩
theorem bS:QSs X [] (fun env=>ret (.nx,env)):=by
 refine xW aCp ?_
 rintro D σ H ⟨m,env,st,fl,env',st',S,E,e,k⟩
 cases aP e
 exact k _ H m .refl S E
noncomputable def seqS(s1 s2:En→M (Fw×En))(env:En):M (Fw×En):=bnd (s1 env) fun p=>match p.1 with
 | .nx=>s2 p.2
 | .bk=>ret (.bk,p.2)
 | .ct=>ret (.ct,p.2)
 | .rt d=>ret (.rt d,p.2)
theorem aE{st:Stmt}{rest:List Stmt}(h1:QS X st s1)(h2:QSs X rest s2):QSs X (st::rest) (seqS s1 s2):=by
 refine xW (aAA h1 h2) ?_
 rintro D σ H ⟨m,env,st,fl,env',st',S,E,e,k⟩
 obtain⟨⟨f1,env1⟩,st1,e1,e2⟩:=aJ e
 refine⟨m,env,st,f1,env1,st1,S,E,e1,fun σ1 H1 m1 p1 S1 E1=>?_⟩
 cases f1 with
 |nx=>exact⟨m1,env1,st1,fl,env',st',S1,E1,e2,fun σ' H' m' p2 S2 E2=>k σ' H' m' (p1.trans p2) S2 E2⟩
 |bk=>cases aP e2;exact k σ1 H1 m1 p1 S1 E1
 |ct=>cases aP e2;exact k σ1 H1 m1 p1 S1 E1
 |rt d=>cases aP e2;exact k σ1 H1 m1 p1 S1 E1
theorem aL{st:Stmt}(h1:QS X st s1):QSs X [st] s1:=aCq h1
theorem gK(he:QE X a ta)(hs:swapsWith a none pos.line X.env=pure false:=by rfl):QS X (.Expr a pos) (fun env=>bnd (ta env) fun _=>ret (.nx,env)):=by
 refine lV (aCr he hs) ?_
 rintro D σ H ⟨m,env,st,fl,env',st',S,E,e,k⟩
 obtain⟨x,st1,e1,e2⟩:=aJ e
 cases aP e2
 exact⟨m,env,st,x,_,S,E,e1,fun v H' m' s S' r=>k σ H' m' s S' (E.stp s)⟩
theorem bG(he:QE X a ta):QS X (.Return (some a) pos) (fun env=>bnd (ta env) fun d=>ret (.rt d,env)):=by
 refine lV (aEh he) ?_
 rintro D σ H ⟨m,env,st,fl,env',st',S,E,e,k⟩
 obtain⟨x,st1,e1,e2⟩:=aJ e
 cases aP e2
 exact⟨m,env,st,x,_,S,E,e1,fun v H' m' s S' r=>k σ H' m' s S' (E.stp s) v r⟩
theorem eP{xs ys:List Stmt}(hc:QT X c tc)(ha:QSs X xs s1)(hb:QSs X ys s2):QS X (.If c xs ys pos) (fun env=>bnd (tc env) fun b=>if b=true then s1 env else s2 env):=by
 refine lV (aFX hc ha hb) ?_
 rintro D σ H ⟨m,env,st,fl,env',st',S,E,e,k⟩
 obtain⟨x,st1,e1,e2⟩:=aJ e
 refine⟨m,env,st,x,st1,S,E,e1,fun H' m' s S'=>?_⟩
 cases x with
 |true=>exact⟨m',env,st1,fl,env',st',S',E.stp s,e2,fun σ2 H2 m2 p2 S2 E2=>k σ2 H2 m2 (s.trans p2) S2 E2⟩
 |false=>exact⟨m',env,st1,fl,env',st',S',E.stp s,e2,fun σ2 H2 m2 p2 S2 E2=>k σ2 H2 m2 (s.trans p2) S2 E2⟩
theorem qS{K:PySem.W.Frag}{g:D→En→M En}{D:Ends}{σ:St}{H:Hp}(h:LS K (fun env=>bnd (ta env) fun d=>bnd (g d env) fun env'=>ret (.nx,env')) D σ H):LE K ta σ H fun x H1=>LG K g x σ H1 D.nx:=by
 obtain⟨m,env,st,fl,env',st',S,E,e,k⟩:=h
 obtain⟨x,st1,e1,e2⟩:=aJ e
 obtain⟨env1,st2,e3,e4⟩:=aJ e2
 cases aP e4
 exact⟨m,env,st,x,st1,S,E,e1,fun v H1 m1 s1 S1 r1=>⟨m1,env,st1,x,_,_,S1,E.stp s1,r1,e3,fun σ' H' m' p S' E'=>k σ' H' m' (s1.trans p) S' E'⟩⟩
theorem jV{g:D→En→M En}(he:QE X a ta)(hg:QG X b g)(hs:swapsWithSole [b] a pos.line X.env=pure false:=by rfl)(hw:swappedStores [b] a X.env=pure none:=by rfl)
  (h1:(assignEach [b] X.env).map (·.2)=[assign b X.env]:=by rfl):QS X (.Assign [b] a pos) (fun env=>bnd (ta env) fun d=>bnd (g d env) fun env'=>ret (.nx,env')):=
 lV (aEj he hg hs hw h1) fun _ _ _ h=>qS h
theorem aY{i:Nat}{x:Str}{pos':Pos}(hN:X.N.Nodup)(hi:X.N[i]?=some x)(hx:Loc X.env.scope x)(he:QE X a ta)(hs:swapsWith a (some (.Name x pos')) pos.line X.env=pure false:=by rfl)(hf:X.fn x=true∨X.env.scope.names.lookup x=some .local:=by first|exact .inl rfl|exact .inr rfl|assumption):
  QS X (.Assign [.Name x pos'] a pos) (fun env=>bnd (ta env) fun d=>bnd (setN i d env) fun env'=>ret (.nx,env')):=by
 refine lV (aEk (i:=i) hN hi hx he hs hf) fun D σ H h=>?_
 obtain⟨m,env,st,d,st',S,E,e,k⟩:=qS h
 refine⟨m,env,st,d,st',S,E,e,fun v H' m' s S' r=>?_⟩
 obtain⟨m1,env1,st1,d1,env',st2,S1,E1,r1,e1,k1⟩:=k v H' m' s S' r
 cases aP e1
 exact k1 _ H' m1 .refl S1 (E1.set r1)
noncomputable def whN(tc:En→M Bool)(tb:En→M (Fw×En)):Nat→En→M (Fw×En)
 |0,_=>bad
 |n+1,env=>bnd (tc env) fun b=>if b=true then bnd (tb env) fun p=>match p.1 with
   | .nx=>whN tc tb n p.2
   | .ct=>whN tc tb n p.2
   | .bk=>ret (.nx,p.2)
   | .rt d=>ret (.rt d,p.2) else ret (.nx,env)
open Classical in
noncomputable def whC(tc:En→M Bool)(tb:En→M (Fw×En))(env:En):M (Fw×En):=fun st=>if h:∃ r n,whN tc tb n env st=some r then some h.choose else none
theorem vJ{body:List Stmt}(hp:PassesOwn (model X.prog X.w) X.A X.env X.xe)(hc:QT X c tc)(hb:QSs X body s1):QS X (.While c body [] pos) (whC tc s1):=by
 refine lV (aAB hp hc hb) ?_
 rintro D σ H ⟨m,env,st,fl,env',st',S,E,e,k⟩
 unfold whC at e
 split at e
 ·rename_i h
  have h2:=h.choose_spec
  rw[Option.some.inj e] at h2
  obtain⟨n,h2⟩:=h2
  refine⟨fun n σ1 H1=>∃ m1 env1 st1,SR X.K m1 H1 st1∧RE X.K m1 H1 σ1 env1∧whN tc s1 n env1 st1=some ((fl,env'),st')∧Stp m H m1 H1,⟨n,m,env,st,S,E,h2, .refl⟩,?_⟩
  rintro n σ1 H1 ⟨m1,env1,st1,S1,E1,h3,p1⟩
  cases n with
  |zero=>cases h3
  |succ n=>
   rw[whN] at h3
   obtain⟨b,st2,e1,e2⟩:=aJ h3
   refine⟨m1,env1,st1,b,st2,S1,E1,e1,fun H2 m2 p2 S2=>?_⟩
   cases b with
   |false=>
    rw[if_neg (by decide)] at e2
    cases aP e2
    rw[if_neg (by decide)]
    exact k σ1 H2 m2 (p1.trans p2) S2 (E1.stp p2)
   |true=>
    rw[if_pos rfl] at e2 ⊢
    obtain⟨⟨f1,env2⟩,st3,e3,e4⟩:=aJ e2
    refine⟨fun σ3 H3=>∃ m1 env1 st1,SR X.K m1 H3 st1∧RE X.K m1 H3 σ3 env1∧whN tc s1 n env1 st1=some ((fl,env'),st')∧Stp m H m1 H3,fun σ3 H3 h=>⟨n,Nat.lt_succ_self n,h⟩,?_⟩
    refine⟨m2,env1,st2,f1,env2,st3,S2,E1.stp p2,e3,fun σ3 H3 m3 p3 S3 E3=>?_⟩
    have pp:=(p1.trans p2).trans p3
    cases f1 with
    |nx=>exact⟨m3,env2,st3,S3,E3,e4,pp⟩
    |ct=>exact⟨m3,env2,st3,S3,E3,e4,pp⟩
    |bk=>cases aP e4;exact k σ3 H3 m3 pp S3 E3
    |rt d=>cases aP e4;exact k σ3 H3 m3 pp S3 E3
 ·cases e
theorem vK{tc:En→M Bool}{tb:En→M (Fw×En)}:∀ {n:Nat} {env:En} {st:Sto} {r:(Fw×En)×Sto} {k:Nat},whN tc tb n env st=some r→n≤k→whN tc tb k env st=some r:=by
 intro n
 induction n with
 |zero=>intro env st r k h;cases h
 |succ n ih=>
  intro env st r k h hk
  obtain⟨k,rfl⟩:∃ j,k=j+1:=⟨k - 1,by omega⟩
  rw[whN] at h ⊢
  obtain⟨b,st2,e1,e2⟩:=aJ h
  rw[fW e1]
  cases b with
  |false=>exact e2
  |true=>
   rw[if_pos rfl] at e2 ⊢
   obtain⟨⟨f1,env2⟩,st3,e3,e4⟩:=aJ e2
   rw[fW e3]
   cases f1 with
   |nx=>exact ih e4 (by omega)
   |ct=>exact ih e4 (by omega)
   |bk=>exact e4
   |rt d=>exact e4
theorem wU{tc:En→M Bool}{tb:En→M (Fw×En)}{n:Nat}{env:En}{st:Sto}{r:(Fw×En)×Sto}(h:whN tc tb n env st=some r):whC tc tb env st=some r:=by
 unfold whC
 have hx:∃ r n,whN tc tb n env st=some r:=⟨r,n,h⟩
 rw[dif_pos hx]
 obtain⟨k,hk⟩:=hx.choose_spec
 have h1:=vK h (Nat.le_max_left n k)
 have h2:=vK hk (Nat.le_max_right n k)
 rw[h1] at h2
 exact h2.symm
theorem aFd{tc:En→M Bool}{tb:En→M (Fw×En)}{env:En}{st:Sto}{r:(Fw×En)×Sto}(h:whC tc tb env st=some r):∃ n,whN tc tb n env st=some r:=by
 unfold whC at h
 split at h
 ·rename_i hx
  obtain⟨k,hk⟩:=hx.choose_spec
  rw[Option.some.inj h] at hk
  exact⟨k,hk⟩
 ·cases h
theorem tT{tc:En→M Bool}{tb:En→M (Fw×En)}{env env1:En}{st st1 st2:Sto}{r:(Fw×En)×Sto}(h1:tc env st=some (true,st1))(h2:tb env st1=some ((.nx,env1),st2))(h3:whC tc tb env1 st2=some r):whC tc tb env st=some r:=by
 obtain⟨n,h3⟩:=aFd h3
 exact wU (n:=n+1) (by rw[whN,fW h1,if_pos rfl,fW h2];exact h3)
theorem yD{tc:En→M Bool}{tb:En→M (Fw×En)}{env:En}{st st1:Sto}(h1:tc env st=some (false,st1)):whC tc tb env st=some ((.nx,env),st1):=
 wU (n:=1) (by rw[whN,fW h1,if_neg (by decide)];rfl)
theorem aCR{tc:En→M Bool}{tb:En→M (Fw×En)}{env env1:En}{st st1 st2:Sto}{d:D}(h1:tc env st=some (true,st1))(h2:tb env st1=some ((.rt d,env1),st2)):whC tc tb env st=some ((.rt d,env1),st2):=
 wU (n:=1) (by rw[whN,fW h1,if_pos rfl,fW h2];rfl)
end
end L2
end
section
namespace L2
open PySem PySem.Spec PyProof.Rows
abbrev Its':=List D×(Sto→Prop)
noncomputable def ItOk(K:PySem.W.Frag)(m0:List Addr)(H0:Hp)(J:It)(its:Its'):Prop:=∀ (i:Nat) m H st,Stp m0 H0 m H→SR K m H st→its.2 st→
 (∀ d,its.1[i]?=some d→J.go i H∧∀ x H',J.yld i H x H'→SR K m H' st∧Stp m H m H'∧RV K m H' x d)∧(i=its.1.length→J.stop i H)
noncomputable def LI(K:PySem.W.Frag)(ti:En→M Its'):TI:=fun σ H R=>∃ m env st its st',SR K m H st∧RE K m H σ env∧ti env st=some (its,st')∧∀ J H' m',Stp m H m' H'→SR K m' H' st'→ItOk K m' H' J its→R J H'
abbrev QI(X:Cx)(tg e:Expr)(ti:En→M Its'):Prop:=PI X tg e (LI X.K ti)
noncomputable def chars(x:Str):List D:=x.cps.toList.map fun c=>.s ⟨#[c]⟩
noncomputable def itD:D→M Its'
 | .t xs=>ret (xs,fun _=>True)
 | .k xs=>ret (xs,fun _=>True)
 | .f xs=>ret (xs,fun _=>True)
 | .r l=>bnd (getL l) fun xs=>ret (xs,fun st=>st[l]?=some (.l xs))
 | .s x=>ret (chars x,fun _=>True)
 |_=>bad
section
variable{X:Cx}{pos:Pos}{tg a b:Expr}{ta tb:En→M D}
theorem aFe{K:PySem.W.Frag}{m0:List Addr}{H0:Hp}{a:Addr}{xs:List D}{chk:Sto→Prop}(h:∀ m H st,Stp m0 H0 m H→SR K m H st→chk st→∃ vs,SqL K H a vs∧RVs K m H vs xs):ItOk K m0 H0 (Itl K a) (xs,chk):=by
 intro i m H st p S c
 obtain⟨vs,hs,r⟩:=h m H st p S c
 refine⟨fun d hd=>?_,fun hi=>⟨vs,hs,by rw[r.1,hi];exact Nat.le_refl _⟩⟩
 obtain⟨v,hv,rv⟩:=r.at hd
 refine⟨⟨vs,v,hs,hv⟩,fun x H' y=>?_⟩
 obtain⟨rfl,y⟩:=y
 have:=y vs hs
 rw[hv] at this
 cases this
 exact⟨S, .refl,rv⟩
theorem aFf{K:PySem.W.Frag}{m0:List Addr}{H0:Hp}{a:Addr}{xs:List D}{chk:Sto→Prop}(h:∀ m H st,Stp m0 H0 m H→SR K m H st→chk st→∃ vs,SqT K H a vs∧RVs K m H vs xs):ItOk K m0 H0 (Itt K a) (xs,chk):=by
 intro i m H st p S c
 obtain⟨vs,hs,r⟩:=h m H st p S c
 refine⟨fun d hd=>?_,fun hi=>⟨vs,hs,by rw[r.1,hi];exact Nat.le_refl _⟩⟩
 obtain⟨v,hv,rv⟩:=r.at hd
 refine⟨⟨vs,v,hs,hv⟩,fun x H' y=>?_⟩
 obtain⟨rfl,y⟩:=y
 have:=y vs hs
 rw[hv] at this
 cases this
 exact⟨S, .refl,rv⟩
theorem aFg{d:D}{its:Its'}{st st':Sto}(h:itD d st=some (its,st')):st'=st:=by
 cases d with
 |r l=>obtain⟨xs,st1,e2,e3⟩:=aJ h;obtain⟨_,rfl⟩:=hU e2;cases e3;rfl
 |_=>first|(cases h;rfl)|cases h
theorem fM(ha:QE X a ta):QI X tg a (fun env=>bnd (ta env) itD):=by
 refine tM (aBf (aCs ha) (aBf (aEm ha) (aEK ha))) ?_
 rintro σ H R ⟨m,env,st,its,st',S,E,e,k⟩
 obtain⟨x,st1,e1,e2⟩:=aJ e
 have hst:=aFg e2
 subst hst
 by_cases hs:∃ z,x=.s z
 ·obtain⟨z,rfl⟩:=hs
  cases e2
  refine .inr (.inr ⟨m,env,st,_,_,S,E,e1,fun v H' m' s S' r=>?_⟩)
  cases r
  refine⟨z,rfl,k _ H' m' s S' ?_⟩
  intro i m2 H2 st2 p2 S2 _
  refine⟨fun d hd=>?_,fun hi=>?_⟩
  ·unfold chars at hd
   rw[List.getElem?_map] at hd
   obtain⟨c,hc,rfl⟩:=Option.map_eq_some_iff.mp hd
   rw[Array.getElem?_toList] at hc
   refine⟨(Array.getElem?_eq_some_iff.mp hc).1,?_⟩
   rintro x H3 ⟨rfl,c',h1,rfl⟩
   rw[hc] at h1
   cases h1
   exact⟨S2, .refl, .s _⟩
  ·show z.cps.size≤i
   rw[hi]
   simp[chars]
 ·have hs':∀ z,x≠.s z:=fun z h=>hs ⟨z,h⟩
  have pick:(∃ xs,x=.t xs∨x=.k xs)∨(∃ xs,x=.f xs)∨∃ l,x=.r l:=by
   cases x with
   |t xs=>exact .inl ⟨xs, .inl rfl⟩
   |k xs=>exact .inl ⟨xs, .inr rfl⟩
   |f xs=>exact .inr (.inl ⟨xs,rfl⟩)
   |r l=>exact .inr (.inr ⟨l,rfl⟩)
   |s z=>exact absurd rfl (hs' z)
   |_=>cases e2
  rcases pick with⟨xs,hx⟩|hx
  ·refine .inr (.inl ⟨m,env,st,x,_,S,E,e1,fun v H' m' s S' r=>?_⟩)
   have hsq:∃ p,v=.ref p∧∀ m2 H2 st2,Stp m' H' m2 H2→SR X.K m2 H2 st2→its.2 st2→∃ vs,SqT X.K H2 p vs∧RVs X.K m2 H2 vs its.1:=by
    rcases hx with rfl|rfl
    ·cases e2
     cases r with
     |t e l q=>exact⟨_,rfl,fun m H st p S _=>⟨_,SqT.of (p.kt _ _ e rfl),RVs.stp ⟨l,q⟩ p⟩⟩
    ·cases e2
     cases r with
     |k e l q=>exact⟨_,rfl,fun m H st p S _=>⟨_,e H,RVs.stp ⟨l,q⟩ p⟩⟩
   obtain⟨p,rfl,hp⟩:=hsq
   obtain⟨vs,h1,h2⟩:=hp m' H' st' .refl S' (by rcases hx with rfl|rfl<;>(cases e2;trivial))
   exact⟨p,rfl,⟨vs,h1⟩,k _ H' m' s S' (aFf hp)⟩
  ·refine .inl ⟨m,env,st,x,_,S,E,e1,fun v H' m' s S' r=>?_⟩
   have hsq:∃ p,v=.ref p∧its.2 st'∧∀ m2 H2 st2,Stp m' H' m2 H2→SR X.K m2 H2 st2→its.2 st2→∃ vs,SqL X.K H2 p vs∧RVs X.K m2 H2 vs its.1:=by
    rcases hx with⟨xs,rfl⟩|⟨l,rfl⟩
    ·cases e2
     cases r with
     |f e l q=>exact⟨_,rfl,trivial,fun m H st p S _=>⟨_,(e.kp p.kt).sq,RVs.stp ⟨l,q⟩ p⟩⟩
    ·obtain⟨xs,st3,e3,e4⟩:=aJ e2
     obtain⟨h1,rfl⟩:=hU e3
     cases e4
     cases r with
     |r e=>
      refine⟨_,rfl,h1,fun m H st p S c=>?_⟩
      obtain⟨vs,o,rr⟩:=S.cel l _ _ (p.pre _ _ e) c
      exact⟨vs,SqL.of o,rr⟩
   obtain⟨p,rfl,hc,hp⟩:=hsq
   obtain⟨vs,h1,h2⟩:=hp m' H' st' .refl S' hc
   exact⟨p,rfl,⟨vs,h1⟩,k _ H' m' s S' (aFe hp)⟩
noncomputable def rangeD:List D→M Its'
 |[.i j]=>need (-(2 ^ 62)≤j∧j<2 ^ 62) (ret ((List.range j.toNat).map fun(k:Nat)=>D.i (0+(k:Int)),fun _=>True))
 |[.i i, .i j]=>need (-(2 ^ 62)≤i∧i<2 ^ 62∧-(2 ^ 62)≤j∧j<2 ^ 62) (ret ((List.range (j - i).toNat).map fun(k:Nat)=>D.i (i+(k:Int)),fun _=>True))
 |_=>bad
theorem aFh{K:PySem.W.Frag}{m0:List Addr}{H0:Hp}{lo:Int}{n:Nat}:ItOk K m0 H0 (Itr lo n) ((List.range n).map fun(k:Nat)=>D.i (lo+(k:Int)),fun _=>True):=by
 intro i m H st p S c
 refine⟨fun d hd=>?_,fun hi=>?_⟩
 ·rw[List.getElem?_map] at hd
  obtain⟨j,hj,rfl⟩:=Option.map_eq_some_iff.mp hd
  obtain⟨h1,h2⟩:=List.getElem?_eq_some_iff.mp hj
  simp at h1 h2
  subst h2
  refine⟨h1,?_⟩
  rintro x H' ⟨rfl,rfl⟩
  exact⟨S, .refl, .i _⟩
 ·show n≤i
  rw[hi]
  simp
theorem jH{t:En→M (List D)}{p:Pos}(hg:Gl X "range")(hm:X.mg "range"=none)(ha:QA X [a] t)(hs:starEach [a] X.env=[(false,eval a X.env)]:=by rfl):QI X tg (.Call (.Name "range" p) [a] [] pos) (fun env=>bnd (t env) fun xs=>need (xs.length=1) (rangeD xs)):=by
 refine tM (zI hg hm ha hs) ?_
 rintro σ H R ⟨m,env,st,its,st',S,E,e,k⟩
 obtain⟨xs,st1,e1,e2⟩:=aJ e
 obtain⟨hl,e2⟩:=fG e2
 match xs,hl,e1,e2 with
 |[.i j],_,e1,e2=>
  obtain⟨h,e2⟩:=fG e2
  cases aP e2
  refine⟨m,env,st,_,_,S,E,e1,fun vs H' m' s S' r=>?_⟩
  obtain⟨v,rfl,rv⟩:=gL r
  cases rv
  exact⟨j,rfl,h.1,h.2,k _ H' m' s S' aFh⟩
noncomputable def enumL(xs:List D):List D:=(List.range xs.length).map fun(k:Nat)=>D.t [.i (k:Nat),xs.getD k .no]
theorem nZ{xs:List D}{i:Nat}{d:D}(h:(enumL xs)[i]?=some d):∃ x,xs[i]?=some x∧d=.t [.i (i:Nat),x]:=by
 unfold enumL at h
 rw[List.getElem?_map] at h
 obtain⟨j,hj,rfl⟩:=Option.map_eq_some_iff.mp h
 obtain⟨h1,h2⟩:=List.getElem?_eq_some_iff.mp hj
 simp at h1 h2
 subst h2
 exact⟨xs[i],by simp[h1],by simp[List.getD_eq_getElem?_getD,h1]⟩
noncomputable def enumD:List D→M Its'
 |[.t xs]=>ret (enumL xs,fun _=>True)
 |[.k xs]=>ret (enumL xs,fun _=>True)
 |[.f xs]=>ret (enumL xs,fun _=>True)
 |[.r l]=>bnd (getL l) fun xs=>ret (enumL xs,fun st=>st[l]?=some (.l xs))
 |_=>bad
theorem yE{K:PySem.W.Frag}{m0:List Addr}{H0:Hp}{a:Addr}{xs:List D}{chk:Sto→Prop}(h:∀ m H st,Stp m0 H0 m H→SR K m H st→chk st→∃ vs,SqL K H a vs∧RVs K m H vs xs):ItOk K m0 H0 (Itel K a) (enumL xs,chk):=by
 intro i m H st p S c
 obtain⟨vs,hs,r⟩:=h m H st p S c
 refine⟨fun d hd=>?_,fun hi=>⟨vs,hs,by rw[hi,r.1];simp[enumL]⟩⟩
 obtain⟨x,hx,rfl⟩:=nZ hd
 obtain⟨v,hv,rv⟩:=r.at hx
 refine⟨⟨vs,v,hs,hv⟩,?_⟩
 rintro y H' ⟨T,z,rfl,hT,hz,rfl⟩
 have:=hz vs hs
 rw[hv] at this
 cases this
 obtain⟨S2,s2,r2⟩:=S.newT hT (.cons (.i _) (.cons rv .nil))
 exact⟨S2,s2,r2⟩
theorem yF{K:PySem.W.Frag}{m0:List Addr}{H0:Hp}{a:Addr}{xs:List D}{chk:Sto→Prop}(h:∀ m H st,Stp m0 H0 m H→SR K m H st→chk st→∃ vs,SqT K H a vs∧RVs K m H vs xs):ItOk K m0 H0 (Itet K a) (enumL xs,chk):=by
 intro i m H st p S c
 obtain⟨vs,hs,r⟩:=h m H st p S c
 refine⟨fun d hd=>?_,fun hi=>⟨vs,hs,by rw[hi,r.1];simp[enumL]⟩⟩
 obtain⟨x,hx,rfl⟩:=nZ hd
 obtain⟨v,hv,rv⟩:=r.at hx
 refine⟨⟨vs,v,hs,hv⟩,?_⟩
 rintro y H' ⟨T,z,rfl,hT,hz,rfl⟩
 have:=hz vs hs
 rw[hv] at this
 cases this
 obtain⟨S2,s2,r2⟩:=S.newT hT (.cons (.i _) (.cons rv .nil))
 exact⟨S2,s2,r2⟩
theorem tU{es:List Expr}{kk:Nat}{tpos p:Pos}{t:En→M (List D)}(hg:Gl X "enumerate")(hm:X.mg "enumerate"=none)(ha:QA X [a] t)(hs:starEach [a] X.env=[(false,eval a X.env)]:=by rfl):
  QI X (.Tuple es kk tpos) (.Call (.Name "enumerate" p) [a] [] pos) (fun env=>bnd (t env) enumD):=by
 refine tM (aBf (aAX hg hm ha hs) (aBc hg hm ha hs)) ?_
 rintro σ H R ⟨m,env,st,its,st',S,E,e,k⟩
 obtain⟨xs,st1,e1,e2⟩:=aJ e
 match xs,e1,e2 with
 |[.t xs],e1,e2=>
  cases aP e2
  refine .inl ⟨m,env,st,_,_,S,E,e1,fun vs H' m' s S' r=>?_⟩
  obtain⟨v,rfl,rv⟩:=gL r
  cases rv with
  |t e l q=>exact⟨_,rfl,⟨_,SqT.of e⟩,k _ H' m' s S' (yF fun m H st p S _=>⟨_,SqT.of (p.kt _ _ e rfl),RVs.stp ⟨l,q⟩ p⟩)⟩
 |[.k xs],e1,e2=>
  cases aP e2
  refine .inl ⟨m,env,st,_,_,S,E,e1,fun vs H' m' s S' r=>?_⟩
  obtain⟨v,rfl,rv⟩:=gL r
  cases rv with
  |k e l q=>exact⟨_,rfl,⟨_,e H'⟩,k _ H' m' s S' (yF fun m H st p S _=>⟨_,e H,RVs.stp ⟨l,q⟩ p⟩)⟩
 |[.f xs],e1,e2=>
  cases aP e2
  refine .inr ⟨m,env,st,_,_,S,E,e1,fun vs H' m' s S' r=>?_⟩
  obtain⟨v,rfl,rv⟩:=gL r
  cases rv with
  |f e l q=>exact⟨_,rfl,⟨_,e.sq⟩,k _ H' m' s S' (yE fun m H st p S _=>⟨_,(e.kp p.kt).sq,RVs.stp ⟨l,q⟩ p⟩)⟩
 |[.r l],e1,e2=>
  obtain⟨xs,st3,e3,e4⟩:=aJ e2
  obtain⟨h1,rfl⟩:=hU e3
  cases aP e4
  refine .inr ⟨m,env,st,_,_,S,E,e1,fun vs H' m' s S' r=>?_⟩
  obtain⟨v,rfl,rv⟩:=gL r
  cases rv with
  |r e=>
   obtain⟨ws,o0,_⟩:=S'.cel l _ _ e h1
   refine⟨_,rfl,⟨_,SqL.of o0⟩,k _ H' m' s S' (yE fun m H st p S c=>?_)⟩
   obtain⟨vs,o,rr⟩:=S.cel l _ _ (p.pre _ _ e) c
   exact⟨vs,SqL.of o,rr⟩
noncomputable def revRD:List D→M Its'
 |[.i j]=>need (0≤j∧j<2 ^ 62) (ret ((List.range j.toNat).map fun(k:Nat)=>D.i (((j.toNat:Nat):Int) - 1 - (k:Int)),fun _=>True))
 |_=>bad
theorem aCS{t:En→M (List D)}{p p2 pos2:Pos}(hg:Gl X "reversed")(hm:X.mg "reversed"=none)(hgr:Gl X "range")(hmr:X.mg "range"=none)(ha:QA X [a] t)
  (h:PI X tg (.Call (.Name "reversed" p) [.Call (.Name "range" p2) [a] [] pos2] [] pos) (iRevR (LA X.K t))):QI X tg (.Call (.Name "reversed" p) [.Call (.Name "range" p2) [a] [] pos2] [] pos) (fun env=>bnd (t env) revRD):=by
 refine tM h ?_
 rintro σ H R ⟨m,env,st,its,st',S,E,e,k⟩
 obtain⟨xs,st1,e1,e2⟩:=aJ e
 match xs,e1,e2 with
 |[.i j],e1,e2=>
  obtain⟨h,e2⟩:=fG e2
  cases aP e2
  refine⟨m,env,st,_,_,S,E,e1,fun vs H' m' s S' r=>?_⟩
  obtain⟨v,rfl,rv⟩:=gL r
  cases rv
  refine⟨j.toNat,by rw[Int.toNat_of_nonneg h.1],by omega,k _ H' m' s S' ?_⟩
  intro i m2 H2 st2 p2 S2 _
  refine⟨fun d hd=>?_,fun hi=>?_⟩
  ·rw[List.getElem?_map] at hd
   obtain⟨j',hj,rfl⟩:=Option.map_eq_some_iff.mp hd
   obtain⟨h1,h2⟩:=List.getElem?_eq_some_iff.mp hj
   simp at h1 h2
   subst h2
   refine⟨by show i<j.toNat;omega,?_⟩
   rintro x H3 ⟨rfl,rfl⟩
   exact⟨S2, .refl, .i _⟩
  ·show j.toNat≤i
   rw[hi]
   simp
end
end L2
end
section
namespace L2
open PySem PySem.Spec PyProof.Rows
open Classical in
noncomputable def chkM{α:Type}(c:Sto→Prop)(x:M α):M α:=fun st=>if c st then x st else none
theorem mN{α:Type}{c:Sto→Prop}{x:M α}{st:Sto}{r:α×Sto}(h:chkM c x st=some r):c st∧x st=some r:=by
 unfold chkM at h
 split at h
 ·exact⟨by assumption,h⟩
 ·cases h
theorem iM{α:Type}{c:Sto→Prop}{x:M α}{st:Sto}(h:c st):chkM c x st=x st:=by unfold chkM;rw[if_pos h]
noncomputable def forD(c:Sto→Prop)(g:D→En→M En)(tb:En→M (Fw×En)):List D→En→M (Fw×En)
 |[],env=>chkM c (ret (.nx,env))
 |x::xs,env=>chkM c (bnd (g x env) fun env1=>bnd (tb env1) fun p=>match p.1 with
   | .nx=>forD c g tb xs p.2
   | .ct=>forD c g tb xs p.2
   | .bk=>ret (.nx,p.2)
   | .rt d=>ret (.rt d,p.2))
section
variable{X:Cx}{pos:Pos}{tg a b iter:Expr}{ti:En→M Its'}{g:D→En→M En}{s1:En→M (Fw×En)}
theorem jI{body:List Stmt}(hp:PassesOwn (model X.prog X.w) X.A X.env X.xe)(hc:X.calm=true)(hi:QI X tg iter ti)(hg:QG X tg g)(hb:QSs X body s1)
  (hs:∀ x,foldedSetIterable iter X.env x=pure x:=by intro _;rfl):QS X (.For tg iter body [] pos) (fun env=>bnd (ti env) fun its=>forD its.2 g s1 its.1 env):=by
 refine lV (aEn hp hc hi hg hb hs) ?_
 rintro D σ H ⟨m,env,st,fl,env',st',S,E,e,k⟩
 obtain⟨its,st1,e1,e2⟩:=aJ e
 refine⟨m,env,st,its,st1,S,E,e1,fun J H1 m1 p1 S1 O=>?_⟩
 refine⟨fun i n σ2 H2=>∃ m2 env2 st2,n=its.1.length - i∧i≤its.1.length∧SR X.K m2 H2 st2∧RE X.K m2 H2 σ2 env2∧forD its.2 g s1 (its.1.drop i) env2 st2=some ((fl,env'),st')∧Stp m1 H1 m2 H2,
  ⟨its.1.length,m1,env,st1,by simp,Nat.zero_le _,S1,E.stp p1,e2, .refl⟩,?_⟩
 rintro i n σ2 H2 ⟨m2,env2,st2,rfl,hi,S2,E2,h2,p2⟩
 by_cases hlt:i<its.1.length
 ·have hd:its.1.drop i=its.1[i]::its.1.drop (i+1):=List.drop_eq_getElem_cons hlt
  rw[hd,forD] at h2
  obtain⟨hc2,h2⟩:=mN h2
  obtain⟨env3,st3,e3,e4⟩:=aJ h2
  obtain⟨⟨f1,env4⟩,st4,e5,e6⟩:=aJ e4
  obtain⟨O1,_⟩:=O i m2 H2 st2 p2 S2 hc2
  obtain⟨go,yld⟩:=O1 its.1[i] (by simp[hlt])
  refine .inr ⟨go,fun σ5 H5=>∃ m2 env2 st2,SR X.K m2 H5 st2∧RE X.K m2 H5 σ5 env2∧forD its.2 g s1 (its.1.drop (i+1)) env2 st2=some ((fl,env'),st')∧Stp m1 H1 m2 H5,
   fun σ5 H5 ⟨m5,env5,st5,S5,E5,h5,p5⟩=>⟨its.1.length - (i+1),by omega,m5,env5,st5,rfl,hlt,S5,E5,h5,p5⟩,fun x H' hy=>?_⟩
  obtain⟨S3,p3,r3⟩:=yld x H' hy
  refine⟨m2,env2,st2,its.1[i],env3,st3,S3,E2.stp p3,r3,e3,fun σ4 H4 m4 p4 S4 E4=>?_⟩
  refine⟨m4,env3,st3,f1,env4,st4,S4,E4,e5,fun σ5 H5 m5 p5 S5 E5=>?_⟩
  have pp:=((p2.trans p3).trans p4).trans p5
  cases f1 with
  |nx=>exact⟨m5,env4,st4,S5,E5,e6,pp⟩
  |ct=>exact⟨m5,env4,st4,S5,E5,e6,pp⟩
  |bk=>cases aP e6;exact k σ5 H5 m5 (p1.trans pp) S5 E5
  |rt d=>cases aP e6;exact k σ5 H5 m5 (p1.trans pp) S5 E5
 ·have hi2:i=its.1.length:=by omega
  subst hi2
  rw[List.drop_length,forD] at h2
  obtain⟨hc2,h2⟩:=mN h2
  cases aP h2
  exact .inl ⟨(O _ m2 H2 _ p2 S2 hc2).2 rfl,k σ2 H2 m2 (p1.trans p2) S2 E2⟩
noncomputable def capD(caps:List Nat)(env:En):En:=caps.map fun j=>(env[j]?).getD none
theorem RE.cap{K:PySem.W.Frag}{m:List Addr}{H:Hp}{σ:St}{env:En}(h:RE K m H σ env)(caps:List Nat):RE K m H (capsOf caps σ) (capD caps env):=by
 unfold capsOf capD
 refine⟨by simp,fun j d e=>?_⟩
 rw[List.getElem?_map] at e
 obtain⟨c,hc,e⟩:=Option.map_eq_some_iff.mp e
 cases q:env[c]? with
 |none=>rw[q] at e;cases e
 |some o=>
  rw[q] at e
  cases e
  obtain⟨v,h1,h2⟩:=h.2 c d q
  exact⟨v,by rw[List.getElem?_map,hc];simp[h1],h2⟩
theorem RE.app{K:PySem.W.Frag}{m:List Addr}{H:Hp}{σ:St}{env:En}{vs:List V}{ds:List D}(h:RE K m H σ env)(r:RVs K m H vs ds):RE K m H (vs.map some++σ) (ds.map some++env):=by
 refine⟨by simp[r.1,h.1],fun j d e=>?_⟩
 by_cases hj:j<ds.length
 ·rw[List.getElem?_append_left (by simpa using hj),List.getElem?_map] at e
  obtain⟨d',hd,e⟩:=Option.map_eq_some_iff.mp e
  cases e
  obtain⟨v,hv,rv⟩:=r.at hd
  exact⟨v,by rw[List.getElem?_append_left (by simp[r.1,hj]),List.getElem?_map,hv];rfl,rv⟩
 ·rw[List.getElem?_append_right (by simp;omega)] at e
  obtain⟨v,hv,rv⟩:=h.2 _ d e
  refine⟨v,?_,rv⟩
  rw[List.getElem?_append_right (by simp[r.1];omega)]
  simp only[List.length_map,r.1] at hv ⊢
  exact hv
noncomputable def compD(c:Sto→Prop)(bd:D→Sto→Option (List D))(tc:En→M Bool)(te:En→M D)(cap:En):List D→List D→M (List D)
 |[],acc=>chkM c (ret acc)
 |x::xs,acc=>chkM c fun st=>match bd x st with
  |some ds=>(bnd (tc (ds.map some++cap)) fun b=>if b=true then bnd (te (ds.map some++cap)) fun z=>compD c bd tc te cap xs (acc++[z]) else compD c bd tc te cap xs acc) st
  |none=>none
noncomputable def BdOk(K:PySem.W.Frag)(k:Nat)(g:TG)(bd:D→Sto→Option (List D)):Prop:=∀ m H st x d ds cs,SR K m H st→RV K m H x d→bd d st=some ds→∃ vs:List V,vs.length=k∧RVs K m H vs ds∧g x (nones k++cs) H fun σ' H''=>σ'=vs.map some++cs∧H''=H
noncomputable def bd1(d:D)(_:Sto):Option (List D):=some [d]
theorem hX{K:PySem.W.Frag}:BdOk K 1 (gName 0) bd1:=by
 intro m H st x d ds cs S r h
 cases h
 exact⟨[x],rfl, .one r,rfl,rfl⟩
noncomputable def bdT(n:Nat)(d:D)(st:Sto):Option (List D):=match seqOf st d with
 |some xs=>if xs.length=n then some xs else none
 |none=>none
theorem aBr{n:Nat}{d:D}{st:Sto}{ds:List D}(h:bdT n d st=some ds):seqOf st d=some ds∧ds.length=n:=by
 unfold bdT at h
 cases q:seqOf st d with
 |none=>rw[q] at h;cases h
 |some xs=>
  rw[q] at h
  dsimp only at h
  split at h
  ·cases h;exact⟨rfl,by assumption⟩
  ·cases h
noncomputable def gNames:Nat→Nat→TGs
 |_,0=>gNil
 |i,n+1=>gCons (gName i) (gNames (i+1) n)
theorem sM:∀ {n i:Nat} {vs pre:List V} {cs:St} {H:Hp},vs.length=n→pre.length=i→gNames i n vs (pre.map some++(nones n++cs)) H fun σ' H''=>σ'=(pre++vs).map some++cs∧H''=H
 |0,i,[],pre,cs,H,_,_=>⟨rfl,by simp[nones],rfl⟩
 |n+1,i,v::vs,pre,cs,H,hl,hp=>by
  refine⟨v,vs,rfl,?_⟩
  have e:(pre.map some++(nones (n+1)++cs)).set i (some v)=(pre++[v]).map some++(nones n++cs):=by
   rw[List.set_append_right _ _ (by simp[hp])]
   simp[hp,nones,List.replicate_succ]
  show gNames (i+1) n vs ((pre.map some++(nones (n+1)++cs)).set i (some v)) H _
  rw[e]
  have:=sM (n:=n) (i:=i+1) (vs:=vs) (pre:=pre++[v]) (cs:=cs) (H:=H) (by simpa using hl) (by simp[hp])
  simpa using this
theorem oW{K:PySem.W.Frag}{n:Nat}:BdOk K n (fun v σ H Q=>gTup K n (gNames 0 n) v σ H Q∨gTupL K n (gNames 0 n) v σ H Q) (bdT n):=by
 intro m H st x d ds cs S r h
 obtain⟨h1,h2⟩:=aBr h
 obtain⟨a,vs,rfl,hs,rr⟩:=lA S r h1
 have hl:vs.length=n:=by rw[rr.1];exact h2
 have body:=sM (n:=n) (i:=0) (vs:=vs) (pre:=[]) (cs:=cs) (H:=H) hl rfl
 refine⟨vs,hl,rr,?_⟩
 rcases hs with hs|hs
 ·exact .inr ⟨a,vs,rfl,hs,hl,by simpa using body⟩
 ·exact .inl ⟨a,vs,rfl,hs,hl,by simpa using body⟩
abbrev QF(X:Cx)(ifs:List Expr)(tc:En→M Bool):Prop:=PF X ifs (LT X.K tc)
theorem gP:QF X [] (fun _=>ret true):=by
 intro pins s σ H Q I h
 obtain⟨m,env,st,d,st',S,E,e,k⟩:=h
 cases aP e
 exact aEN pins s σ H Q I (k H m .refl S)
theorem tV{c:Expr}{tc:En→M Bool}(h:QT X c tc):QF X [c] tc:=aEO h
theorem sO{K:PySem.W.Frag}{k:Nat}{caps:List Nat}{g:TG}{bd:D→Sto→Option (List D)}{tc:En→M Bool}{te:En→M D}(hbd:BdOk K k g bd){σ:St}{H:Hp}{Q:VK}
  (h:LE K (fun env=>bnd (ti env) fun its=>need (its.1.length<sizeLine) (bnd (compD its.2 bd tc te (capD caps env) its.1 []) fun zs=>fun st=>some (.r st.length,st++[.l zs]))) σ H Q):tCompG k caps (LI K ti) g (LT K tc) (LE K te) σ H Q:=by
 obtain⟨m,env,st,d,st',S,E,e,kk⟩:=h
 obtain⟨its,st1,e1,e2⟩:=aJ e
 obtain⟨hlen,e2⟩:=fG e2
 obtain⟨zs,st2,e3,e4⟩:=aJ e2
 cases e4
 refine⟨m,env,st,its,st1,S,E,e1,fun J H1 m1 p1 S1 O=>?_⟩
 refine⟨its.1.length,fun i ws H2=>∃ m2 st3 acc,i≤its.1.length∧SR K m2 H2 st3∧RVs K m2 H2 ws acc∧compD its.2 bd tc te (capD caps env) (its.1.drop i) acc st3=some (zs,st2)∧Stp m1 H1 m2 H2,hlen,
  ⟨m1,st1,[],Nat.zero_le _,S1, .nil,e3, .refl⟩,?_⟩
 rintro i ws H2 ⟨m2,st3,acc,hi,S2,rw,h2,p2⟩
 by_cases hlt:i<its.1.length
 ·have hd:its.1.drop i=its.1[i]::its.1.drop (i+1):=List.drop_eq_getElem_cons hlt
  rw[hd,compD] at h2
  obtain⟨hc2,h2⟩:=mN h2
  cases q:bd its.1[i] st3 with
  |none=>rw[q] at h2;cases h2
  |some ds=>
   rw[q] at h2
   obtain⟨b,st4,e5,e6⟩:=aJ h2
   obtain⟨O1,_⟩:=O i m2 H2 st3 p2 S2 hc2
   obtain⟨go,yld⟩:=O1 its.1[i] (by simp[hlt])
   refine .inr ⟨go,hlt,fun x H' hy=>?_⟩
   obtain⟨S3,p3,r3⟩:=yld x H' hy
   obtain⟨vs,hvl,rvs,hg⟩:=hbd m2 H' st3 x its.1[i] ds (capsOf caps σ) S3 r3 q
   have E3:RE K m2 H' (vs.map some++capsOf caps σ) (ds.map some++capD caps env):=(((E.stp p1).stp (p2.trans p3)).cap caps).app rvs
   refine⟨vs,hvl,hg,m2,_,st3,b,st4,S3,E3,e5,fun H4 m4 p4 S4=>?_⟩
   cases b with
   |false=>
    rw[if_neg (by decide)] at e6 ⊢
    exact⟨m4,st4,acc,hlt,S4,rw.stp (p3.trans p4),e6,(p2.trans p3).trans p4⟩
   |true=>
    rw[if_pos rfl] at e6 ⊢
    obtain⟨z,st5,e7,e8⟩:=aJ e6
    exact⟨m4,_,st4,z,st5,S4,E3.stp p4,e7,fun v5 H5 m5 p5 S5 r5=>⟨m5,st5,acc++[z],hlt,S5,(rw.stp ((p3.trans p4).trans p5)).append (.one r5),e8,((p2.trans p3).trans p4).trans p5⟩⟩
 ·have hi2:i=its.1.length:=by omega
  subst hi2
  rw[List.drop_length,compD] at h2
  obtain⟨hc2,h2⟩:=mN h2
  cases aP h2
  refine .inl ⟨(O _ m2 H2 _ p2 S2 hc2).2 rfl,fun p hp=>?_⟩
  obtain⟨S3,p3,r3⟩:=S2.newL hp rw
  exact kk _ _ _ ((p1.trans p2).trans p3) S3 r3
theorem gG{elt:Expr}{ifs:List Expr}{x:Str}{xs:List Str}{scope:Scope}{cl:List (Str×Addr)}{cn:List Str}{caps:List Nat}{g:TG}{bd:D→Sto→Option (List D)}{tc:En→M Bool}{te:En→M D}
  (hbd:BdOk X.K xs.length g bd)(hc:X.calm=true)(hi:QI X tg iter ti)(cp:Caps X scope x cl cn caps)(hg:∀ C ex s H,PG (cxComp X (xs++cn) scope cl C ex s H) tg g)(hif:∀ C ex s H,QF (cxComp X (xs++cn) scope cl C ex s H) ifs tc)
  (he:∀ C ex s H,QE (cxComp X (xs++cn) scope cl C ex s H) elt te)
  (hs:∀ x,foldedSetIterable iter X.env x=pure x:=by intro _;rfl):
  QE X (.ListComp elt [⟨tg,iter,ifs,0⟩] scope pos) (fun env=>bnd (ti env) fun its=>need (its.1.length<sizeLine) (bnd (compD its.2 bd tc te (capD caps env) its.1 []) fun zs=>fun st=>some (.r st.length,st++[.l zs]))):=
 fV (aBa hc hi cp hg hif he hs) fun _ _ _ h=>sO hbd h
end
noncomputable def runF(n p:Nat)(ts:En→M (Fw×En))(ds:List D):M D:=fun st=>if ds.length=p then match ts (ds.map some++List.replicate (n - p) none) st with
 |some ((.rt d,_),st')=>some (d,st')
 |some ((.nx,_),st')=>some (.no,st')
 |_=>none else none
theorem sP{n p:Nat}{ts:En→M (Fw×En)}{ds:List D}{st st':Sto}{d:D}(h:runF n p ts ds st=some (d,st')):ds.length=p∧∃ fl env',ts (ds.map some++List.replicate (n - p) none) st=some ((fl,env'),st')∧(fl=.rt d∨fl=.nx∧d=.no):=by
 unfold runF at h
 split at h
 ·rename_i hl
  refine⟨hl,?_⟩
  split at h
  ·rename_i q;cases h;exact⟨_,_,q, .inl rfl⟩
  ·rename_i q;cases h;exact⟨_,_,q, .inr ⟨rfl,rfl⟩⟩
  ·cases h
 ·cases h
section
variable{P:Program}{w:World}{K:PySem.W.Frag}{mg:Str→Option Value}{base:Heap}
theorem jE{x qual:Str}{st:Stmt}{f:Addr}{fd:FuncData}{N ps:List Str}{k:Nat}{ts:En→M (Fw×En)}(F:Fun K x qual st f fd)(S:FnScope N ps (defScope st))
  (hbody:∀ (cdv:Value) (A:Around) (outer:List Env) (s:Shared) (H:Hp) (E:XK),Room k (A.deeper (envOfC qual (defScope st) s.heap.objs.size f cdv))→
   QSs (cxOf CX0 P w K mg base N qual (defScope st) f cdv A outer s H E).nox (defBody st) ts):FnOk P w K mg base CX0 (k+1) f fd ps (LF K (runF N.length ps.length ts)):=by
 refine F.ok S (fun vs H Q E h=>?_) fun cdv A outer s H vs Q E hr h=>?_
 ·obtain⟨m,st,ds,d,st',S,r,e,k⟩:=h
  rw[r.1];exact(sP e).1
 ·obtain⟨m,st0,ds,d,st',S0,r,e,k⟩:=h
  obtain⟨hl,fl,env',e1,hf⟩:=sP e
  refine⟨_,hbody cdv A outer s H E hr,m,_,st0,fl,env',st',S0,?_,e1,fun σ' H' m' p S' E'=>?_⟩
  ·have e0:RE K m H (List.replicate (N.length - ps.length) none) (List.replicate (N.length - ps.length) none):=⟨by simp,fun j d e=>by
    rw[List.getElem?_replicate] at e;split at e<;>cases e⟩
   have:=e0.app r
   unfold start
   rw[r.1,hl]
   exact this
  ·rcases hf with rfl|⟨rfl,rfl⟩
   ·exact fun v rv=>k v H' m' p S' rv
   ·exact k .non H' m' p S' .no
end
end L2
end
section
namespace L2
open PySem PySem.Spec PyProof.Rows
section
variable{X:Cx}
theorem aBs{i:Nat}{y:Str}{py spos:Pos}{elt iter tg:Expr}{ifs:List Expr}{x:Str}{xs:List Str}{pos:Pos}{scope:Scope}{cl:List (Str×Addr)}{cn:List Str}{caps:List Nat}{wi:TI}{g:TG}{tc:TT}{te:TE}
  (hN:X.N.Nodup)(hi':X.N[i]?=some y)(hy:Loc X.env.scope y)
  (hc:X.calm=true)(hi:PI X tg iter wi)(cp:Caps X scope x cl cn caps)(hg:∀ C ex s H,PG (cxComp X (xs++cn) scope cl C ex s H) tg g)(hif:∀ C ex s H,PF (cxComp X (xs++cn) scope cl C ex s H) ifs tc)
  (he:∀ C ex s H,PE (cxComp X (xs++cn) scope cl C ex s H) elt te)
  (hsw:swapsWith (.ListComp elt [⟨tg,iter,ifs,0⟩] scope pos) (some (.Name y py)) spos.line X.env=pure true:=by rfl)
  (hs:∀ x,foldedSetIterable iter X.env x=pure x:=by intro _;rfl)(hf:X.fn y=true∨X.env.scope.names.lookup y=some .local:=by first|exact .inl rfl|exact .inr rfl|assumption):
  PS X (.Assign [.Name y py] (.ListComp elt [⟨tg,iter,ifs,0⟩] scope pos) spos) (tAsg (tCompG xs.length caps wi g tc te) (gName i)):=by
 intro pins s σ H Dn I h
 rw[exec_Assign_Name_used _ _ _ _ hsw]
 refine wpAny_bind (wpAny_standAt (wpAny_bind ?_))
 show wpAny _ X.A (do let _ ← comprehension (.ListComp elt [⟨tg,iter,ifs,0⟩] scope pos) scope X.env _ (newList []) false (eval iter X.env) (some (assign (.Name y py) X.env))) _ _ s
 refine wpAny_bind (wpAny_mono (wpAny_comprehension_free (use:=some (assign (.Name y py) X.env)) (Q:=fun _ s'=>SP X pins Dn .next s') rfl hs cp.clos cp.kind cp.names
  (thn (hi pins s σ H _ I h) fun v s1 h1=>thn h1 fun itv s2 h2=>?_)) (fun _ s' hq=>wpAny_pure (wpAny_pure hq)) fun _ _ e=>e)
 obtain⟨it,fp,tn,J,H2,e,I2,T,st2,f2,n,W,hn,w0,turn⟩:=h2
 subst e
 refine wpAny_newObj_type (wpAny_newFunctionEnv cp.cell (by intro y hy;simp at hy) (fun h₁ hns₁ hsb₁=>?_) cp.kind)
 dsimp only at hns₁ hsb₁ ⊢
 generalize hG:s2.heap.push { cls:=.type "list",dict:=none,data:=.seq ([]:List Value).toArray }=G at hns₁ hsb₁ ⊢
 have hC:G.objs.size=s2.heap.objs.size+1:=by rw[← hG,Heap.size_push]
 generalize hCe:G.objs.size=C at hns₁ hsb₁ hC ⊢
 generalize hDe:s2.heap.objs.size=D at hC ⊢
 have hDC:D≠C:=by rw[hC];exact Nat.ne_of_lt (Nat.lt_succ_self _)
 have below:∀ b,b<D→b≠C∧b≠D:=fun b hb=>⟨by rw[hC];exact Nat.ne_of_lt (Nat.lt_succ_of_lt hb),Nat.ne_of_lt hb⟩
 have old:∀ b o,s2.heap.get? b=some o→h₁.get? b=some o:=fun b o e=>hsb₁.extBut b o (below b (hDe ▸ Heap.lt_size e)).1 (Heap.get?_push_of_some _ (hG ▸ Heap.get?_push_of_some _ e))
 have hacc:h₁.get? D=some (listO [] 0):=hsb₁.extBut _ _ hDC (Heap.get?_push_of_some _ (by rw[← hG,← hDe];exact Heap.get?_push_size _ rfl))
 have fpl:∀ b∈fp,b<D:=fun b hb=>by
  obtain⟨o,e,_⟩:=T.obj _ _ st2 b hb
  exact hDe ▸ Heap.lt_size e
 have hDs:s2.heap.objs.size≤D:=Nat.le_of_eq hDe
 have hCs:s2.heap.objs.size≤C:=by omega
 have fsN:∀ {b},b≠X.env.locals→b∉X.fs→b∉frs X.stack:=fun {b} h1 h2 z=>(List.mem_cons.mp (I2.stkSub b z)).elim h1 h2
 have big:∀ {a},s2.heap.objs.size≤a→a∉frs X.stack:=fun {a} ha=>fsN (Nat.ne_of_gt (Nat.lt_of_lt_of_le I2.lt ha)) (I2.nofs ha)
 have cellLt:∀ y c,cl.lookup y=some c→c<D:=fun y c e=>by
  obtain⟨v,q⟩:=I2.cell y c (cp.sub y c e)
  exact hDe ▸ q.lt
 have ok:(cxComp X (xs++cn) scope cl C fp s2 H2).Ok:=by
  refine⟨I2.ok.mod,cp.kind,I2.ok.glob,I2.ok.blt,hCs,fun y z c h1 h2=>I2.ok.inj y z c (cp.sub y c h1) (cp.sub z c h2),fun y hy=>cp.has y hy,fun y c hf=>(by cases hf),I2.ok.hd,I2.ok.frames, .inl rfl,fun b hb=>?_,I2.bs,Nat.le_trans I2.ok.bsz I2.sz,fun b o e hb=>?_,fun b hb=>?_,I2.stack,I2.stkFree⟩
  ·exact⟨(below b (fpl b hb)).1,fun y c e=>(f2 b hb).2.2.2.2.1 y c (cp.sub y c e)⟩
  ·obtain⟨_,_,_,q,_⟩:=f2 b hb
   rcases q with q|q
   ·exact I2.ok.noex b o e q
   ·exact absurd (Nat.lt_of_lt_of_le (Heap.lt_size (I2.ok.bs b o e).1) q) (Nat.lt_irrefl _)
  ·exact fsN (f2 b hb).2.1 (f2 b hb).2.2.1
 have stat:∀ {us:List Value} {nn:Nat} {H':Hp},(∀ b∈fp,H' b=none)→∀ b∈fp,FpOk (cxComp X (xs++cn) scope cl C fp s2 H2) [(D,listO us nn)] H' b:=fun {us nn H'} hn b hb=>
  ⟨hn b hb,(below b (fpl b hb)).1,fsN (f2 b hb).2.1 (f2 b hb).2.2.1, .inl hb,fun y c e=>(f2 b hb).2.2.2.2.1 y c (cp.sub y c e),fun p hp=>by
   obtain rfl:p=(D,listO us nn):=by simpa[cxComp] using hp
   exact(below b (fpl b hb)).2.symm⟩
 have pinD:∀ {σ':St} {H':Hp} {s':Shared} {us:List Value} {nn:Nat},Inv (cxComp X (xs++cn) scope cl C fp s2 H2) [] σ' H' s'→H' D=none→s'.heap.get? D=some (listO us nn)→Inv (cxComp X (xs++cn) scope cl C fp s2 H2) [(D,listO us nn)] σ' H' s':=fun {σ' H' s' us nn} J hn e=>
  J.pins_of fun p hp=>by
   obtain rfl:p=(D,listO us nn):=by simpa using hp
   exact⟨e,hn,hDC,big hDs,fun v z=>by cases z⟩
 have I4:∀ tk,Inv (cxComp X (xs++cn) scope cl C fp s2 H2) [] (nones xs.length++capsOf caps σ) H2 { s2 with heap:=h₁,toks:=tk }:=fun tk=>by
  refine⟨ok,rfl,I2.bare,Un.kept old,⟨_,hns₁,fun i y v h1 h2 h3=>?_⟩,fun y c e=>?_,I2.hok.fresh hCs,fun y c e=>I2.freeC y c (cp.sub y c e),fun p hp=>absurd (show p∈([]:List (Addr×Obj)) from hp) (by simp),I2.hok.kept old,?_⟩
  ·have hik:xs.length≤i:=by
    rcases Nat.lt_or_ge i xs.length with hlt|hge
    ·rw[List.getElem?_append_left (by simpa using hlt),List.getElem?_replicate,if_pos hlt] at h2
     cases h2
    ·exact hge
   obtain⟨k,rfl⟩:∃ k,i=xs.length+k:=⟨i - xs.length,by omega⟩
   ·have h1':cn[k]?=some y:=by
     have q:(xs++cn)[xs.length+k]?=some y:=h1
     rwa [List.getElem?_append_right (by omega),Nat.add_sub_cancel_left] at q
    obtain⟨j,ej,eN,vis,kd,kd'⟩:=cp.cap k y h1'
    have h2':σ[j]?=some (some v):=by
     have q:(capsOf caps σ)[k]?=some (some v):=by
      rwa [List.getElem?_append_right (by simp),List.length_replicate,Nat.add_sub_cancel_left] at h2
     unfold capsOf at q
     rw[List.getElem?_map,ej] at q
     have q':(σ[j]?).getD none=some v:=by simpa using q
     cases eσ:σ[j]? with
     |none=>rw[eσ] at q';cases q'
     |some z=>rw[eσ] at q';rw[show z=some v from q']
    obtain⟨m,hm,hl⟩:=I2.loc
    obtain⟨u,ru,lk⟩:=hl j y v eN h2' vis
    refine⟨u,ru,?_⟩
    obtain⟨c,ec⟩:=cp.has y kd'
    rcases lk with⟨k1,_⟩|⟨_,c',ec',z⟩
    ·rcases kd with kd|kd<;>(rw[kd] at k1;cases k1)
    ·have:c=c':=Option.some.inj ((cp.sub y c ec).symm.trans ec')
     subst this
     obtain⟨o,ho,hd⟩:=z
     exact .inr ⟨kd',c,ec,⟨o,old c o ho,hd⟩⟩
  ·obtain⟨v,o,ho,hd⟩:=I2.cell y c (cp.sub y c e)
   exact⟨v,o,old c o ho,hd⟩
  ·show _=(xs++cn).length
   simp[capsOf,cp.len]
 have loop:∀ s₃:Shared,Inv (cxComp X (xs++cn) scope cl C fp s2 H2) [] (nones xs.length++capsOf caps σ) H2 s₃→s₃.heap.get? D=some (listO [] 0)→tn 0 s₃.heap→
   codeAny (model X.prog X.w) X.A (.compLoop (.ListComp elt [⟨tg,iter,ifs,0⟩] scope pos) 0 (.ref it) (.ref D) (compEnvC scope cl C X.env))
    (compPost (model X.prog X.w) X.A X.xe (some (assign (.Name y py) X.env)) (fun _ s'=>SP X pins Dn .next s') (.ref D) C) s₃:=by
  intro s₃ I3 e3 t3
  refine mW (fun k s'=>∃ (i:Nat) (zs:List V) (us:List Value) (nn:Nat) (H':Hp),k=n+1 - i∧i≤n∧Inv (cxComp X (xs++cn) scope cl C fp s2 H2) [(D,listO us nn)] (nones xs.length++capsOf caps σ) H' s'∧tn i s'.heap∧(∀ b∈fp,H' b=none)∧W i zs H'∧Vals zs us∧zs.length≤i) ?_ (n+1)
   ⟨0,[],[],0,H2,rfl,Nat.zero_le _,pinD I3 (I2.hok.fresh hDs) e3,t3,fun b hb=>(f2 b hb).1,w0, .nil,Nat.le_refl _⟩
  rintro k s' ⟨i,zs,us,nn,H',rfl,hin,I',st',fr',w',vs',hl⟩
  have pD:=I'.pin (D,listO us nn) (List.mem_append_right _ (by simp))
  rcases turn i zs H' w' with⟨stop,fin⟩|⟨go,hlt,step⟩
  ·refine thn (T.done (cxComp X (xs++cn) scope cl C fp s2 H2) rfl rfl rfl hc i _ s' _ H' (fun _ _=>False) I' (stat fr') st' stop) fun r s4 ⟨hr,I4'⟩=>?_
   subst hr
   obtain⟨m,hm,_⟩:=id I4'.loc
   obtain⟨h',hs',eh⟩:∃ h',Heap.SameBut C s4.heap h'∧h'=s4.heap:=⟨s4.heap,Heap.SameBut.refl _ _,rfl⟩
   obtain⟨e4,n4,_,_,_⟩:=I4'.pin (D,listO us nn) (List.mem_append_right _ (by simp))
   have e4:s4.heap.get? D=some (listO us nn):=e4
   have n4:H' D=none:=n4
   have nC:H' C=none:=I4'.free
   have kk:∀ b o,b≠C→s4.heap.get? b=some o→h'.get? b=some o:=fun b o hb e=>(hs'.2 b hb).trans e
   have un:Un (frs X.stack) fp H2 (upd H' D (.lst zs)) s2.heap h':=by
    have u:=I4'.base
    have ne:∀ b o,s2.heap.get? b=some o→b≠C∧b≠D:=fun b o e=>below b (hDe ▸ Heap.lt_size e)
    refine⟨fun b o e n0 hb hx=>kk b o (ne b o e).1 (u.keep b o e n0 hb hx),fun b o e n0 hb hx=>?_,fun b o e n0 hx=>?_,fun b o e hx=>?_,fun b xs e=>?_,fun b o xs e=>?_,fun b ps e=>?_⟩
    ·obtain⟨sl,q⟩:=u.slot b o e n0 hb hx
     exact⟨sl,kk b _ (ne b o e).1 q⟩
    ·rw[bL (ne b o e).2];exact u.free b o e n0 hx
    ·obtain⟨o',q⟩:=u.there b o e hx
     exact⟨o',kk b _ (ne b o e).1 q⟩
    ·have q:=u.tups b xs e
     rw[bL (bF q n4)];exact q
    ·have q:=u.frzs b o xs e
     rw[bL (bF q n4)];exact q
    ·obtain⟨more,q⟩:=u.tbls b ps e
     exact⟨more,by rw[bL (bF q n4)];exact q⟩
   have hokD:HOk X.prog X.w (upd H' D (.lst zs)) h':=fun b o e=>by
    by_cases hb:b=D
    ·subst hb
     rw[fE] at e;cases e
     exact⟨by omega,us,nn,vs',kk _ _ hDC e4⟩
    ·rw[bL hb] at e
     refine(I4'.hok b o e).stay (fun c v hcc q=>kk c v ?_ q) (fun c q=>?_) fun c xs q=>?_
     ·rintro rfl
      rcases hcc with z|z
      ·rw[← z,nC] at e;cases e
      ·rw[nC] at z;cases z
     ·rw[bL (bF q n4)];exact q
     ·rw[bL (bF q n4)];exact q
   have nCD:upd H' D (.lst zs) C=none:=by rw[bL (Ne.symm hDC)];exact nC
   have fin1:Inv X pins σ (upd H' D (.lst zs)) s4:=I2.call' (s':=s4) (ch:=fp) I4'.os (eh ▸ un) (eh ▸ hokD) I4'.bare fun b hb=>⟨(f2 b hb).2.2.2.1,(f2 b hb).2.1,(f2 b hb).2.2.2.2.1,(f2 b hb).2.2.2.2.2⟩
   have lC:C≠X.env.locals:=Nat.ne_of_gt (Nat.lt_of_lt_of_le I2.lt hCs)
   have cC:∀ z c,X.env.cells.lookup z=some c→c≠C:=fun z c e=>by
    obtain⟨v,q⟩:=I2.cell z c e
    exact Nat.ne_of_lt (Nat.lt_of_lt_of_le q.lt hCs)
   show wpAny _ X.A (assign (.Name y py) X.env (.ref D)) _ _ s4
   refine wpAny_assign_Name (rT fin1 hN hi' hy (v:=.ref D) (u:=.ref D) rfl (fun s' I' ⟨a,sb,ha⟩=>?_) hf)
   have aC:a≠C:=by
    rcases ha with rfl|ha
    ·exact Ne.symm lC
    ·exact cC _ _ ha
   refine⟨m,hm.sameBut sb (Ne.symm aC),fun h5 hs5=>⟨_,_,?_,fin D n4⟩⟩
   exact Inv.turned (t':=s'.toks) I' (fun b o hb e=>hs5.extBut b o hb e) nCD lC (.inr (Nat.le_trans I2.sz hCs)) cC fun p hp=>by
    obtain⟨e,_⟩:=I2.pin p hp
    exact Nat.ne_of_lt (Nat.lt_of_lt_of_le (Heap.lt_size e) hCs)
  ·refine thn (T.item (cxComp X (xs++cn) scope cl C fp s2 H2) rfl rfl rfl hc i _ s' _ H' (fun _ _=>False) I' (stat fr') st' go) fun r s4 ⟨u,hr,h4⟩=>?_
   subst hr
   refine thn h4 fun _ s5 ⟨y,H5,I5,r5,y5,st5,fr5⟩=>?_
   have I5':=I5.pinned (stat fr5) (T.obj _ _ st5)
   obtain⟨vs,hvl,hgs,step5⟩:=step y H5 y5
   refine thn (hg C fp s2 H2 _ s5 _ H5 y u _ I5' r5 hgs) fun _ s6 ⟨σ6,H6,I6,q6,q6'⟩=>?_
   subst q6;subst q6'
   have wk:∀ {H8:Hp} {s8:Shared} {pp:List (Addr×Obj)},Inv (cxComp X (xs++cn) scope cl C fp s2 H2) pp (vs.map some++capsOf caps σ) H8 s8→Inv (cxComp X (xs++cn) scope cl C fp s2 H2) pp (nones xs.length++capsOf caps σ) H8 s8:=fun {H8 s8 pp} J8=>by
    refine J8.weak (by simp[hvl]) fun j v e=>?_
    rcases Nat.lt_or_ge j xs.length with hlt|hge
    ·rw[List.getElem?_append_left (by simpa using hlt),List.getElem?_replicate,if_pos hlt] at e
     cases e
    ·rw[List.getElem?_append_right (by simpa using hge),List.length_replicate] at e
     rw[List.getElem?_append_right (by simpa[hvl] using hge),List.length_map,hvl]
     exact e
   refine thn (hif C fp s2 H2 _ s6 _ H6 _ I6 step5) fun ok s6' ⟨H6',I6',q6'⟩=>?_
   cases ok with
   |false=>
    obtain⟨e7,n7,_,_,_⟩:=I6'.pin (D,listO us nn) (List.mem_append_right _ (List.mem_append_left _ (by simp)))
    refine⟨n+1 - (i+1),by omega,i+1,zs,us,nn,H6',rfl,hlt,?_,?_,fun b hb=>?_,q6',vs',by omega⟩
    ·exact pinD (wk (I6'.pins_of fun p hp=>absurd hp (by simp))) n7 e7
    ·refine T.keep _ _ _ st5 fun b hb o e=>(I6'.pin (b,o) (List.mem_append_right _ (List.mem_append_right _ (gI hb e)))).1
    ·obtain⟨o,e,d⟩:=T.obj _ _ st5 b hb
     exact(I6'.pin (b,o) (List.mem_append_right _ (List.mem_append_right _ (gI hb e)))).2.1
   |true=>
    refine thn (he C fp s2 H2 _ s6' _ H6' _ I6' q6') fun v7 s7 ⟨z,H7,I7,r7,w7⟩=>?_
    obtain⟨e7,n7,_,_,_⟩:=I7.pin (D,listO us nn) (List.mem_append_right _ (List.mem_append_left _ (by simp)))
    have e7:s7.heap.get? D=some (listO us nn):=e7
    have n7:H7 D=none:=n7
    have hul:us.length≤i:=by rw[← vs'.length];exact hl
    refine wpAny_list_append_plain (hsz:=by rw[List.size_toArray];omega) ⟨nn,e7⟩ fun h8 p8 sb8=>?_
    obtain⟨n8,e8⟩:=p8
    have e8:h8.get? D=some (listO (us++[v7]) n8):=by rw[e8];simp[listO]
    have I8:Inv (cxComp X (xs++cn) scope cl C fp s2 H2) [] (vs.map some++capsOf caps σ) H7 { s7 with heap:=h8 }:=
     Inv.turned (t':=s7.toks) (I7.pins_of fun p hp=>absurd hp (by simp)) (fun b o hb e=>(sb8.2 b hb).trans e) n7 hDC (.inr hDs) (fun y' c e=>Nat.ne_of_lt (cellLt y' c e)) fun p hp=>absurd (show p∈([]:List (Addr×Obj)) from hp) (by simp)
    refine⟨n+1 - (i+1),by omega,i+1,zs++[z],us++[v7],n8,H7,rfl,hlt,?_,?_,fun b hb=>?_,w7,vs'.append (.cons r7 .nil),by rw[List.length_append];show zs.length+1≤i+1;omega⟩
    ·exact pinD (wk I8) n7 e8
    ·refine T.keep _ _ _ st5 fun b hb o e=>(sb8.2 b (below b (fpl b hb)).2).trans (I7.pin (b,o) (List.mem_append_right _ (List.mem_append_right _ (gI hb e)))).1
    ·obtain⟨o,e,d⟩:=T.obj _ _ st5 b hb
     exact(I7.pin (b,o) (List.mem_append_right _ (List.mem_append_right _ (gI hb e)))).2.1
 have t4:tn 0 h₁:=T.keep _ _ _ st2 fun b hb o e=>old b o e
 refine codeAny_compStart_list (loop _ (I4 _) hacc t4) (T.self _ 0 _ _ _ t4 (loop _ (I4 _) hacc t4))
theorem lM{i:Nat}{y:Str}{py spos:Pos}{elt tg iter:Expr}{ifs:List Expr}{x:Str}{xs:List Str}{pos:Pos}{scope:Scope}{cl:List (Str×Addr)}{cn:List Str}{caps:List Nat}{g:TG}{bd:D→Sto→Option (List D)}{ti:En→M Its'}{tc:En→M Bool}{te:En→M D}
  (hbd:BdOk X.K xs.length g bd)(hN:X.N.Nodup)(hi':X.N[i]?=some y)(hy:Loc X.env.scope y)(hc:X.calm=true)(hi:QI X tg iter ti)(cp:Caps X scope x cl cn caps)(hg:∀ C ex s H,PG (cxComp X (xs++cn) scope cl C ex s H) tg g)(hif:∀ C ex s H,QF (cxComp X (xs++cn) scope cl C ex s H) ifs tc)
  (he:∀ C ex s H,QE (cxComp X (xs++cn) scope cl C ex s H) elt te)
  (hsw:swapsWith (.ListComp elt [⟨tg,iter,ifs,0⟩] scope pos) (some (.Name y py)) spos.line X.env=pure true:=by rfl)
  (hs:∀ x,foldedSetIterable iter X.env x=pure x:=by intro _;rfl)(hf:X.fn y=true∨X.env.scope.names.lookup y=some .local:=by first|exact .inl rfl|exact .inr rfl|assumption):
  QS X (.Assign [.Name y py] (.ListComp elt [⟨tg,iter,ifs,0⟩] scope pos) spos) (fun env=>bnd ((fun env=>bnd (ti env) fun its=>need (its.1.length<sizeLine) (bnd (compD its.2 bd tc te (capD caps env) its.1 []) fun zs=>fun st=>some (.r st.length,st++[.l zs]))) env) fun d=>bnd (setN i d env) fun env'=>ret (.nx,env')):=by
 refine lV (aBs (i:=i) (tc:=LT X.K tc) (te:=LE X.K te) hN hi' hy hc hi cp hg hif he hsw hs hf) fun D σ H h=>?_
 have h2:=qS h
 refine sO hbd ?_
 obtain⟨m,env,st,d,st',S,E,e,k⟩:=h2
 refine⟨m,env,st,d,st',S,E,e,fun v H' m' s S' r=>?_⟩
 obtain⟨m1,env1,st1,d1,env',st2,S1,E1,r1,e1,k1⟩:=k v H' m' s S' r
 cases aP e1
 exact k1 _ H' m1 .refl S1 (E1.set r1)
noncomputable def lzipD:List D→M D
 |[.t xs, .t ys]=>need (xs.length=ys.length∧xs.length<sizeLine) fun st=>some (.r st.length,st++[.l (List.zipWith (fun x y=>D.t [x,y]) xs ys)])
 |_=>bad
theorem aCT{a b:Expr}{t:En→M (List D)}{p1 p2 pos1 pos2:Pos}(h:PE X (.Call (.Name "list" p1) [.Call (.Name "zip" p2) [a,b] [] pos2] [] pos1) (tLzip X.K (LA X.K t))):QE X (.Call (.Name "list" p1) [.Call (.Name "zip" p2) [a,b] [] pos2] [] pos1) (fun env=>bnd (t env) lzipD):=by
 refine fV h ?_
 rintro σ H Q ⟨m,env,st,d,st',S,E,e,k⟩
 obtain⟨xs,st1,e1,e2⟩:=aJ e
 match xs,e1,e2 with
 |[.t xs, .t ys],e1,e2=>
  have e3:need (xs.length=ys.length∧xs.length<sizeLine) (fun st=>some (D.r st.length,st++[C.l (List.zipWith (fun x y=>D.t [x,y]) xs ys)])) st1=some (d,st'):=e2
  obtain⟨hl,e4⟩:=fG e3
  cases e4
  refine⟨m,env,st,_,_,S,E,e1,fun vs H' m' s S' r=>?_⟩
  obtain⟨v,w,rfl,rv,rw⟩:=qR r
  match v,w,rv,rw with
  |_,_, .t (a:=t1) (vs:=us) ea la ha, .t (a:=t2) (vs:=ws) eb lb hb=>
   refine⟨t1,t2,us,ws,rfl,SqT.of ea,SqT.of eb,by rw[la,lb];exact hl.1,by rw[la];exact hl.2,fun l ps H2 sm hl0 el hpl hpr=>?_⟩
   let H1:Hp:=fun a=>if a=l then none else H2 a
   have sm1:Same H' H1:=fun c o ec=>by
    show(if c=l then none else H2 c)=some o
    rw[if_neg (bF ec hl0)]
    exact sm c o ec
   have eH:upd H1 l (.lst ps)=H2:=by
    funext c
    by_cases hc:c=l
    ·subst hc;rw[fE,el]
    ·rw[bL hc];show(if c=l then none else H2 c)=H2 c;rw[if_neg hc]
   obtain⟨S1,s1⟩:=S'.same sm1
   have hn:H1 l=none:=by show(if l=l then none else H2 l)=none;rw[if_pos rfl]
   have rr:RVs X.K m' H1 ps (List.zipWith (fun x y=>D.t [x,y]) xs ys):=by
    refine⟨by rw[List.length_zipWith,hpl,la,← hl.1,Nat.min_self],fun j v d h1 h2=>?_⟩
    obtain⟨T,x,y,rfl,hx,hy,hT⟩:=hpr j v h1
    have hj:j<us.length:=(List.getElem?_eq_some_iff.mp hx).1
    have hj1:j<xs.length:=by omega
    have hj2:j<ys.length:=by omega
    have h3:(List.zipWith (fun x y=>D.t [x,y]) xs ys)[j]?=some (.t [xs[j],ys[j]]):=by rw[List.getElem?_zipWith];simp[hj1,hj2]
    rw[h3] at h2
    cases h2
    have hTl:H1 T=some (.tup [x,y]):=by
     show(if T=l then none else H2 T)=some _
     rw[if_neg fun z=>by subst z;rw[el] at hT;cases hT]
     exact hT
    have q:=RVs.cons ((ha j x xs[j] hx (by simp[hj1])).stp s1) (.one ((hb j y ys[j] hy (by simp[hj2])).stp s1))
    exact .t hTl q.1 q.2
   obtain⟨S2,s2,r2⟩:=S1.newL hn rr
   rw[eH] at S2 s2 r2
   exact k _ _ _ ((s.trans s1).trans s2) S2 r2
end
end L2
end
section
namespace L2
open PySem PySem.Spec PyProof.Rows
noncomputable def eV(i:Nat):En→M D:=vD i
noncomputable def eC(d:D):En→M D:=fun _=>ret d
noncomputable def eOp(f:D→D→M D)(a b:En→M D):En→M D:=fun env=>bnd (a env) fun x=>bnd (b env) fun y=>f x y
noncomputable def tCm(f:D→D→M D)(a b:En→M D):En→M Bool:=fun env=>bnd (eOp f a b env) isB
noncomputable def tVl(a:En→M D):En→M Bool:=fun env=>bnd (a env) truD
noncomputable def tAn(c d:En→M Bool):En→M Bool:=fun env=>bnd (c env) fun x=>if x=true then d env else ret false
noncomputable def tOo(c d:En→M Bool):En→M Bool:=fun env=>bnd (c env) fun x=>if x=true then ret true else d env
noncomputable def tNo(c:En→M Bool):En→M Bool:=fun env=>bnd (c env) fun x=>ret (!x)
noncomputable def eAn(a b:En→M D):En→M D:=fun env=>bnd (bnd (a env) isB) fun x=>if x=true then b env else ret (.b false)
noncomputable def eIf(c:En→M Bool)(a b:En→M D):En→M D:=fun env=>bnd (c env) fun x=>if x=true then a env else b env
noncomputable def eUn(f:D→M D)(a:En→M D):En→M D:=fun env=>bnd (a env) f
noncomputable def aN:En→M (List D):=fun _=>ret []
noncomputable def aC(a:En→M D)(t:En→M (List D)):En→M (List D):=fun env=>bnd (a env) fun x=>bnd (t env) fun xs=>ret (x::xs)
noncomputable def eT(t:En→M (List D)):En→M D:=fun env=>bnd (t env) fun xs=>need (xs.length≤sizeLine) (ret (.t xs))
noncomputable def eL(t:En→M (List D)):En→M D:=fun env=>bnd (t env) newL
noncomputable def eCl(g:List D→M D)(t:En→M (List D)):En→M D:=fun env=>bnd (t env) g
noncomputable def eIx(a b:En→M D):En→M D:=fun env=>bnd (a env) fun x=>bnd (b env) fun y=>ixD x y
noncomputable def oN:En→M (Option Int):=fun _=>ret none
noncomputable def oS(a:En→M D):En→M (Option Int):=fun env=>bnd (a env) fun x=>bnd (asI x) fun n=>ret (some n)
noncomputable def eSl(a:En→M D)(l h:En→M (Option Int)):En→M D:=fun env=>bnd (a env) fun x=>bnd (l env) fun l=>bnd (h env) fun h=>slD x l h
noncomputable def revD(x y:D):M D:=match x,y with
 | .t xs, .i n=>need (n=-1) (ret (.t xs.reverse))
 |_,_=>bad
noncomputable def eRv(a b:En→M D):En→M D:=fun env=>bnd (a env) fun x=>bnd (b env) fun y=>revD x y
noncomputable def eBm(T:String)(f:D→List D→M D)(o:En→M D)(t:En→M (List D)):En→M D:=fun env=>bnd (o env) fun x=>bnd (chkT T x) fun _=>bnd (t env) fun xs=>f x xs
noncomputable def eB0(T:String)(f:D→List D→M D)(o:En→M D):En→M D:=fun env=>bnd (o env) fun x=>bnd (chkT T x) fun _=>f x []
noncomputable def eG2(o a b:En→M D):En→M D:=fun env=>bnd (o env) fun x=>bnd (chkT "dict" x) fun _=>bnd (a env) fun y=>bnd (b env) fun z=>get2D x y z
noncomputable def newC(zs:List D):M D:=fun st=>some (.r st.length,st++[.l zs])
noncomputable def eCo(caps:List Nat)(ti:En→M Its')(bd:D→Sto→Option (List D))(tc:En→M Bool)(te:En→M D):En→M D:=fun env=>bnd (ti env) fun its=>need (its.1.length<sizeLine) (bnd (compD its.2 bd tc te (capD caps env) its.1 []) newC)
noncomputable def gN(i:Nat):D→En→M En:=setN i
noncomputable def gsN:List D→En→M En:=fun ds env=>match ds with
 |[]=>ret env
 |_=>bad
noncomputable def gsC(g:D→En→M En)(gs:List D→En→M En):List D→En→M En:=fun ds env=>match ds with
 |d::ds=>bnd (g d env) fun env'=>gs ds env'
 |[]=>bad
noncomputable def gT(n:Nat)(gs:List D→En→M En):D→En→M En:=unp n gs
noncomputable def gS(a b:En→M D):D→En→M En:=fun d env=>bnd (a env) fun x=>bnd (b env) fun y=>bnd (setD x y d) fun _=>ret env
abbrev Sm':=En→M (Fw×En)
noncomputable def sN:Sm':=fun env=>ret (.nx,env)
noncomputable def sE(a:En→M D):Sm':=fun env=>bnd (a env) fun _=>ret (.nx,env)
noncomputable def sR(a:En→M D):Sm':=fun env=>bnd (a env) fun d=>ret (.rt d,env)
noncomputable def sI(c:En→M Bool)(s1 s2:Sm'):Sm':=fun env=>bnd (c env) fun b=>if b=true then s1 env else s2 env
noncomputable def sA(a:En→M D)(g:D→En→M En):Sm':=fun env=>bnd (a env) fun d=>bnd (g d env) fun env'=>ret (.nx,env')
noncomputable def sW(c:En→M Bool)(s:Sm'):Sm':=whC c s
noncomputable def sF(ti:En→M Its')(g:D→En→M En)(s:Sm'):Sm':=fun env=>bnd (ti env) fun its=>forD its.2 g s its.1 env
noncomputable def iS(a:En→M D):En→M Its':=fun env=>bnd (a env) itD
noncomputable def iR1(t:En→M (List D)):En→M Its':=fun env=>bnd (t env) fun xs=>need (xs.length=1) (rangeD xs)
noncomputable def iEn(t:En→M (List D)):En→M Its':=fun env=>bnd (t env) enumD
noncomputable def iRR(t:En→M (List D)):En→M Its':=fun env=>bnd (t env) revRD
section
variable{X:Cx}{pos:Pos}{a b c:Expr}{ta tb:En→M D}{tc td:En→M Bool}{s1 s2:Sm'}
theorem aGk{p2:Pos}(ha:QE X a ta)(hb:QE X b tb):QE X (.Subscript a (.Slice none none (some b) p2) pos) (eRv ta tb):=by
 refine fV (aEZ ha hb) ?_
 rintro σ H Q ⟨m,env,st,d,st',S,E,e,k⟩
 refine⟨m,env,st,d,st',S,E,?_,k⟩
 obtain⟨x,st1,e1,e2⟩:=aJ e
 obtain⟨y,st2,e3,e4⟩:=aJ e2
 unfold revD at e4
 show bnd (ta env) _ st=_
 rw[fW e1,fW e3]
 exact e4
noncomputable def pairsD:List ((En→M D)×(En→M D))→En→M (List (D×D))
 |[],_=>ret []
 |p::r,env=>bnd (p.1 env) fun x=>bnd (p.2 env) fun y=>bnd (pairsD r env) fun qs=>ret ((x,y)::qs)
noncomputable def mergeD(kvs:List (Key×D)):List (Key×D):=kvs.foldl (fun acc kv=>putD acc kv.1 kv.2) []
noncomputable def keyed:List (D×D)→Option (List (Key×D))
 |[]=>some []
 |p::r=>match keyD p.1,keyed r with
  |some k,some kvs=>some ((k,p.2)::kvs)
  |_,_=>none
noncomputable def eDi(ps:List ((En→M D)×(En→M D))):En→M D:=fun env st=>match pairsD ps env (st++[.d []]) with
 |some (qs,st2)=>match dcc st2 st.length,keyed qs with
  |some [],some kvs=>if kvs.length≤15 then some (.r st.length,st2.set st.length (.d (mergeD kvs))) else none
  |_,_=>none
 |none=>none
noncomputable def PRs(K:PySem.W.Frag)(m:List Addr)(H:Hp)(vs:List (V×V))(ds:List (D×D)):Prop:=RVs K m H (vs.map (·.1)) (ds.map (·.1))∧RVs K m H (vs.map (·.2)) (ds.map (·.2))
theorem qT{K:PySem.W.Frag}:∀ (ps:List ((En→M D)×(En→M D))) {σ:St} {H:Hp} {Q:List (V×V)→Hp→Prop} {m:List Addr} {env:En} {st st':Sto} {qs:List (D×D)},SR K m H st→RE K m H σ env→pairsD ps env st=some (qs,st')→
  (∀ vs H' m',Stp m H m' H'→SR K m' H' st'→PRs K m' H' vs qs→Q vs H')→tPairs (ps.map fun p=>(LE K p.1,LE K p.2)) σ H Q
 |[],σ,H,Q,m,env,st,st',qs,S,E,e,k=>by cases aP e;exact k [] H m .refl S ⟨.nil, .nil⟩
 |p::r,σ,H,Q,m,env,st,st',qs,S,E,e,k=>by
  obtain⟨x,st1,e1,e2⟩:=aJ e
  obtain⟨y,st2,e3,e4⟩:=aJ e2
  obtain⟨qs',st3,e5,e6⟩:=aJ e4
  cases aP e6
  refine⟨m,env,st,x,st1,S,E,e1,fun v1 H1 m1 s1 S1 r1=>⟨m1,env,st1,y,st2,S1,E.stp s1,e3,fun v2 H2 m2 s2 S2 r2=>?_⟩⟩
  refine qT r S2 ((E.stp s1).stp s2) e5 fun vs H' m' s3 S3 pr=>k _ H' m' ((s1.trans s2).trans s3) S3 ⟨?_,?_⟩
  ·exact .cons ((r1.stp s2).stp s3) pr.1
  ·exact .cons (r2.stp s3) pr.2
theorem vL{K:PySem.W.Frag}{m:List Addr}{H:Hp}:∀ {vs:List (V×V)} {qs:List (D×D)} {kvs:List (Key×D)},PRs K m H vs qs→keyed qs=some kvs→
  ∃ kws:List (Key×V),vs=kws.map (fun kv=>(kV kv.1,kv.2))∧kws.map (·.1)=kvs.map (·.1)∧RVs K m H (kws.map (·.2)) (kvs.map (·.2))
 |[],[],kvs,_,h=>by cases h;exact⟨[],rfl,rfl, .nil⟩
 |v::vs,q::qs,kvs,pr,h=>by
  rw[keyed] at h
  cases q1:keyD q.1 with
  |none=>rw[q1] at h;cases h
  |some k=>
   cases q2:keyed qs with
   |none=>rw[q1,q2] at h;cases h
   |some kvs'=>
    rw[q1,q2] at h
    cases h
    have p1:RVs K m H (vs.map (·.1)) (qs.map (·.1)):=⟨by have:=pr.1.1;simpa using this,fun i v' d' e1 e2=>pr.1.2 (i+1) v' d' (by simpa using e1) (by simpa using e2)⟩
    have p2:RVs K m H (vs.map (·.2)) (qs.map (·.2)):=⟨by have:=pr.2.1;simpa using this,fun i v' d' e1 e2=>pr.2.2 (i+1) v' d' (by simpa using e1) (by simpa using e2)⟩
    obtain⟨kws,h1,h2,h3⟩:=vL ⟨p1,p2⟩ q2
    have e1:=nX (pr.1.2 0 v.1 q.1 rfl rfl) q1
    refine⟨(k,v.2)::kws,by rw[List.map_cons,← h1,← e1],by rw[List.map_cons,List.map_cons,h2],?_⟩
    rw[List.map_cons,List.map_cons]
    exact .cons (pr.2.2 0 v.2 q.2 rfl rfl) h3
 |[],q::qs,_,pr,_=>by have:=pr.1.1;simp at this
 |v::vs,[],_,pr,_=>by have:=pr.1.1;simp at this
theorem vM{K:PySem.W.Frag}{m:List Addr}{H:Hp}:∀ {kws:List (Key×V)} {kvs:List (Key×D)} {aw:List (Key×V)} {av:List (Key×D)},kws.map (·.1)=kvs.map (·.1)→RVs K m H (kws.map (·.2)) (kvs.map (·.2))→aw.map (·.1)=av.map (·.1)→RVs K m H (aw.map (·.2)) (av.map (·.2))→
  (mergeK aw kws).map (·.1)=(kvs.foldl (fun acc kv=>putD acc kv.1 kv.2) av).map (·.1)∧RVs K m H ((mergeK aw kws).map (·.2)) ((kvs.foldl (fun acc kv=>putD acc kv.1 kv.2) av).map (·.2))
 |[],[],aw,av,_,_,h,r=>⟨h,r⟩
 |p::kws,q::kvs,aw,av,h,r,h',r'=>by
  simp only[List.map_cons,List.cons.injEq] at h
  have r0:=r.2 0 p.2 q.2 rfl rfl
  have r1:RVs K m H (kws.map (·.2)) (kvs.map (·.2)):=⟨by have:=r.1;simpa using this,fun i v' d' e1 e2=>r.2 (i+1) v' d' (by simpa using e1) (by simpa using e2)⟩
  obtain⟨pk,pv⟩:=p
  obtain⟨qk,qv⟩:=q
  obtain⟨rfl,h2⟩:=h
  obtain⟨g1,g2⟩:=yC (k:=pk) h' r' r0
  exact vM (kws:=kws) (kvs:=kvs) h2 r1 g1 g2
 |[],q::kvs,_,_,h,_,_,_=>by cases h
 |p::kws,[],_,_,h,_,_,_=>by cases h
theorem aGl{keys:List (Option Expr)}{values:List Expr}{ps:List ((En→M D)×(En→M D))}(h:PPs X pos keys values (ps.map fun p=>(LE X.K p.1,LE X.K p.2)))(hall:keys.all (·.isSome)=true)(hl:keys.length=values.length)(h0:keys≠[])
  (h15:keys.length≤15):QE X (.Dict keys values pos) (eDi ps):=by
 refine fV (aCK h hall hl h0 h15) ?_
 rintro σ H Q ⟨m,env,st,d,st',S,E,e,k⟩ p hp
 obtain⟨S1,s1⟩:=S.new (o:=.dK []) (c:=.d []) hp fun _=>⟨[],fE,rfl, .nil⟩
 unfold eDi at e
 cases q0:pairsD ps env (st++[.d []]) with
 |none=>rw[q0] at e;cases e
 |some r=>
  obtain⟨qs,st2⟩:=r
  rw[q0] at e
  dsimp only at e
  cases q1:dcc st2 st.length with
  |none=>rw[q1] at e;cases e
  |some dk=>
   cases dk with
   |cons=>rw[q1] at e;cases e
   |nil=>
    cases q2:keyed qs with
    |none=>rw[q1,q2] at e;cases e
    |some kvs=>
     rw[q1,q2] at e
     dsimp only at e
     split at e
     ·rename_i h15'
      cases e
      refine qT ps S1 (E.stp s1) q0 fun vs H2 m2 s2 S2 pr=>?_
      have hm:m2[st.length]?=some p:=s2.pre _ _ (by rw[← S.len];simp)
      obtain⟨kw0,o0,hk0,_⟩:=S2.cel st.length p _ hm (lZ q1)
      have hkw:kw0=[]:=by cases kw0 with
       |nil=>rfl
       |cons=>cases hk0
      subst hkw
      obtain⟨kws,rfl,g1,g2⟩:=vL pr q2
      refine⟨o0,kws,rfl,by have:=congrArg List.length g1;simp at this;omega,?_⟩
      obtain⟨f1,f2⟩:=vM (aw:=[]) (av:=[]) g1 g2 rfl .nil
      obtain⟨S3,s3⟩:=S2.put (o':=.dK (mergeK [] kws)) (c:=.d (mergeD kvs)) hm o0 rfl fun q=>⟨_,fE,f1,f2.stp q⟩
      exact k _ _ _ ((s1.trans s2).trans s3) S3 (.r (s3.pre _ _ hm))
     ·cases e
noncomputable def e0D:En→M D:=fun _ st=>some (.r st.length,st++[.d []])
theorem aGm:QE X (.Dict [] [] pos) e0D:=by
 refine fV aAT ?_
 rintro σ H Q ⟨m,env,st,d,st',S,E,e,k⟩ p hp
 cases e
 obtain⟨S1,s1⟩:=S.new (o:=.dK []) (c:=.d []) hp fun _=>⟨[],fE,rfl, .nil⟩
 exact k _ _ _ s1 S1 (.r (by rw[← S.len];simp))
end
theorem vN{K:PySem.W.Frag}{m:List Addr}{H:Hp}{a:Addr}{ss:List Str}(h:∀ H,SqT K H a (ss.map V.str)):RV K m H (.ref a) (.k (ss.map D.s)):=by
 refine .k h (by simp) fun j v d h1 h2=>?_
 rw[List.getElem?_map] at h1 h2
 obtain⟨x,hx,rfl⟩:=Option.map_eq_some_iff.mp h1
 rw[hx] at h2
 cases h2
 exact .s _
theorem lN{P:Program}{w:World}{K:PySem.W.Frag}{mg:Str→Option Value}{base:Heap}{CX:CXT}{k:Nat}{f:Addr}{fd:FuncData}{ps:List Str}:FnOk P w K mg base CX k f fd ps (LF K fun _=>bad):=
 ⟨(fun _ _ _ _ ⟨_,_,_,_,_,_,_,e,_⟩=>by cases e),fun _ _ _ _ _ _ _ _ _ _ _ _ _ ⟨_,_,_,_,_,_,_,e,_⟩=>by cases e⟩
theorem hu1{A:Around}{k:Nat}(hr:Room k A):A.units+1<cLine:=aGg hr
theorem hu60'{A:Around}{k:Nat}(hr:Room k A):A.units+60<cLine:=Nat.lt_of_le_of_lt (Nat.add_le_add_left (by decide:60≤64) _) hr.units
structure Def (K:PySem.W.Frag) (mg:Str→Option Value) (x:Str) (st:Stmt) (ps:List Str) (f:Addr) (fd:FuncData):Prop where
 F:Fun K x x st f fd
 b:Binds K fd ps []
 m:mg x=some (.ref f)
 k:PySem.W.keepIn K (.ref f)=true
theorem relabel_id{scope:Scope}{env:Env}(h:∀ y∈scope.names,y.2≠.free):(relabel scope env).names=scope.names:=by
 unfold relabel
 refine map_eq_self fun x hx=>?_
 obtain⟨n,k⟩:=x
 have e:(k==NameKind.free)=false:=by simpa using h _ hx
 simp[e]
theorem caps0{X:Cx}{scope:Scope}{x:Str}(h1:∀ y∈scope.names,y.2≠.free)(h2:∀ y∈scope.names,y.2≠.cell)(hk:scope.kind=.function)(hn:∀ y∈scope.names,y.2=.local→scope.names.lookup y.1=some .local)
  (hx:scope.names.lookup x=some .local):Caps X scope x [] [] [] where
 clos:=closureFor_none h1
 cell:=h2
 kind:=hk
 names:=hn
 hx:=hx
 sub:=fun y c e=>by cases e
 has:=fun y hy=>by
  rw[relabel_id h1] at hy
  rcases hy with hy|hy
  ·exact absurd rfl (h2 _ (PySem.mem_of_lookup hy))
  ·exact absurd rfl (h1 _ (PySem.mem_of_lookup hy))
 nd:=by simp
 len:=rfl
 cap:=fun k y e=>by simp at e
theorem fX{X:Cx}{scope:Scope}{x:Str}{cl:List (Str×Addr)}{cn:List Str}{caps:List Nat}(names:List (Str×NameKind))(clos:closureFor scope X.env=pure cl)(cell:∀ y∈scope.names,y.2≠.cell)(kind:scope.kind=.function)
  (hn:∀ y∈scope.names,y.2=.local→scope.names.lookup y.1=some .local)(hx:scope.names.lookup x=some .local)(nd:(x::cn).Nodup)(len:cn.length=caps.length)(rn:(relabel scope X.env).names=names)
  (hsub:∀ yc∈cl,X.env.cells.lookup yc.1=some yc.2)(hhas:∀ yk∈names,(yk.2=.cell∨yk.2=.free)→∃ c,cl.lookup yk.1=some c)
  (hcap:∀ p∈cn.zip caps,X.N[p.2]?=some p.1∧Vis X.env.scope p.1∧(X.env.kindOf p.1=some .cell∨X.env.kindOf p.1=some .free)∧(names.lookup p.1=some .cell∨names.lookup p.1=some .free)):Caps X scope x cl cn caps where
 clos:=clos
 cell:=cell
 kind:=kind
 names:=hn
 hx:=hx
 sub:=fun y c e=>hsub (y,c) (PySem.mem_of_lookup e)
 has:=fun y hy=>by
  rw[rn] at hy
  rcases hy with hy|hy
  ·exact hhas (y,_) (PySem.mem_of_lookup hy) (.inl rfl)
  ·exact hhas (y,_) (PySem.mem_of_lookup hy) (.inr rfl)
 nd:=nd
 len:=len
 cap:=fun k y e=>by
  have hk:k<cn.length:=(List.getElem?_eq_some_iff.mp e).1
  have hk2:k<caps.length:=by omega
  have hz:(cn.zip caps)[k]?=some (y,caps[k]):=by
   rw[List.getElem?_zip_eq_some]
   exact⟨e,by simp[hk2]⟩
  obtain⟨h1,h2,h3,h4⟩:=hcap (y,caps[k]) (List.mem_of_getElem? hz)
  refine⟨caps[k],by simp[hk2],h1,h2,h3,?_⟩
  rw[rn]
  exact h4
end L2
end
section
namespace L2
open PySem PySem.W PyProof.Rows
def fragOf(h:Heap):Frag:=(List.range h.objs.size).filterMap fun a=>(h.get? a).map fun o=>(a,o)
theorem aAh(h:Heap):(fragOf h).In h:=by
 intro a o e
 have key:∀ l:List Nat,(l.filterMap fun a=>(h.get? a).map fun o=>(a,o)).lookup a=some o→h.get? a=some o:=by
  intro l
  induction l with
  |nil=>intro e;cases e
  |cons b l ih=>
   intro e
   rw[List.filterMap_cons] at e
   cases q:h.get? b with
   |none=>rw[q] at e;exact ih e
   |some o'=>
    rw[q] at e
    dsimp only[Option.map] at e
    rw[List.lookup_cons] at e
    by_cases hb:a=b
    ·subst hb
     simp only[beq_self_eq_true] at e
     rw[q,e]
    ·have:(a==b)=false:=by simpa using hb
     rw[this] at e
     exact ih e
 exact key _ e
abbrev FnX:=Option (Str×Str×Arguments×FuncBody×Scope×Addr×List (Str×Addr)×Value×Addr×Bool×Bool)
def fnAt(K:Frag)(x:Str):FnX:=match nsIn K mainGlobals x with
 |some (some (.ref f))=>(match K.lookup f with
  |some ⟨_,_, .func fd,_⟩=>some (fd.name,fd.qualname,fd.params,fd.body,fd.scope,fd.globals,fd.closure,fd.defaults,fd.builtins,codeIn K fd.code fd.qualname,keepIn K (.ref f))
  |_=>none)
 |_=>none
def fnWant(x:Str)(st:Stmt):FnX:=some (x,x,defArgs st, .stmts (defBody st),defScope st,mainGlobals,[], .none,builtinsNs,true,true)
structure Fnd (K:Frag) (x:Str) (st:Stmt):Prop where
 ex:∃ (f:Addr) (od an:Option Addr) (sl:Array (Option Value)) (oc kV dc pm cd ct:Value),nsIn K mainGlobals x=some (some (.ref f))∧K.lookup f=some ⟨oc,od, .func (fnOf x x (defArgs st) (defBody st) (defScope st) .none kV dc pm an cd ct),sl⟩∧codeIn K cd x=true∧keepIn K (.ref f)=true
theorem aFi{K:Frag}{x:Str}{st:Stmt}(h:fnAt K x=fnWant x st):Fnd K x st:=by
 unfold fnAt fnWant at h
 split at h
 ·rename_i f hf
  split at h
  ·rename_i oc od fd sl hl
   obtain⟨n,q,ps,b,sc,g,cl,dV,kV,dc,pm,an,cd,ct,bu⟩:=fd
   simp only[Option.some.injEq,Prod.mk.injEq] at h
   obtain⟨rfl,rfl,rfl,rfl,rfl,rfl,rfl,rfl,rfl,h1,h2⟩:=h
   exact⟨⟨f,od,an,sl,oc,kV,dc,pm,cd,ct,hf,hl,h1,h2⟩⟩
  ·cases h
 ·cases h
theorem Fnd.def{K:Frag}{h:Heap}{mg:Str→Option Value}{x:Str}{st:Stmt}{ps:List Str}(X:K.In h)(G:h.Ns mainGlobals mg)(F:Fnd K x st)
  (hb:∀ (kV doc pm:Value) (an:Option Addr) (cdv ct:Value) (us:List Value),us.length=ps.length→bindArgs (fnOf x x (defArgs st) (defBody st) (defScope st) .none kV doc pm an cdv ct) ⟨us,[]⟩=pure (ps.zip us)):∃ f fd,Def K mg x st ps f fd:=by
 obtain⟨f,od,an,sl,oc,kV,dc,pm,cd,ct,a,l,c,k⟩:=F.ex
 have F':=aAR (st:=st) l c k
 exact⟨_,_,F',F'.binds hb,mg_of X G a,k⟩
def strsOf:List Value→Option (List Str)
 |[]=>some []
 | .str s _::r=>(strsOf r).map (s::·)
 |_=>none
def tupAt(K:Frag)(x:Str):Option (List Str):=match nsIn K mainGlobals x with
 |some (some (.ref a))=>(match K.lookup a with
  |some ⟨.type "tuple",none, .seq us _,_⟩=>if us.size≤100 then strsOf us.toList else none
  |_=>none)
 |_=>none
theorem pM:∀ {us:List Value} {ws:List Str},strsOf us=some ws→Vals (ws.map V.str) us
 |[],ws,h=>by simp only[strsOf,Option.some.injEq] at h;subst h;exact .nil
 |u::us,ws,h=>by
  unfold strsOf at h
  split at h
  ·cases ‹_::_=[]›
  ·rename_i s t r e
   cases e
   cases q:strsOf us with
   |none=>rw[q] at h;cases h
   |some ws'=>rw[q] at h;cases h;exact .cons ⟨_,rfl⟩ (pM q)
  ·cases h
theorem aFj{K:Frag}{h:Heap}{mg:Str→Option Value}{x:Str}{ws:List Str}(X:K.In h)(G:h.Ns mainGlobals mg)(e:tupAt K x=some ws):∃ a,mg x=some (.ref a)∧∀ H,SqT K H a (ws.map V.str):=by
 unfold tupAt at e
 split at e
 ·rename_i a ha
  split at e
  ·rename_i us n sl hl
   split at e
   ·rename_i hs
    exact⟨a,mg_of X G ha,fun H=>.inr ⟨_,us,n,hl,rfl,rfl,by rw[sizeLine_eq];omega,pM e⟩⟩
   ·cases e
  ·cases e
 ·cases e
def recOf(s:Stmt):DefRec:=match s with
 | .FunctionDef n a b _ _ _ sc _ _ pos=>⟨n,a,b,sc,pos⟩
 |_=>⟨"",defArgs s,defBody s,defScope s,⟨0,0,0,0⟩⟩
abbrev GoodIn(Good:Frag→Prop)(_:World)(h:Heap):Prop:=∃ K:Frag,Good K∧K.In h
theorem GoodIn.keeps{Good:Frag→Prop}(w:World)(h h':Heap)(x:GoodIn Good w h)(k:∀ b o,h.get? b=some o→h'.get? b=some o):GoodIn Good w h':=by
 obtain⟨K,g,i⟩:=x
 exact⟨K,g,i.keeps k⟩
theorem aCU{l:OpenLaw}{k:Nat}{q:Program}{loose:List Str}{XP:(Str→Option Value)→Heap→Prop}{Good:Frag→Prop}{d:DefRec}{f:List D→M D}{x:Str}
  (hn:l.most=some 63)(hdf:d.params.defaults=[])(hr:Room k callerA)
  (F:∀ (K:Frag),Good K→∀ (w:World) (mg:Str→Option Value) (fa:Addr) (h:Heap),K.In h→h.Ns mainGlobals mg→mg d.name=some (.ref fa)→
   ∃ fd:FuncData,(∀ (s:Shared) (u:Value),BindsTo s fd ⟨[u],[]⟩ [(x,u)])∧∀ base:Heap,K.In base→base.Ns mainGlobals mg→FnOk l.prog w K mg base CX0 k fa fd [x] (LF K f))
  (ht:∀ ns:List Int,ns.length≤63→∃ st',f [.f (ns.map D.i)] []=some (.b true,st')):
  WalkO q loose XP (GoodIn Good) l.row.toRowW d [] (fun f vs=>PySem.call f vs):=by
 intro w s₀ s₁ mg mb G Y
 obtain⟨K,g,i⟩:=Y
 refine L2.aAQ (n:=63) (k:=k) (x:=x) (CX:=CX0) (K:=fun _=>K) (YP:=fun _ h=>K.In h) (sp:=fun K=>LF K f) hn (by decide) hdf hr (fun _ _ h=>h) (F K g) (fun K H a ns hl hO hS=>?_) (fun _ _ _ _ z=>z) w s₀ s₁ mg mb G i
 obtain⟨st',ht⟩:=ht ns hl
 have hz:FzL K H a (ns.map V.int):=by
  rcases hS with (h|⟨o,h⟩)|h
  ·rcases hO a with q|⟨o,xs,q⟩
   ·rw[q] at h;cases h
   ·rw[q] at h;cases h
  ·exact .inl ⟨o,h⟩
  ·exact .inr h
 refine⟨[],[],[.f (ns.map D.i)], .b true,st',⟨rfl,List.nodup_nil,fun l a c h=>by simp at h⟩, .one (.f hz (by simp) fun j v d h1 h2=>?_),ht,fun v H' m' _ _ r=>by cases r;rfl⟩
 rw[List.getElem?_map] at h1 h2
 cases q:ns[j]? with
 |none=>rw[q] at h1;cases h1
 |some n=>rw[q] at h1 h2;cases h1;cases h2;exact .i n
theorem aCV{l:OpenLaw}{q:Program}{N:Nat}{α:Type}{Yf:Frag→α}{y:α}{Good:Frag→Prop}{d:DefRec}(said:l.wellSaid=true)
  (left:LeftO l.row.prog q [] (fun s=>xlAt q [] s&&recOk l.row.toRowW.records s) (fun s=>Yf (fragOf s.heap)) (fun _=>y) N)
  (hG:∀ K,Yf K=y→Good K)
  (hdef:defOf q l.row.name=some (d,[]))(hp:l.row.prog.theDef l.row.name=some (d.params,d.body,d.scope))(hk:kwWritten? d.params.kwonlyargs d.params.kw_defaults=some [])(hwr:(!l.row.writes || l.row.records.isEmpty)=true)
  (ok:(chainsOk q&&opensWell l.row.prog&&(frees l.row.toRowW&&l.row.within.isEmpty))=true)(hb:l.row.prog.bare)(hw:l.row.toRowW.promised)
  (call:WalkO q [] (XL q []) (GoodIn Good) l.row.toRowW d [] fun f vs=>PySem.call f vs):l.Holds:=
 holds_law said fun k1=>holds_open (q:=q) (loose:=[]) (XP:=XL q []) (YP:=GoodIn Good) left (fun _ s e=>⟨_,hG _ e,aAh _⟩) GoodIn.keeps (fun s e=>xl_of s (Bool.and_eq_true_iff.mp e).1) XL.keeps hdef hp hk (fun s e=>recFacts_of (Bool.and_eq_true_iff.mp e).2) hwr k1 ok hb hw call
end L2
end
section
namespace K61
open PySem L2 PyProof.Rows
def top(i:Nat):Stmt:=PySem.Challenge.pw_tacticwright_k61_walks_told.main.body.getD i (.Pass ⟨0,0,0,0⟩)
def c_ARGS_WORDS:D:=.k ((["form","call","atom"]:List Str).map D.s)
def c_BIND_WORDS:D:=.k ((["all","some"]:List Str).map D.s)
def c_PAIR_WORDS:D:=.k ((["same","and","or","if"]:List Str).map D.s)
structure Txt (K:PySem.W.Frag) (mg:Str→Option Value):Prop where
 c_ARGS_WORDS:∃ a,mg "ARGS_WORDS"=some (.ref a)∧∀ H,SqT K H a ((["form","call","atom"]:List Str).map V.str)
 c_BIND_WORDS:∃ a,mg "BIND_WORDS"=some (.ref a)∧∀ H,SqT K H a ((["all","some"]:List Str).map V.str)
 c_PAIR_WORDS:∃ a,mg "PAIR_WORDS"=some (.ref a)∧∀ H,SqT K H a ((["same","and","or","if"]:List Str).map V.str)
 b_abs:mg "abs"=none
 b_divmod:mg "divmod"=none
 b_enumerate:mg "enumerate"=none
 b_int:mg "int"=none
 b_isinstance:mg "isinstance"=none
 b_len:mg "len"=none
 b_list:mg "list"=none
 b_min:mg "min"=none
 b_range:mg "range"=none
 b_reversed:mg "reversed"=none
 b_sum:mg "sum"=none
 b_tuple:mg "tuple"=none
 b_zip:mg "zip"=none
structure Reg (K:PySem.W.Frag) (mg:Str→Option Value) where
 f4:Addr
 g4:FuncData
 d4:Def K mg "parts_of" (top 4) ["thing"] f4 g4
 f6:Addr
 g6:FuncData
 d6:Def K mg "head_of" (top 6) ["thing"] f6 g6
 f7:Addr
 g7:FuncData
 d7:Def K mg "alike" (top 7) ["one","other"] f7 g7
 f10:Addr
 g10:FuncData
 d10:Def K mg "ways_to" (top 10) ["A","t"] f10 g10
 f5:Addr
 g5:FuncData
 d5:Def K mg "with_parts" (top 5) ["thing","parts"] f5 g5
 f8:Addr
 g8:FuncData
 d8:Def K mg "with_place" (top 8) ["t","place","u"] f8 g8
 f11:Addr
 g11:FuncData
 d11:Def K mg "walk" (top 11) ["A","t","u"] f11 g11
 f23:Addr
 g23:FuncData
 d23:Def K mg "_law_args" (top 23) ["_law_t"] f23 g23
 f26:Addr
 g26:FuncData
 d26:Def K mg "_law_spots" (top 26) ["_law_t","_law_one","_law_place"] f26 g26
 f25:Addr
 g25:FuncData
 d25:Def K mg "_law_with" (top 25) ["_law_told","_law_terms_here"] f25 g25
 f27:Addr
 g27:FuncData
 d27:Def K mg "_law_set" (top 27) ["_law_t","_law_place","_law_u"] f27 g27
 f24:Addr
 g24:FuncData
 d24:Def K mg "_law_terms" (top 24) ["_law_told"] f24 g24
 f28:Addr
 g28:FuncData
 d28:Def K mg "_law_walk" (top 28) ["_law_told","_law_t","_law_u"] f28 g28
 f32:Addr
 g32:FuncData
 d32:Def K mg "_law_asked" (top 32) ["_law_told","_law_t","_law_u"] f32 g32
 f30:Addr
 g30:FuncData
 d30:Def K mg "_law_places" (top 30) ["_law_told","_law_t"] f30 g30
 f29:Addr
 g29:FuncData
 d29:Def K mg "_law_nodes" (top 29) ["_law_t"] f29 g29
 f14:Addr
 g14:FuncData
 d14:Def K mg "_law_next" (top 14) ["_law_state","_law_many"] f14 g14
 f17:Addr
 g17:FuncData
 d17:Def K mg "_law_least" (top 17) ["_law_book_here","_law_kind"] f17 g17
 f18:Addr
 g18:FuncData
 d18:Def K mg "_law_term" (top 18) ["_law_state","_law_book_here","_law_kind","_law_things","_law_inner","_law_room","_law_own"] f18 g18
 f21:Addr
 g21:FuncData
 d21:Def K mg "_law_said" (top 21) ["_law_state","_law_book_here","_law_things","_law_inner","_law_room"] f21 g21
 f22:Addr
 g22:FuncData
 d22:Def K mg "_law_planted" (top 22) ["_law_thing","_law_x","_law_t"] f22 g22
 f31:Addr
 g31:FuncData
 d31:Def K mg "_law_drawn" (top 31) ["_law_state","_law_book_here","_law_things","_law_x","_law_kind","_law_t","_law_u"] f31 g31
 f19:Addr
 g19:FuncData
 d19:Def K mg "_law_function" (top 19) ["_law_state","_law_book_here","_law_f"] f19 g19
 f16:Addr
 g16:FuncData
 d16:Def K mg "_law_great" (top 16) ["_law_name"] f16 g16
 f20:Addr
 g20:FuncData
 d20:Def K mg "_law_book" (top 20) ["_law_state","_law_names_here"] f20 g20
 f15:Addr
 g15:FuncData
 d15:Def K mg "_law_names" (top 15) ["_law_state"] f15 g15
 f13:Addr
 g13:FuncData
 d13:Def K mg "_law_begin" (top 13) ["_law_script"] f13 g13
 f33:Addr
 g33:FuncData
 d33:Def K mg "law" (top 33) ["_law_script"] f33 g33
noncomputable def iB:Sm':=seqS (sA (eIx (eV 0) (eC (.i (0)))) (gN 1))
   (seqS (sI (tCm inD (eV 1) (eC c_ARGS_WORDS)) (sR (eIx (eV 0) (eC (.i (2))))) (sN))
   (seqS (sI (tCm inD (eV 1) (eC c_PAIR_WORDS)) (sR (eT (aC (eIx (eV 0) (eC (.i (1)))) (aC (eIx (eV 0) (eC (.i (2)))) (aN))))) (sN))
   (seqS (sI (tCm inD (eV 1) (eC c_BIND_WORDS)) (sR (eT (aC (eIx (eV 0) (eC (.i (2)))) (aN)))) (sN))
   (sR (eT (aN))))))
noncomputable def dB:List D→M D:=runF 2 1 iB
noncomputable def iR:Sm':=seqS (sA (eIx (eV 0) (eC (.i (0)))) (gN 1))
   (seqS (sA (eIf (tOo (tCm eqD (eV 1) (eC (.s "false"))) (tCm inD (eV 1) (eC c_PAIR_WORDS))) (eC .no) (eIx (eV 0) (eC (.i (1))))) (gN 2))
   (sR (eT (aC (eV 1) (aC (eV 2) (aC (eCl lenD (aC (eCl (dB) (aC (eV 0) (aN))) (aN))) (aN)))))))
noncomputable def gD:List D→M D:=runF 3 1 iR
noncomputable def qB:Sm':=seqS (sA (eL (aC (eT (aC (eV 0) (aC (eV 1) (aN)))) (aN))) (gN 2))
   (seqS (sW (tVl (eV 2)) (seqS (sA (eB0 "list" popD (eV 2)) (gT 2 (gsC (gN 3) (gsC (gN 4) (gsN)))))
   (seqS (sI (tCm neD (eCl (gD) (aC (eV 3) (aN))) (eCl (gD) (aC (eV 4) (aN)))) (sR (eC (.b false))) (sN))
   (sE (eBm "list" extendD (eV 2) (aC (eCl lzipD (aC (eCl (dB) (aC (eV 3) (aN))) (aC (eCl (dB) (aC (eV 4) (aN))) (aN)))) (aN)))))))
   (sR (eC (.b true))))
noncomputable def mO:List D→M D:=runF 5 2 qB
noncomputable def oX:Sm':=seqS (sA (eL (aN)) (gN 2))
   (seqS (sA (eL (aC (eT (aC (eT (aN)) (aC (eV 0) (aC (eC (.i (0))) (aN))))) (aN))) (gN 3))
   (seqS (sW (tVl (eV 3)) (seqS (sA (eB0 "list" popD (eV 3)) (gT 3 (gsC (gN 4) (gsC (gN 5) (gsC (gN 6) (gsN))))))
   (sI (tVl (eCl (mO) (aC (eV 5) (aC (eV 1) (aN))))) (sE (eBm "list" appendD (eV 2) (aC (eT (aC (eV 4) (aC (eV 6) (aN)))) (aN)))) (seqS (sA (eIf (tCm inD (eIx (eV 5) (eC (.i (0)))) (eC c_BIND_WORDS)) (eOp addD (eV 6) (eC (.i (1)))) (eV 6)) (gN 7))
   (seqS (sA (eCl (dB) (aC (eV 5) (aN))) (gN 8))
   (sE (eBm "list" extendD (eV 3) (aC (eCo [7,8,4] (iRR (aC (eCl lenD (aC (eV 8) (aN))) (aN))) bd1 ((fun _=>ret true)) (eT (aC (eOp addD (eV 3) (eT (aC (eV 0) (aN)))) (aC (eIx (eV 2) (eV 0)) (aC (eV 1) (aN)))))) (aN)))))))))
   (sR (eV 2))))
noncomputable def mP:List D→M D:=runF 9 2 oX
noncomputable def iW:Sm':=seqS (sA (eIx (eV 0) (eC (.i (0)))) (gN 2))
   (seqS (sI (tCm inD (eV 2) (eC c_ARGS_WORDS)) (sR (eT (aC (eV 2) (aC (eIx (eV 0) (eC (.i (1)))) (aC (eCl tupD (aC (eV 1) (aN))) (aN)))))) (sN))
   (seqS (sI (tCm inD (eV 2) (eC c_PAIR_WORDS)) (sR (eT (aC (eV 2) (aC (eIx (eV 1) (eC (.i (0)))) (aC (eIx (eV 1) (eC (.i (1)))) (aN)))))) (sN))
   (seqS (sI (tCm inD (eV 2) (eC c_BIND_WORDS)) (sR (eT (aC (eV 2) (aC (eIx (eV 0) (eC (.i (1)))) (aC (eIx (eV 1) (eC (.i (0)))) (aN)))))) (sN))
   (sR (eV 0)))))
noncomputable def gX:List D→M D:=runF 3 2 iW
noncomputable def lO:Sm':=seqS (sA (eL (aN)) (gN 3))
   (seqS (sA (eV 0) (gN 4))
   (seqS (sF (iS (eV 1)) (gN 5) (seqS (sE (eBm "list" appendD (eV 3) (aC (eV 4) (aN))))
   (sA (eIx (eCl (dB) (aC (eV 4) (aN))) (eV 5)) (gN 4))))
   (seqS (sA (eV 2) (gN 6))
   (seqS (sF (iS (eRv (eV 1) (eUn negD (eC (.i (1)))))) (gN 5) (seqS (sA (eB0 "list" popD (eV 3)) (gN 4))
   (seqS (sA (eCl listD (aC (eCl (dB) (aC (eV 4) (aN))) (aN))) (gN 7))
   (seqS (sA (eV 6) (gS (eV 7) (eV 5)))
   (sA (eCl (gX) (aC (eV 4) (aC (eV 7) (aN)))) (gN 6))))))
   (sR (eV 6))))))
noncomputable def iX:List D→M D:=runF 8 3 lO
noncomputable def wV:Sm':=seqS (sA (eL (aC (eV 0) (aN))) (gN 3))
   (seqS (sF (iS (eCl (mP) (aC (eV 0) (aC (eV 1) (aN))))) (gT 2 (gsC (gN 4) (gsC (gN 5) (gsN)))) (sE (eBm "list" appendD (eV 3) (aC (eCl (iX) (aC (eIx (eV 3) (eUn negD (eC (.i (1))))) (aC (eV 4) (aC (eV 2) (aN))))) (aN)))))
   (sR (eV 3)))
noncomputable def qU:List D→M D:=runF 6 3 wV
noncomputable def jR:Sm':=seqS (sI (tOo (tCm eqD (eIx (eV 0) (eC (.i (0)))) (eC (.s "form"))) (tCm eqD (eIx (eV 0) (eC (.i (0)))) (eC (.s "call")))) (sR (eIx (eV 0) (eC (.i (2))))) (sN))
   (sR (eT (aN)))
noncomputable def iC:List D→M D:=runF 1 1 jR
noncomputable def iI(self:List D→M D):Sm':=seqS (sI (tCm eqD (eV 0) (eV 1)) (sR (eL (aC (eV 2) (aN)))) (sN))
   (seqS (sA (eL (aN)) (gN 3))
   (seqS (sF (iEn (aC (eCl (iC) (aC (eV 0) (aN))) (aN))) (gT 2 (gsC (gN 4) (gsC (gN 5) (gsN)))) (sE (eBm "list" extendD (eV 3) (aC (eCl self (aC (eV 5) (aC (eV 1) (aC (eOp addD (eV 2) (eT (aC (eV 4) (aN)))) (aN))))) (aN)))))
   (sR (eV 3))))
noncomputable def cS:Nat→List D→M D
 |0=>fun _=>bad
 |n+1=>runF 6 3 (iI (cS n))
noncomputable def iE(self:List D→M D):Sm':=seqS (sI (tCm eqD (eIx (eV 0) (eC (.i (0)))) (eC (.s "false"))) (sR (eV 0)) (sN))
   (seqS (sI (tCm eqD (eIx (eV 0) (eC (.i (0)))) (eC (.s "same"))) (seqS (sA (eBm "list" popD (eV 1) (aC (eC (.i (0))) (aN))) (gN 2))
   (sR (eT (aC (eC (.s "same")) (aC (eV 2) (aC (eBm "list" popD (eV 1) (aC (eC (.i (0))) (aN))) (aN))))))) (sN))
   (seqS (sI (tCm eqD (eIx (eV 0) (eC (.i (0)))) (eC (.s "atom"))) (sR (eT (aC (eC (.s "atom")) (aC (eIx (eV 0) (eC (.i (1)))) (aC (eCl tupD (aC (eCo [1] (iS (eIx (eV 0) (eC (.i (2))))) bd1 ((fun _=>ret true)) (eBm "list" popD (eV 1) (aC (eC (.i (0))) (aN)))) (aN))) (aN)))))) (sN))
   (seqS (sI (tOo (tCm eqD (eIx (eV 0) (eC (.i (0)))) (eC (.s "all"))) (tCm eqD (eIx (eV 0) (eC (.i (0)))) (eC (.s "some")))) (sR (eT (aC (eIx (eV 0) (eC (.i (0)))) (aC (eIx (eV 0) (eC (.i (1)))) (aC (eCl self (aC (eIx (eV 0) (eC (.i (2)))) (aC (eV 1) (aN)))) (aN)))))) (sN))
   (seqS (sA (eCl self (aC (eIx (eV 0) (eC (.i (1)))) (aC (eV 1) (aN)))) (gN 2))
   (sR (eT (aC (eIx (eV 0) (eC (.i (0)))) (aC (eV 2) (aC (eCl self (aC (eIx (eV 0) (eC (.i (2)))) (aC (eV 1) (aN)))) (aN))))))))))
noncomputable def fC:Nat→List D→M D
 |0=>fun _=>bad
 |n+1=>runF 3 2 (iE (fC n))
noncomputable def kL(self:List D→M D):Sm':=seqS (sI (tCm eqD (eV 1) (eT (aN))) (sR (eV 2)) (sN))
   (seqS (sA (eIx (eV 1) (eC (.i (0)))) (gN 3))
   (sR (eT (aC (eIx (eV 0) (eC (.i (0)))) (aC (eIx (eV 0) (eC (.i (1)))) (aC (eOp addD (eOp addD (eSl (eIx (eV 0) (eC (.i (2)))) (oN) (oS (eV 3))) (eT (aC (eCl self (aC (eIx (eIx (eV 0) (eC (.i (2)))) (eV 3)) (aC (eSl (eV 1) (oS (eC (.i (1)))) (oN)) (aC (eV 2) (aN))))) (aN)))) (eSl (eIx (eV 0) (eC (.i (2)))) (oS (eOp addD (eV 3) (eC (.i (1))))) (oN))) (aN)))))))
noncomputable def gY:Nat→List D→M D
 |0=>fun _=>bad
 |n+1=>runF 4 3 (kL (gY n))
noncomputable def fJ(self:List D→M D):Sm':=seqS (sI (tCm eqD (eIx (eV 0) (eC (.i (0)))) (eC (.s "false"))) (sR (eL (aN))) (sN))
   (seqS (sI (tCm eqD (eIx (eV 0) (eC (.i (0)))) (eC (.s "same"))) (sR (eL (aC (eIx (eV 0) (eC (.i (1)))) (aC (eIx (eV 0) (eC (.i (2)))) (aN))))) (sN))
   (seqS (sI (tCm eqD (eIx (eV 0) (eC (.i (0)))) (eC (.s "atom"))) (sR (eCl listD (aC (eIx (eV 0) (eC (.i (2)))) (aN)))) (sN))
   (seqS (sI (tOo (tCm eqD (eIx (eV 0) (eC (.i (0)))) (eC (.s "all"))) (tCm eqD (eIx (eV 0) (eC (.i (0)))) (eC (.s "some")))) (sR (eCl self (aC (eIx (eV 0) (eC (.i (2)))) (aN)))) (sN))
   (sR (eOp addD (eCl self (aC (eIx (eV 0) (eC (.i (1)))) (aN))) (eCl self (aC (eIx (eV 0) (eC (.i (2)))) (aN))))))))
noncomputable def cN:Nat→List D→M D
 |0=>fun _=>bad
 |n+1=>runF 1 1 (fJ (cN n))
noncomputable def mC:Sm':=seqS (sA (eL (aC (eV 0) (aN))) (gN 3))
   (seqS (sA (eCl (cN 6) (aC (eV 0) (aN))) (gN 4))
   (seqS (sF (iR1 (aC (eCl lenD (aC (eV 4) (aN))) (aN))) (gN 5) (sF (iS (eCl (cS 14) (aC (eIx (eV 4) (eV 5)) (aC (eV 1) (aC (eT (aN)) (aN)))))) (gN 6) (seqS (sA (eCl (gY 14) (aC (eIx (eV 4) (eV 5)) (aC (eV 6) (aC (eV 2) (aN))))) (gS (eV 4) (eV 5)))
   (sE (eBm "list" appendD (eV 3) (aC (eCl (fC 6) (aC (eV 0) (aC (eCl listD (aC (eV 4) (aN))) (aN)))) (aN)))))))
   (sR (eV 3))))
noncomputable def kN:List D→M D:=runF 7 3 mC
noncomputable def jZ:Sm':=seqS (sI (tCm eqD (eV 1) (eV 2)) (sR (eC (.b true))) (sN))
   (seqS (sA (eCl (kN) (aC (eV 0) (aC (eV 1) (aC (eV 2) (aN))))) (gN 3))
   (seqS (sA (eCl (qU) (aC (eV 0) (aC (eV 1) (aC (eV 2) (aN))))) (gN 4))
   (seqS (sI (tOo (tNo (tVl (eCl isinstD (aC (eV 4) (aC (eC (.ty "list")) (aN)))))) (tCm neD (eV 4) (eV 3))) (sR (eC (.b false))) (sN))
   (seqS (sE (eB0 "list" reverseD (eV 4)))
   (seqS (sE (eBm "list" appendD (eV 4) (aC (eV 0) (aN))))
   (sR (eOp eqD (eCl (qU) (aC (eV 0) (aC (eV 1) (aC (eV 2) (aN))))) (eV 3))))))))
noncomputable def fK:List D→M D:=runF 5 3 jZ
noncomputable def kW:Sm':=sR (eCl sumD (aC (eCo [1] (iS (eCl (cN 6) (aC (eV 0) (aN)))) bd1 ((fun _=>ret true)) (eCl lenD (aC (eCl (cS 14) (aC (eV 0) (aC (eV 1) (aC (eT (aN)) (aN))))) (aN)))) (aN)))
noncomputable def gJ:List D→M D:=runF 2 2 kW
noncomputable def lP(self:List D→M D):Sm':=sR (eOp addD (eC (.i (1))) (eCl sumD (aC (eCo [] (iS (eCl (iC) (aC (eV 0) (aN)))) bd1 ((fun _=>ret true)) (eCl self (aC (eV 0) (aN)))) (aN))))
noncomputable def cU:Nat→List D→M D
 |0=>fun _=>bad
 |n+1=>runF 1 1 (lP (cU n))
noncomputable def kO:Sm':=seqS (sI (tCm gtD (eIx (eV 0) (eC (.i (1)))) (eC (.i (0)))) (seqS (sA (eCl divmodD (aC (eIx (eV 0) (eC (.i (1)))) (aC (eV 1) (aN)))) (gT 2 (gsC (gS (eV 0) (eC (.i (1)))) (gsC (gN 2) (gsN)))))
   (sR (eV 2))) (sN))
   (seqS (sA (eOp modD (eOp addD (eOp mulD (eIx (eV 0) (eC (.i (0)))) (eC (.i (6364136223846793)))) (eC (.i (1442695040888963)))) (eC (.i (2305843009213693951)))) (gS (eV 0) (eC (.i (0)))))
   (sR (eOp modD (eOp fdivD (eIx (eV 0) (eC (.i (0)))) (eC (.i (65537)))) (eV 1))))
noncomputable def aF:List D→M D:=runF 3 2 kO
noncomputable def iY(self:List D→M D):Sm':=seqS (sI (tCm eqD (eV 1) (eIx (eIx (eV 0) (eC (.i (3)))) (eC (.i (0))))) (sR (eT (aC (eC (.s "call")) (aC (eIx (eIx (eIx (eV 0) (eC (.i (2)))) (eC (.i (0)))) (eC (.i (0)))) (aC (eT (aN)) (aN)))))) (sN))
   (seqS (sA (eIx (eIx (eIx (eV 0) (eC (.i (1)))) (eV 1)) (eC (.i (0)))) (gT 2 (gsC (gN 2) (gsC (gN 3) (gsN)))))
   (sR (eT (aC (eC (.s "form")) (aC (eV 2) (aC (eCl tupD (aC (eCo [0] (iS (eV 3)) bd1 ((fun _=>ret true)) (eCl self (aC (eV 1) (aC (eV 0) (aN))))) (aN))) (aN)))))))
noncomputable def dJ:Nat→List D→M D
 |0=>fun _=>bad
 |n+1=>runF 4 2 (iY (dJ n))
noncomputable def jS(self:List D→M D):Sm':=seqS (sA (eCo [2] (iS (eV 3)) (bdT 2) (tCm eqD (eV 1) (eV 2)) (eT (aC (eC (.s "free")) (aC (eV 0) (aN))))) (gN 7))
   (seqS (sA (eOp addD (eV 7) (eCo [2] (iEn (aC (eV 4) (aN))) (bdT 2) (tCm eqD (eV 1) (eV 2)) (eT (aC (eC (.s "bound")) (aC (eV 0) (aN)))))) (gN 7))
   (seqS (sA (eCl (aF) (aC (eV 0) (aC (eC (.i (4))) (aN)))) (gN 8))
   (seqS (sI (tAn (tCm neD (eV 7) (eL (aN))) (tOo (tCm eqD (eV 5) (eC (.i (0)))) (tCm eqD (eV 8) (eC (.i (0)))))) (sR (eIx (eV 7) (eCl (aF) (aC (eV 0) (aC (eCl lenD (aC (eV 7) (aN))) (aN)))))) (sN))
   (seqS (sI (tCm eqD (eV 5) (eC (.i (0)))) (sR (eCl (dJ 4) (aC (eV 1) (aC (eV 2) (aN))))) (sN))
   (seqS (sI (tAn (tCm isnotD (eV 6) (eC .no)) (tAn (tCm eqD (eIx (eV 6) (eC (.i (2)))) (eV 2)) (tAn (tCm neD (eIx (eV 6) (eC (.i (3)))) (eL (aN))) (tCm eqD (eV 8) (eC (.i (1))))))) (seqS (sA (eT (aC (eC (.s "bound")) (aC (eIx (eIx (eV 6) (eC (.i (3)))) (eCl (aF) (aC (eV 0) (aC (eCl lenD (aC (eIx (eV 6) (eC (.i (3)))) (aN))) (aN))))) (aN)))) (gN 9))
   (seqS (sA (eCo [1,4,6,5,0,3] (iS (eSl (eIx (eV 6) (eC (.i (1)))) (oS (eC (.i (1)))) (oN))) bd1 ((fun _=>ret true)) (eCl self (aC (eV 5) (aC (eV 1) (aC (eV 0) (aC (eV 6) (aC (eV 2) (aC (eOp subD (eV 4) (eC (.i (1)))) (aC (eV 3) (aN)))))))))) (gN 10))
   (sR (eT (aC (eC (.s "call")) (aC (eIx (eV 6) (eC (.i (0)))) (aC (eOp addD (eT (aC (eV 9) (aN))) (eCl tupD (aC (eV 10) (aN)))) (aN)))))))) (sN))
   (seqS (sA (eCo [] (iS (eG2 (eIx (eV 1) (eC (.i (1)))) (eV 2) (eL (aN)))) (bdT 2) ((fun _=>ret true)) (eT (aC (eC (.s "form")) (aC (eV 0) (aC (eV 1) (aN)))))) (gN 11))
   (seqS (sA (eOp addD (eV 11) (eCo [2] (iS (eIx (eV 1) (eC (.i (2))))) (bdT 3) (tCm eqD (eV 2) (eV 3)) (eT (aC (eC (.s "call")) (aC (eV 0) (aC (eV 1) (aN))))))) (gN 11))
   (seqS (sA (eIx (eV 11) (eCl (aF) (aC (eV 0) (aC (eCl lenD (aC (eV 11) (aN))) (aN))))) (gT 3 (gsC (gN 12) (gsC (gN 13) (gsC (gN 14) (gsN))))))
   (sR (eT (aC (eV 12) (aC (eV 13) (aC (eCl tupD (aC (eCo [1,4,6,5,0,3] (iS (eV 14)) bd1 ((fun _=>ret true)) (eCl self (aC (eV 5) (aC (eV 1) (aC (eV 0) (aC (eV 6) (aC (eV 2) (aC (eOp subD (eV 4) (eC (.i (1)))) (aC (eV 3) (aN)))))))))) (aN))) (aN))))))))))))))
noncomputable def cG:Nat→List D→M D
 |0=>fun _=>bad
 |n+1=>runF 15 7 (jS (cG n))
noncomputable def gU(self:List D→M D):Sm':=seqS (sA (eCl (aF) (aC (eV 0) (aC (eC (.i (8))) (aN)))) (gN 5))
   (seqS (sI (tCm eqD (eV 5) (eC (.i (0)))) (sR (eT (aC (eC (.s "false")) (aN)))) (sN))
   (seqS (sI (tCm eqD (eV 5) (eC (.i (1)))) (seqS (sA (eIx (eIx (eV 1) (eC (.i (5)))) (eCl (aF) (aC (eV 0) (aC (eCl lenD (aC (eIx (eV 1) (eC (.i (5)))) (aN))) (aN))))) (gT 2 (gsC (gN 6) (gsC (gN 7) (gsN)))))
   (seqS (sA (eCo [1,3,4,0,2] (iS (eV 7)) bd1 ((fun _=>ret true)) (eCl (cG 5) (aC (eV 4) (aC (eV 1) (aC (eV 0) (aC (eV 5) (aC (eV 2) (aC (eCl min2D (aC (eC (.i (2))) (aC (eV 3) (aN)))) (aC (eC .no) (aN)))))))))) (gN 8))
   (sR (eT (aC (eC (.s "atom")) (aC (eV 6) (aC (eCl tupD (aC (eV 8) (aN))) (aN)))))))) (sN))
   (seqS (sA (eIx (eIx (eV 1) (eC (.i (3)))) (eCl (aF) (aC (eV 0) (aC (eC (.i (3))) (aN))))) (gN 9))
   (seqS (sI (tOo (tCm ltD (eV 5) (eC (.i (4)))) (tCm eqD (eV 4) (eC (.i (0))))) (seqS (sA (eCl (cG 5) (aC (eV 0) (aC (eV 1) (aC (eV 9) (aC (eV 2) (aC (eV 3) (aC (eCl min2D (aC (eC (.i (2))) (aC (eV 4) (aN)))) (aC (eC .no) (aN))))))))) (gN 10))
   (sR (eT (aC (eC (.s "same")) (aC (eV 10) (aC (eCl (cG 5) (aC (eV 0) (aC (eV 1) (aC (eV 9) (aC (eV 2) (aC (eV 3) (aC (eCl min2D (aC (eC (.i (2))) (aC (eV 4) (aN)))) (aC (eC .no) (aN))))))))) (aN))))))) (sN))
   (seqS (sI (tCm ltD (eV 5) (eC (.i (6)))) (sR (eT (aC (eIx (eL (aC (eC (.s "all")) (aC (eC (.s "some")) (aN)))) (eOp subD (eV 5) (eC (.i (4))))) (aC (eV 9) (aC (eCl self (aC (eV 0) (aC (eV 1) (aC (eV 2) (aC (eOp addD (eL (aC (eV 9) (aN))) (eV 3)) (aC (eOp subD (eV 4) (eC (.i (1)))) (aN))))))) (aN)))))) (sN))
   (seqS (sA (eIx (eL (aC (eC (.s "and")) (aC (eC (.s "or")) (aC (eC (.s "if")) (aN))))) (eCl (aF) (aC (eV 0) (aC (eC (.i (3))) (aN))))) (gN 6))
   (seqS (sA (eCl self (aC (eV 0) (aC (eV 1) (aC (eV 2) (aC (eV 3) (aC (eOp subD (eV 4) (eC (.i (1)))) (aN))))))) (gN 10))
   (sR (eT (aC (eV 6) (aC (eV 10) (aC (eCl self (aC (eV 0) (aC (eV 1) (aC (eV 2) (aC (eV 3) (aC (eOp subD (eV 4) (eC (.i (1)))) (aN))))))) (aN)))))))))))))
noncomputable def gV:Nat→List D→M D
 |0=>fun _=>bad
 |n+1=>runF 11 5 (gU (gV n))
noncomputable def dR(self:List D→M D):Sm':=seqS (sI (tCm eqD (eV 0) (eT (aC (eC (.s "free")) (aC (eV 1) (aN))))) (sR (eV 2)) (sN))
   (seqS (sI (tCm inD (eIx (eV 0) (eC (.i (0)))) (eT (aC (eC (.s "free")) (aC (eC (.s "bound")) (aC (eC (.s "false")) (aN)))))) (sR (eV 0)) (sN))
   (seqS (sI (tCm inD (eIx (eV 0) (eC (.i (0)))) (eT (aC (eC (.s "form")) (aC (eC (.s "call")) (aC (eC (.s "atom")) (aN)))))) (sR (eT (aC (eIx (eV 0) (eC (.i (0)))) (aC (eIx (eV 0) (eC (.i (1)))) (aC (eCl tupD (aC (eCo [2,1] (iS (eIx (eV 0) (eC (.i (2))))) bd1 ((fun _=>ret true)) (eCl self (aC (eV 0) (aC (eV 2) (aC (eV 1) (aN)))))) (aN))) (aN)))))) (sN))
   (seqS (sI (tCm inD (eIx (eV 0) (eC (.i (0)))) (eT (aC (eC (.s "all")) (aC (eC (.s "some")) (aN))))) (sR (eT (aC (eIx (eV 0) (eC (.i (0)))) (aC (eIx (eV 0) (eC (.i (1)))) (aC (eCl self (aC (eIx (eV 0) (eC (.i (2)))) (aC (eV 1) (aC (eV 2) (aN))))) (aN)))))) (sN))
   (sR (eT (aC (eIx (eV 0) (eC (.i (0)))) (aC (eCl self (aC (eIx (eV 0) (eC (.i (1)))) (aC (eV 1) (aC (eV 2) (aN))))) (aC (eCl self (aC (eIx (eV 0) (eC (.i (2)))) (aC (eV 1) (aC (eV 2) (aN))))) (aN)))))))))
noncomputable def bQ:Nat→List D→M D
 |0=>fun _=>bad
 |n+1=>runF 3 3 (dR (bQ n))
noncomputable def kA:Sm':=seqS (sF (iS (eT (aC (eC (.i (3))) (aC (eC (.i (2))) (aC (eC (.i (1))) (aN)))))) (gN 7) (seqS (sA (eCl (bQ 14) (aC (eCl (gV 5) (aC (eV 0) (aC (eV 1) (aC (eOp addD (eV 2) (eOp mulD (eL (aC (eT (aC (eV 3) (aC (eV 4) (aN)))) (aN))) (eC (.i (2))))) (aC (eL (aN)) (aC (eV 7) (aN))))))) (aC (eV 3) (aC (eV 5) (aN))))) (gN 8))
   (seqS (sA (eCl sumD (aC (eCo [] (iS (eCl (cN 6) (aC (eV 8) (aN)))) bd1 ((fun _=>ret true)) (eCl (cU 14) (aC (eV 0) (aN)))) (aN))) (gN 9))
   (seqS (sA (eOp addD (eOp mulD (eCl (gJ) (aC (eV 8) (aC (eV 5) (aN)))) (eOp addD (eC (.i (5))) (eCl (cU 14) (aC (eV 6) (aN))))) (eOp mulD (eCl (gJ) (aC (eV 8) (aC (eV 6) (aN)))) (eOp addD (eC (.i (5))) (eCl (cU 14) (aC (eV 5) (aN)))))) (gN 10))
   (sI (tAn (tCm leD (eV 9) (eC (.i (400)))) (tCm leD (eV 10) (eC (.i (600))))) (sR (eV 8)) (sN))))))
   (sR (eT (aC (eC (.s "same")) (aC (eV 5) (aC (eV 5) (aN))))))
noncomputable def iJ:List D→M D:=runF 11 7 kA
noncomputable def iN:Sm':=seqS (sA (eIx (eV 1) (eC (.i (3)))) (gN 3))
   (seqS (sI (tCm eqD (eCl (aF) (aC (eV 0) (aC (eC (.i (3))) (aN)))) (eC (.i (0)))) (seqS (sA (eCl tupD (aC (eCo [3,0] (iR1 (aC (eCl (aF) (aC (eV 0) (aC (eC (.i (5))) (aN)))) (aN))) bd1 ((fun _=>ret true)) (eIx (eV 1) (eCl (aF) (aC (eV 2) (aC (eC (.i (3))) (aN)))))) (aN))) (gN 4))
   (seqS (sA (eIx (eV 3) (eCl (aF) (aC (eV 0) (aC (eC (.i (3))) (aN))))) (gN 5))
   (sR (eT (aC (eC (.s "short")) (aC (eV 2) (aC (eV 4) (aC (eV 5) (aC (eCl (cG 5) (aC (eV 0) (aC (eV 1) (aC (eV 5) (aC (eL (aN)) (aC (eCl listD (aC (eV 4) (aN))) (aC (eC (.i (2))) (aC (eC .no) (aN))))))))) (aN)))))))))) (sN))
   (seqS (sA (eIx (eV 3) (eOp addD (eC (.i (1))) (eCl (aF) (aC (eV 0) (aC (eC (.i (2))) (aN)))))) (gN 6))
   (seqS (sA (eOp addD (eT (aC (eV 6) (aN))) (eCl tupD (aC (eCo [3,0] (iR1 (aC (eCl (aF) (aC (eV 0) (aC (eC (.i (4))) (aN)))) (aN))) bd1 ((fun _=>ret true)) (eIx (eV 1) (eCl (aF) (aC (eV 2) (aC (eC (.i (3))) (aN)))))) (aN)))) (gN 4))
   (seqS (sA (eIx (eV 3) (eOp modD (eCl (aF) (aC (eV 0) (aC (eC (.i (4))) (aN)))) (eC (.i (3))))) (gN 5))
   (seqS (sA (eL (aN)) (gN 7))
   (seqS (sF (iS (eIx (eIx (eV 1) (eC (.i (1)))) (eV 6))) (gT 2 (gsC (gN 8) (gsC (gN 9) (gsN)))) (seqS (sA (eT (aC (eV 2) (aC (eV 4) (aC (eV 5) (aC (eCo [6] (iEn (aC (eV 9) (aN))) (bdT 2) (tCm eqD (eV 1) (eV 2)) (eV 0)) (aN)))))) (gN 10))
   (sE (eBm "list" appendD (eV 7) (aC (eCl (cG 5) (aC (eV 0) (aC (eV 1) (aC (eV 5) (aC (eL (aN)) (aC (eCl listD (aC (eOp addD (eV 9) (eSl (eV 4) (oS (eC (.i (1)))) (oN))) (aN))) (aC (eC (.i (2))) (aC (eV 10) (aN))))))))) (aN))))))
   (sR (eT (aC (eC (.s "rule")) (aC (eV 2) (aC (eV 4) (aC (eV 5) (aC (eCl tupD (aC (eV 7) (aN))) (aN))))))))))))))
noncomputable def gE:List D→M D:=runF 11 3 iN
noncomputable def lQ:Sm':=sR (eOp addD (eIx (eC (.s "BCDFGHJKLMNPQRSTVWXYZ")) (eBm "str" indexD (eC (.s "bcdfghjklmnpqrstvwxyz")) (aC (eIx (eV 0) (eC (.i (0)))) (aN)))) (eSl (eV 0) (oS (eC (.i (1)))) (oN)))
noncomputable def iK:List D→M D:=runF 1 1 lQ
noncomputable def mD:Sm':=seqS (sA (eSl (eV 1) (oN) (oS (eC (.i (3))))) (gT 3 (gsC (gN 2) (gsC (gN 3) (gsC (gN 4) (gsN))))))
   (seqS (sA (eCo [] (iS (eSl (eV 1) (oS (eC (.i (3)))) (oS (eC (.i (10)))))) bd1 ((fun _=>ret true)) (eCl (iK) (aC (eV 0) (aN)))) (gN 5))
   (seqS (sA (eDi [(eV 3,eL (aC (eT (aC (eIx (eV 5) (eC (.i (0)))) (aC (eT (aN)) (aN)))) (aC (eT (aC (eIx (eV 5) (eC (.i (1)))) (aC (eT (aC (eV 3) (aN))) (aN)))) (aN)))),(eV 4,eL (aC (eT (aC (eIx (eV 5) (eC (.i (2)))) (aC (eT (aN)) (aN)))) (aC (eT (aC (eIx (eV 5) (eC (.i (3)))) (aC (eT (aC (eV 3) (aC (eV 4) (aN)))) (aN)))) (aN))))]) (gN 6))
   (seqS (sI (tCm eqD (eCl (aF) (aC (eV 0) (aC (eC (.i (2))) (aN)))) (eC (.i (0)))) (sE (eBm "list" appendD (eIx (eV 6) (eV 3)) (aC (eT (aC (eIx (eV 5) (eC (.i (4)))) (aC (eT (aC (eV 3) (aC (eV 3) (aN)))) (aN)))) (aN)))) (sN))
   (seqS (sI (tCm eqD (eCl (aF) (aC (eV 0) (aC (eC (.i (2))) (aN)))) (eC (.i (0)))) (sE (eBm "list" insertD (eIx (eV 6) (eV 4)) (aC (eOp addD (eC (.i (1))) (eCl (aF) (aC (eV 0) (aC (eC (.i (2))) (aN))))) (aC (eT (aC (eIx (eV 5) (eC (.i (5)))) (aC (eT (aC (eV 4) (aC (eV 2) (aC (eV 3) (aC (eV 4) (aN)))))) (aN)))) (aN))))) (sN))
   (seqS (sI (tCm eqD (eCl (aF) (aC (eV 0) (aC (eC (.i (3))) (aN)))) (eC (.i (0)))) (sA (eT (aC (eIx (eV 5) (eC (.i (2)))) (aC (eT (aC (eV 2) (aC (eV 3) (aN)))) (aN)))) (gS (eIx (eV 6) (eV 4)) (eC (.i (0))))) (sN))
   (seqS (sA (eL (aC (eT (aC (eIx (eV 1) (eC (.i (10)))) (aC (eT (aN)) (aC (eV 2) (aN))))) (aC (eT (aC (eIx (eV 1) (eC (.i (11)))) (aC (eT (aC (eV 2) (aC (eV 3) (aN)))) (aC (eV 2) (aN))))) (aC (eT (aC (eIx (eV 1) (eC (.i (12)))) (aC (eT (aC (eV 3) (aN))) (aC (eV 3) (aN))))) (aN))))) (gN 7))
   (seqS (sA (eL (aC (eT (aC (eC (.s "open")) (aC (eV 2) (aN)))) (aC (eT (aC (eC (.s "kind")) (aC (eV 3) (aC (eCl tupD (aC (eIx (eV 6) (eV 3)) (aN))) (aN))))) (aC (eT (aC (eC (.s "kind")) (aC (eV 4) (aC (eCl tupD (aC (eIx (eV 6) (eV 4)) (aN))) (aN))))) (aN))))) (gN 8))
   (seqS (sA (eOp addD (eV 8) (eCo [] (iS (eV 7)) (bdT 3) ((fun _=>ret true)) (eT (aC (eC (.s "given")) (aC (eV 0) (aC (eV 1) (aC (eV 2) (aN)))))))) (gN 8))
   (seqS (sA (eT (aC (eV 8) (aC (eV 6) (aC (eV 7) (aC (eL (aC (eV 2) (aC (eV 3) (aC (eV 4) (aN))))) (aC (e0D) (aC (eL (aN)) (aN)))))))) (gN 9))
   (seqS (sA (eCl int1D (aC (eOp eqD (eCl (aF) (aC (eV 0) (aC (eC (.i (8))) (aN)))) (eC (.i (0)))) (aN))) (gN 10))
   (seqS (sF (iS (eSl (eOp addD (eSl (eV 1) (oS (eC (.i (13)))) (oS (eC (.i (18))))) (eSl (eV 1) (oS (eC (.i (21)))) (oS (eC (.i (26)))))) (oN) (oS (eOp addD (eOp addD (eC (.i (2))) (eOp mulD (eC (.i (6))) (eV 10))) (eCl (aF) (aC (eV 0) (aC (eOp subD (eC (.i (4))) (eV 10)) (aN)))))))) (gN 11) (seqS (sA (eCl (gE) (aC (eV 0) (aC (eV 9) (aC (eV 11) (aN))))) (gN 12))
   (seqS (sE (eBm "list" appendD (eV 8) (aC (eV 12) (aN))))
   (sE (eBm "list" appendD (eV 7) (aC (eT (aC (eIx (eV 12) (eC (.i (1)))) (aC (eIx (eV 12) (eC (.i (2)))) (aC (eIx (eV 12) (eC (.i (3)))) (aN))))) (aN)))))))
   (seqS (sF (iS (eSl (eV 8) (oS (eC (.i (3)))) (oN))) (gN 12) (sA (eV 12) (gS (eIx (eV 9) (eC (.i (4)))) (eIx (eV 12) (eC (.i (1)))))))
   (seqS (sF (iS (eSl (eOp addD (eSl (eV 1) (oS (eC (.i (18)))) (oS (eC (.i (20))))) (eSl (eV 1) (oS (eC (.i (26)))) (oS (eC (.i (31)))))) (oN) (oS (eOp addD (eC (.i (2))) (eOp mulD (eC (.i (5))) (eV 10)))))) (gN 13) (seqS (sE (eBm "list" appendD (eIx (eV 9) (eC (.i (5)))) (aC (eT (aC (eV 13) (aC (eCl tupD (aC (eCo [9,0] (iR1 (aC (eCl (aF) (aC (eV 0) (aC (eC (.i (5))) (aN)))) (aN))) bd1 ((fun _=>ret true)) (eIx (eIx (eV 1) (eC (.i (3)))) (eCl (aF) (aC (eV 2) (aC (eC (.i (3))) (aN)))))) (aN))) (aN)))) (aN))))
   (sE (eBm "list" appendD (eV 8) (aC (eOp addD (eT (aC (eC (.s "atom")) (aN))) (eIx (eIx (eV 9) (eC (.i (5)))) (eUn negD (eC (.i (1)))))) (aN))))))
   (sR (eV 9)))))))))))))))
noncomputable def kP:List D→M D:=runF 14 2 mD
noncomputable def kB:Sm':=seqS (sA (eC (.s "bcdfghjklmnpqrstvwxyz")) (gN 1))
   (seqS (sA (eC (.s "")) (gN 2))
   (seqS (sF (iR1 (aC (eCl (aF) (aC (eV 0) (aC (eC (.i (7))) (aN)))) (aN))) (gN 3) (sA (eOp addD (eV 2) (eIx (eV 1) (eCl (aF) (aC (eV 0) (aC (eC (.i (21))) (aN)))))) (gN 2)))
   (seqS (sA (eCl (aF) (aC (eV 0) (aC (eC (.i (21))) (aN)))) (gN 4))
   (seqS (sA (eCo [1,4] (iR1 (aC (eC (.i (21))) (aN))) bd1 ((fun _=>ret true)) (eIx (eV 1) (eOp modD (eOp addD (eV 2) (eOp mulD (eC (.i (5))) (eV 0))) (eC (.i (21)))))) (gN 5))
   (seqS (sA (eCl (aF) (aC (eV 0) (aC (eOp addD (eCl lenD (aC (eV 2) (aN))) (eC (.i (1)))) (aN)))) (gN 6))
   (seqS (sA (eCo [6,2] (iS (eV 5)) bd1 ((fun _=>ret true)) (eOp addD (eOp addD (eSl (eV 2) (oN) (oS (eV 1))) (eV 0)) (eSl (eV 2) (oS (eV 1)) (oN)))) (gN 7))
   (seqS (sI (tCm eqD (eCl (aF) (aC (eV 0) (aC (eC (.i (3))) (aN)))) (eC (.i (0)))) (sA (eCo [5,2] (iR1 (aC (eC (.i (21))) (aN))) bd1 ((fun _=>ret true)) (eOp addD (eIx (eV 1) (eV 0)) (eSl (eV 2) (oN) (oS (eOp modD (eV 0) (eOp addD (eCl lenD (aC (eV 2) (aN))) (eC (.i (1))))))))) (gN 7)) (sN))
   (sR (eOp addD (eV 7) (eCo [] (iS (eV 7)) bd1 ((fun _=>ret true)) (eOp addD (eOp addD (eSl (eV 0) (oN) (oS (eC (.i (1))))) (eC (.s "a"))) (eSl (eV 0) (oS (eC (.i (1)))) (oN)))))))))))))
noncomputable def iZ:List D→M D:=runF 8 1 kB
noncomputable def jA:Sm':=seqS (sA (eOp addD (eCl lenD (aC (eV 0) (aN))) (eC (.i (3)))) (gN 1))
   (seqS (sF (iS (eV 0)) (gN 2) (sA (eOp modD (eOp addD (eOp addD (eOp mulD (eV 1) (eC (.i (6364136223846793)))) (eOp modD (eV 2) (eOp powD (eC (.i (10))) (eC (.i (30)))))) (eC (.i (1442695040888963)))) (eC (.i (2305843009213693951)))) (gN 1)))
   (seqS (sA (eC (.i (0))) (gN 3))
   (seqS (sI (tAn (tCm gtD (eCl lenD (aC (eV 0) (aN))) (eC (.i (0)))) (tCm eqD (eOp modD (eIx (eV 0) (eUn negD (eC (.i (1))))) (eC (.i (2)))) (eC (.i (0))))) (sA (eOp fdivD (eCl absD (aC (eIx (eV 0) (eUn negD (eC (.i (1))))) (aN))) (eC (.i (2)))) (gN 3)) (sN))
   (sR (eL (aC (eV 1) (aC (eV 3) (aN))))))))
noncomputable def gZ:List D→M D:=runF 4 1 jA
noncomputable def yG:Sm':=seqS (sA (eCl (gZ) (aC (eV 0) (aN))) (gN 1))
   (seqS (sA (eCl (iZ) (aC (eV 1) (aN))) (gN 2))
   (seqS (sA (eCl (kP) (aC (eV 1) (aC (eV 2) (aN)))) (gN 3))
   (seqS (sA (eIx (eIx (eV 3) (eC (.i (3)))) (eCl (aF) (aC (eV 1) (aC (eC (.i (3))) (aN))))) (gN 4))
   (seqS (sA (eL (aC (eT (aC (eIx (eV 2) (eC (.i (0)))) (aC (eV 4) (aN)))) (aC (eT (aC (eIx (eV 2) (eC (.i (7)))) (aC (eIx (eIx (eV 3) (eC (.i (3)))) (eCl (aF) (aC (eV 1) (aC (eC (.i (3))) (aN))))) (aN)))) (aN)))) (gN 5))
   (seqS (sA (eCl (cG 5) (aC (eV 1) (aC (eV 3) (aC (eV 4) (aC (eV 5) (aC (eL (aN)) (aC (eOp addD (eC (.i (1))) (eCl (aF) (aC (eV 1) (aC (eC (.i (2))) (aN))))) (aC (eC .no) (aN))))))))) (gN 6))
   (seqS (sA (eCl (cG 5) (aC (eV 1) (aC (eV 3) (aC (eV 4) (aC (eV 5) (aC (eL (aN)) (aC (eC (.i (2))) (aC (eC .no) (aN))))))))) (gN 7))
   (seqS (sI (tCm eqD (eCl (aF) (aC (eV 1) (aC (eC (.i (3))) (aN)))) (eC (.i (0)))) (sA (eCl (bQ 14) (aC (eV 7) (aC (eIx (eV 2) (eC (.i (0)))) (aC (eV 6) (aN))))) (gN 7)) (sN))
   (seqS (sA (eCl (iJ) (aC (eV 1) (aC (eV 3) (aC (eV 5) (aC (eIx (eV 2) (eC (.i (11)))) (aC (eV 4) (aC (eV 6) (aC (eV 7) (aN))))))))) (gN 8))
   (sR (eAn (eCl (fK) (aC (eV 8) (aC (eV 6) (aC (eV 7) (aN))))) (eAn (eCl (fK) (aC (eV 8) (aC (eV 7) (aC (eV 6) (aN))))) (eCl (fK) (aC (eV 8) (aC (eT (aC (eC (.s "free")) (aC (eIx (eV 2) (eC (.i (20)))) (aN)))) (aC (eV 7) (aN))))))))))))))))
noncomputable def sQ:List D→M D:=runF 9 1 yG
end K61
end
section
namespace K61
open PySem PySem.W L2 PyProof.Rows
abbrev rw_:=PySem.Challenge.rw_tacticwright_k61_walks_told
def vw:Program:=PySem.W.view rw_.prog [1,2,3,4,5,6,7,8,10,11,13,14,15,16,17,18,19,20,21,22,23,24,25,26,27,28,29,30,31,32,33]
def fns:List (Str×Nat):=[("parts_of",4),("head_of",6),("alike",7),("ways_to",10),("with_parts",5),("with_place",8),("walk",11),("_law_args",23),("_law_spots",26),("_law_with",25),("_law_set",27),("_law_terms",24),("_law_walk",28),("_law_asked",32),("_law_places",30),("_law_nodes",29),("_law_next",14),("_law_least",17),("_law_term",18),("_law_said",21),("_law_planted",22),("_law_drawn",31),("_law_function",19),("_law_great",16),("_law_book",20),("_law_names",15),("_law_begin",13),("law",33)]
def tps:List (Str×List Str):=[("ARGS_WORDS",["form","call","atom"]),("BIND_WORDS",["all","some"]),("PAIR_WORDS",["same","and","or","if"])]
def bls:List Str:=["abs","divmod","enumerate","int","isinstance","len","list","min","range","reversed","sum","tuple","zip"]
abbrev YT:=List FnX×List (Option (List Str))×List (Option (Option Value))
def yf(K:Frag):YT:=(fns.map fun p=>fnAt K p.1,tps.map fun p=>tupAt K p.1,bls.map fun x=>nsIn K mainGlobals x)
def yv:YT:=(fns.map fun p=>fnWant p.1 (top p.2),tps.map fun p=>some p.2,bls.map fun _=>some none)
theorem said:rw_.wellSaid=true:=by kernel_rfl
theorem left:LeftO rw_.row.prog vw [] (fun s=>xlAt vw [] s&&recOk rw_.row.toRowW.records s) (fun s=>yf (fragOf s.heap)) (fun _=>yv) 2000:=fun w=>by kernel_rfl
theorem okk:(chainsOk vw&&opensWell rw_.row.prog&&(frees rw_.row.toRowW&&rw_.row.within.isEmpty))=true:=by kernel_rfl
theorem hdef:defOf vw rw_.row.name=some (recOf (top 33),[]):=by kernel_rfl
theorem hp:rw_.row.prog.theDef rw_.row.name=some ((recOf (top 33)).params,(recOf (top 33)).body,(recOf (top 33)).scope):=by kernel_rfl
theorem hb6:rw_.row.prog.tablesWhole=true:=by kernel_rfl
theorem hb:rw_.row.prog.bare:=⟨by kernel_rfl,by kernel_rfl,by kernel_rfl,by kernel_rfl,by kernel_rfl,hb6⟩
theorem hw:rw_.row.toRowW.promised:=by w_witness2
end K61
end
section
namespace L2
open PySem PySem.Spec PyProof.Rows
section
variable{α β:Type}
abbrev R3(_:α→M β):Type:=Option (β×Sto)
abbrev R1(_:M α):Type:=Option (α×Sto)
abbrev R2'(_ _:M α):Type:=Option (α×Sto)
abbrev RQ(_:Sm'):Type:=Option ((Fw×En)×Sto)
noncomputable def b3(r:Option (α×Sto))(f:α→M β):R3 f:=match r with
 |some (a,st')=>f a st'
 |none=>none
@[simp] theorem aG{a:α}{st:Sto}{f:α→M β}:b3 (some (a,st)) f=f a st:=rfl
@[simp] theorem b3_none{f:α→M β}:b3 none f=none:=rfl
@[simp] theorem aI{x:M α}{f:α→M β}{st:Sto}:bnd x f st=b3 (x st) f:=rfl
@[simp] theorem aM{a:α}{st:Sto}:L2.ret a st=some (a,st):=rfl
@[simp] theorem bad_ap{st:Sto}:(bad:M α) st=none:=rfl
noncomputable def n3(p:Prop)[Decidable p](x:M α)(st:Sto):R1 x:=@ite _ p (Classical.propDecidable p) (x st) none
@[simp] theorem n3_true{x:M α}{st:Sto}:n3 True x st=x st:=if_pos trivial
theorem aX{p:Prop}[Decidable p]{x:M α}{st:Sto}(h:p):n3 p x st=x st:=if_pos h
@[simp] theorem aO{p:Prop}[Decidable p]{x:M α}{st:Sto}:need p x st=n3 p x st:=rfl
noncomputable def c3(b:Bool)(x y:M α)(st:Sto):R2' x y:=if b=true then x st else y st
@[simp] theorem bB{x y:M α}{st:Sto}:c3 true x y st=x st:=rfl
@[simp] theorem aT{x y:M α}{st:Sto}:c3 false x y st=y st:=rfl
end
noncomputable def q3(r:Option ((Fw×En)×Sto))(s2:Sm'):RQ s2:=match r with
 |some ((.nx,e),st)=>s2 e st
 |some ((.bk,e),st)=>some ((.bk,e),st)
 |some ((.ct,e),st)=>some ((.ct,e),st)
 |some ((.rt d,e),st)=>some ((.rt d,e),st)
 |none=>none
section
variable{env:En}{st:Sto}{d x y:D}{a b:En→M D}{c e:En→M Bool}{s1 s2:Sm'}{f:D→D→M D}{t:En→M (List D)}{g:List D→M D}{i n:Nat}
@[simp] theorem cL:q3 (some ((.nx,env),st)) s2=s2 env st:=rfl
@[simp] theorem q3_bk:q3 (some ((.bk,env),st)) s2=some ((.bk,env),st):=rfl
@[simp] theorem q3_ct:q3 (some ((.ct,env),st)) s2=some ((.ct,env),st):=rfl
@[simp] theorem dG:q3 (some ((.rt d,env),st)) s2=some ((.rt d,env),st):=rfl
@[simp] theorem q3_none:q3 none s2=none:=rfl
@[simp] theorem aW:seqS s1 s2 env st=q3 (s1 env st) s2:=by
 unfold seqS
 rw[aI]
 cases h:s1 env st with
 |none=>rfl
 |some r=>
  obtain⟨⟨fl,e⟩,st'⟩:=r
  cases fl<;>rfl
noncomputable def f3(r:Option ((Fw×En)×Sto)):Option (D×Sto):=match r with
 |some ((.rt d,_),st')=>some (d,st')
 |some ((.nx,_),st')=>some (.no,st')
 |_=>none
@[simp] theorem cP:f3 (some ((.rt d,env),st))=some (d,st):=rfl
@[simp] theorem f3_nx:f3 (some ((.nx,env),st))=some (.no,st):=rfl
@[simp] theorem eZ{p:Nat}{ts:Sm'}{ds:List D}(h:ds.length=p):runF n p ts ds st=f3 (ts (ds.map some++List.replicate (n - p) none) st):=by
 unfold runF f3
 rw[if_pos h]
 try rfl
@[simp] theorem eK{o:D}:eV 0 (some o::env) st=some (o,st):=rfl
theorem eV_s{o:Option D}:eV (i+1) (o::env) st=eV i env st:=rfl
@[simp] theorem eI{o1:Option D}{o:D}:eV 1 (o1::some o::env) st=some (o,st):=rfl
@[simp] theorem fA{o1 o2:Option D}{o:D}:eV 2 (o1::o2::some o::env) st=some (o,st):=rfl
@[simp] theorem eU{o1 o2 o3:Option D}{o:D}:eV 3 (o1::o2::o3::some o::env) st=some (o,st):=rfl
@[simp] theorem fH{o1 o2 o3 o4:Option D}{o:D}:eV 4 (o1::o2::o3::o4::some o::env) st=some (o,st):=rfl
@[simp] theorem fB{o1 o2 o3 o4 o5:Option D}{o:D}:eV 5 (o1::o2::o3::o4::o5::some o::env) st=some (o,st):=rfl
@[simp] theorem fP{o1 o2 o3 o4 o5 o6:Option D}{o:D}:eV 6 (o1::o2::o3::o4::o5::o6::some o::env) st=some (o,st):=rfl
@[simp] theorem fO{o1 o2 o3 o4 o5 o6 o7:Option D}{o:D}:eV 7 (o1::o2::o3::o4::o5::o6::o7::some o::env) st=some (o,st):=rfl
@[simp] theorem fR{o1 o2 o3 o4 o5 o6 o7 o8:Option D}{o:D}:eV 8 (o1::o2::o3::o4::o5::o6::o7::o8::some o::env) st=some (o,st):=rfl
@[simp] theorem fT{o1 o2 o3 o4 o5 o6 o7 o8 o9:Option D}{o:D}:eV 9 (o1::o2::o3::o4::o5::o6::o7::o8::o9::some o::env) st=some (o,st):=rfl
@[simp] theorem dS{o1 o2 o3 o4 o5 o6 o7 o8 o9 o10:Option D}{o:D}:eV 10 (o1::o2::o3::o4::o5::o6::o7::o8::o9::o10::some o::env) st=some (o,st):=rfl
@[simp] theorem dU{o1 o2 o3 o4 o5 o6 o7 o8 o9 o10 o11:Option D}{o:D}:eV 11 (o1::o2::o3::o4::o5::o6::o7::o8::o9::o10::o11::some o::env) st=some (o,st):=rfl
@[simp] theorem dW{o1 o2 o3 o4 o5 o6 o7 o8 o9 o10 o11 o12:Option D}{o:D}:eV 12 (o1::o2::o3::o4::o5::o6::o7::o8::o9::o10::o11::o12::some o::env) st=some (o,st):=rfl
@[simp] theorem dX{o1 o2 o3 o4 o5 o6 o7 o8 o9 o10 o11 o12 o13:Option D}{o:D}:eV 13 (o1::o2::o3::o4::o5::o6::o7::o8::o9::o10::o11::o12::o13::some o::env) st=some (o,st):=rfl
@[simp] theorem dY{o1 o2 o3 o4 o5 o6 o7 o8 o9 o10 o11 o12 o13 o14:Option D}{o:D}:eV 14 (o1::o2::o3::o4::o5::o6::o7::o8::o9::o10::o11::o12::o13::o14::some o::env) st=some (o,st):=rfl
@[simp] theorem bK:eC d env st=some (d,st):=rfl
@[simp] theorem bC:eOp f a b env st=b3 (a env st) fun x=>bnd (b env) fun y=>f x y:=rfl
@[simp] theorem bM:tCm f a b env st=b3 (eOp f a b env st) isB:=rfl
@[simp] theorem bN{x:Bool}:isB (.b x) st=some (x,st):=rfl
@[simp] theorem aFk:tVl a env st=b3 (a env st) truD:=rfl
@[simp] theorem bT:tAn c e env st=b3 (c env st) fun x=>c3 x (e env) (L2.ret false):=by
 unfold tAn
 rw[aI]
 congr 1
 funext x st
 cases x<;>rfl
@[simp] theorem cD:tOo c e env st=b3 (c env st) fun x=>c3 x (L2.ret true) (e env):=by
 unfold tOo
 rw[aI]
 congr 1
 funext x st
 cases x<;>rfl
@[simp] theorem tNo_ap:tNo c env st=b3 (c env st) fun x=>L2.ret (!x):=rfl
@[simp] theorem aFl:eAn a b env st=b3 (b3 (a env st) isB) fun x=>c3 x (b env) (L2.ret (.b false)):=by
 unfold eAn
 rw[aI]
 congr 1
 funext x st
 cases x<;>rfl
@[simp] theorem eIf_ap:eIf c a b env st=b3 (c env st) fun x=>c3 x (a env) (b env):=by
 unfold eIf
 rw[aI]
 congr 1
 funext x st
 cases x<;>rfl
@[simp] theorem cA{f:D→M D}:eUn f a env st=b3 (a env st) f:=rfl
@[simp] theorem aZ:aN env st=some ([],st):=rfl
@[simp] theorem bD:aC a t env st=b3 (a env st) fun x=>bnd (t env) fun xs=>L2.ret (x::xs):=rfl
@[simp] theorem cY:eT t env st=b3 (t env st) fun xs=>need (xs.length≤sizeLine) (L2.ret (.t xs)):=rfl
@[simp] theorem cW:eL t env st=b3 (t env st) newL:=rfl
@[simp] theorem aV:eCl g t env st=b3 (t env st) g:=rfl
@[simp] theorem bE:eIx a b env st=b3 (a env st) fun x=>bnd (b env) fun y=>ixD x y:=rfl
@[simp] theorem dM:oN env st=some (none,st):=rfl
@[simp] theorem dH:oS a env st=b3 (a env st) fun x=>bnd (asI x) fun n=>L2.ret (some n):=rfl
@[simp] theorem bX{n:Int}:asI (.i n) st=some (n,st):=rfl
@[simp] theorem bY{l h:En→M (Option Int)}:eSl a l h env st=b3 (a env st) fun x=>bnd (l env) fun l=>bnd (h env) fun h=>slD x l h:=rfl
@[simp] theorem eRv_ap:eRv a b env st=b3 (a env st) fun x=>bnd (b env) fun y=>revD x y:=rfl
@[simp] theorem bU{T:String}{f:D→List D→M D}:eBm T f a t env st=b3 (a env st) fun x=>bnd (chkT T x) fun _=>bnd (t env) fun xs=>f x xs:=rfl
@[simp] theorem aBt{T:String}{f:D→List D→M D}:eB0 T f a env st=b3 (a env st) fun x=>bnd (chkT T x) fun _=>f x []:=rfl
@[simp] theorem fI{caps:List Nat}{ti:En→M Its'}{bd:D→Sto→Option (List D)}:eCo caps ti bd c a env st=b3 (ti env st) fun its=>need (its.1.length<sizeLine) (bnd (compD its.2 bd c a (capD caps env) its.1 []) newC):=rfl
@[simp] theorem aS{zs:List D}:newC zs st=some (.r st.length,st++[.l zs]):=rfl
@[simp] theorem bW:gN i d env st=some (env.set i (some d),st):=rfl
@[simp] theorem qV:gsN [] env st=some (env,st):=rfl
@[simp] theorem qW{g:D→En→M En}{gs:List D→En→M En}{ds:List D}:gsC g gs (d::ds) env st=b3 (g d env st) fun env'=>gs ds env':=rfl
@[simp] theorem aCW{gs:List D→En→M En}{xs:List D}(h:xs.length=n):gT n gs (.t xs) env st=gs xs env st:=by unfold gT unp seqOf;dsimp only;rw[if_pos h]
theorem aGn{gs:List D→En→M En}{xs:List D}(hq:seqOf st d=some xs)(h:xs.length=n):gT n gs d env st=gs xs env st:=by unfold gT unp;rw[hq];dsimp only;rw[if_pos h]
@[simp] theorem yH:gS a b d env st=b3 (a env st) fun x=>bnd (b env) fun y=>bnd (setD x y d) fun _=>L2.ret env:=rfl
@[simp] theorem dD:sN env st=some ((.nx,env),st):=rfl
@[simp] theorem dI:sE a env st=b3 (a env st) fun _=>L2.ret (.nx,env):=rfl
@[simp] theorem cQ:sR a env st=b3 (a env st) fun d=>L2.ret (.rt d,env):=rfl
@[simp] theorem cX:sI c s1 s2 env st=b3 (c env st) fun b=>c3 b (s1 env) (s2 env):=by
 unfold sI
 rw[aI]
 congr 1
 funext x st
 cases x<;>rfl
@[simp] theorem cE{g:D→En→M En}:sA a g env st=b3 (a env st) fun d=>bnd (g d env) fun env'=>L2.ret (.nx,env'):=rfl
@[simp] theorem lB{ti:En→M Its'}{g:D→En→M En}:sF ti g s1 env st=b3 (ti env st) fun its=>forD its.2 g s1 its.1 env:=rfl
@[simp] theorem cB:iS a env st=b3 (a env st) itD:=rfl
@[simp] theorem oY:iR1 t env st=b3 (t env st) fun xs=>need (xs.length=1) (rangeD xs):=rfl
@[simp] theorem aBu:iEn t env st=b3 (t env st) enumD:=rfl
@[simp] theorem aFm:iRR t env st=b3 (t env st) revRD:=rfl
@[simp] theorem bV{a b:Int}:addD (.i a) (.i b) st=some (.i (a+b),st):=rfl
@[simp] theorem bZ{a b:List D}:addD (.t a) (.t b) st=n3 (a.length+b.length≤sizeLine) (L2.ret (.t (a++b))) st:=rfl
@[simp] theorem cI{a b:Str}:addD (.s a) (.s b) st=n3 (a.length+b.length≤sizeLine) (L2.ret (.s (a++b))) st:=rfl
theorem lR{l k:Nat}{xs ys:List D}(h1:st[l]?=some (.l xs))(h2:st[k]?=some (.l ys))(h:xs.length+ys.length≤sizeLine):addD (.r l) (.r k) st=some (.r st.length,st++[.l (xs++ys)]):=by
 show bnd (getL l) _ st=_
 rw[fW (jY h1),fW (jY h2)]
 unfold newL
 rw[if_pos (by rw[List.length_append];exact h)]
@[simp] theorem cF{a b:Int}:subD (.i a) (.i b) st=some (.i (a - b),st):=rfl
@[simp] theorem nO{a b:Int}:mulD (.i a) (.i b) st=n3 (CMul a b) (L2.ret (.i (a * b))) st:=rfl
@[simp] theorem aCX{a b:Int}:fdivD (.i a) (.i b) st=n3 (CDiv a b) (L2.ret (.i (a / b))) st:=rfl
@[simp] theorem oZ{a b:Int}:modD (.i a) (.i b) st=n3 (0<b) (L2.ret (.i (a % b))) st:=rfl
@[simp] theorem aFn{a b:Int}:powD (.i a) (.i b) st=n3 (CPow a b) (L2.ret (.i (a ^ b.toNat))) st:=rfl
@[simp] theorem dZ{a b:Int}:ltD (.i a) (.i b) st=some (.b (decide (a<b)),st):=rfl
@[simp] theorem eA{a b:Int}:leD (.i a) (.i b) st=some (.b (decide (a≤b)),st):=rfl
@[simp] theorem dO{a b:Int}:gtD (.i a) (.i b) st=some (.b (decide (b<a)),st):=rfl
@[simp] theorem tW{a:Int}:negD (.i a) st=some (.i (-a),st):=rfl
@[simp] theorem cZ{a b:Int}:eqD (.i a) (.i b) st=some (.b (a==b),st):=rfl
@[simp] theorem eB{a b:Str}:eqD (.s a) (.s b) st=some (.b (a==b),st):=rfl
@[simp] theorem neD_i{a b:Int}:neD (.i a) (.i b) st=some (.b (!(a==b)),st):=rfl
@[simp] theorem neD_s{a b:Str}:neD (.s a) (.s b) st=some (.b (!(a==b)),st):=rfl
@[simp] theorem isD_no:isD x .no st=some (.b (noB x),st):=by cases x<;>rfl
@[simp] theorem isnotD_no:isnotD x .no st=some (.b (!noB x),st):=by cases x<;>rfl
@[simp] theorem cR{xs:List D}{n:Int}:ixD (.t xs) (.i n) st=opt (atI xs n) st:=by
 unfold ixD ixV opt seqOf
 cases h:atI xs n<;>simp[h]
theorem fF{l:Nat}{xs:List D}{n:Int}(h:st[l]?=some (.l xs)):ixD (.r l) (.i n) st=opt (atI xs n) st:=by
 have e:ixV st (.r l) (.i n)=atI xs n:=by
  show ixR st l (.i n)=_
  unfold ixR dcc lsc
  rw[h]
  rfl
 unfold ixD opt
 rw[e]
 cases atI xs n<;>rfl
@[simp] theorem cH{α:Type}{z:α}:opt (some z) st=some (z,st):=rfl
@[simp] theorem dE{α:Type}{z:α}{zs:List α}:atI (z::zs) 0=some z:=by unfold atI ixN;simp
@[simp] theorem dA{α:Type}{z0 z:α}{zs:List α}:atI (z0::z::zs) 1=some z:=jL (j:=1) rfl
@[simp] theorem dF{α:Type}{z0 z1 z:α}{zs:List α}:atI (z0::z1::z::zs) 2=some z:=jL (j:=2) rfl
@[simp] theorem dN{α:Type}{z0 z1 z2 z:α}{zs:List α}:atI (z0::z1::z2::z::zs) 3=some z:=jL (j:=3) rfl
@[simp] theorem eD{α:Type}{z0 z1 z2 z3 z:α}{zs:List α}:atI (z0::z1::z2::z3::z::zs) 4=some z:=jL (j:=4) rfl
@[simp] theorem eE{α:Type}{z0 z1 z2 z3 z4 z:α}{zs:List α}:atI (z0::z1::z2::z3::z4::z::zs) 5=some z:=jL (j:=5) rfl
@[simp] theorem aFo{xs:List D}:lenD [.t xs] st=some (.i (xs.length:Nat),st):=rfl
@[simp] theorem pA{xs:List D}:lenD [.f xs] st=some (.i (xs.length:Nat),st):=rfl
theorem qX{l:Nat}{xs:List D}(h:st[l]?=some (.l xs)):lenD [.r l] st=some (.i (xs.length:Nat),st):=by
 have e:seqOf st (.r l)=some xs:=kS h
 unfold lenD lenV
 dsimp only
 rw[e]
 rfl
theorem wW{z:Str}(h:z.length≤sizeLine):lenD [.s z] st=some (.i (z.length:Nat),st):=by
 unfold lenD lenV
 dsimp only
 rw[if_pos h]
@[simp] theorem bI{xs:List D}:listD [.t xs] st=some (.r st.length,st++[.l xs]):=rfl
theorem aCY{l:Nat}{xs:List D}(h:st[l]?=some (.l xs)):listD [.r l] st=some (.r st.length,st++[.l xs]):=by
 have e:seqOf st (.r l)=some xs:=kS h
 unfold listD
 dsimp only
 rw[e]
@[simp] theorem cJ{xs:List D}:tupD [.t xs] st=some (.t xs,st):=rfl
theorem iO{l:Nat}{xs:List D}(h:st[l]?=some (.l xs)):tupD [.r l] st=some (.t xs,st):=by
 show bnd (getL l) _ st=_
 rw[fW (jY h)]
 rfl
@[simp] theorem dC{xs:List D}:itD (.t xs) st=some ((xs,fun _=>True),st):=rfl
@[simp] theorem aBv{xs:List D}:itD (.f xs) st=some ((xs,fun _=>True),st):=rfl
theorem jX{l:Nat}{xs:List D}(h:st[l]?=some (.l xs)):itD (.r l) st=some ((xs,fun st=>st[l]?=some (.l xs)),st):=by
 show bnd (getL l) _ st=_
 rw[fW (jY h)]
 rfl
@[simp] theorem bA{xs:List D}:newL xs st=n3 (xs.length≤sizeLine) (newC xs) st:=by
 unfold newL n3
 by_cases h:xs.length≤sizeLine
 ·rw[if_pos h,if_pos h];rfl
 ·rw[if_neg h,if_neg h]
@[simp] theorem aFp{z:Str}:chkT "str" (.s z) st=some ((),st):=rfl
theorem fQ{l:Nat}{xs:List D}(h:st[l]?=some (.l xs)):chkT "list" (.r l) st=some ((),st):=by
 unfold chkT
 dsimp only
 rw[h]
 rfl
theorem aBw{l:Nat}{xs:List (Key×D)}(h:st[l]?=some (.d xs)):chkT "dict" (.r l) st=some ((),st):=by
 unfold chkT
 dsimp only
 rw[h]
 rfl
theorem gQ{l:Nat}{xs:List D}(h:st[l]?=some (.l xs))(hl:xs.length<sizeLine):appendD (.r l) [y] st=some (.no,st.set l (.l (xs++[y]))):=lL h (by rw[if_pos hl])
theorem wX{l:Nat}{xs:List D}(h:st[l]?=some (.l (xs++[y]))):popD (.r l) [] st=some (y,st.set l (.l xs)):=lL h (by simp)
theorem tX{l:Nat}{xs:List D}(h:st[l]?=some (.l (y::xs))):popD (.r l) [.i 0] st=some (y,st.set l (.l xs)):=lL h (by
 rw[if_pos (by decide)]
 have e:seqIndex? 0 (y::xs).length=some 0:=PySem.StrLaws.seqIndex_nonneg (by decide) (by simp)
 rw[e]
 rfl)
theorem extendD_t{l:Nat}{xs ys:List D}(h:st[l]?=some (.l xs))(hl:xs.length+ys.length≤sizeLine):extendD (.r l) [.t ys] st=some (.no,st.set l (.l (xs++ys))):=lL h (by rw[if_pos hl])
theorem pB{l k:Nat}{xs ys:List D}(h:st[l]?=some (.l xs))(hk:st[k]?=some (.l ys))(hl:xs.length+ys.length≤sizeLine):extendD (.r l) [.r k] st=some (.no,st.set l (.l (xs++ys))):=by
 show bnd (getL k) _ st=_
 rw[fW (jY hk)]
 exact lL h (by rw[if_pos hl])
theorem wY{l:Nat}{xs:List D}(h:st[l]?=some (.l xs)):reverseD (.r l) [] st=some (.no,st.set l (.l xs.reverse)):=lL (f:=fun xs=>some (.no,xs.reverse)) h rfl
theorem qY{l:Nat}{xs:List D}{n:Nat}(h:st[l]?=some (.l xs))(hn:n<xs.length):setD (.r l) (.i (n:Nat)) y st=some ((),st.set l (.l (xs.set n y))):=by
 have h1:dcc st l=none:=by unfold dcc;rw[h]
 have:ixN xs.length (n:Int)=some n:=by unfold ixN;rw[if_pos (by omega),if_pos (by omega)];simp
 unfold setD
 dsimp only
 rw[h1,kS h]
 dsimp only
 rw[this]
theorem aFq{l:Nat}{kvs:List (Key×D)}{k:Key}(h:st[l]?=some (.d kvs))(hk:keyD x=some k)(hl:kvs.length<sizeLine):setD (.r l) x y st=some ((),st.set l (.d (putD kvs k y))):=by
 unfold setD
 dsimp only
 rw[qQ h,hk]
 dsimp only
 rw[if_pos hl]
theorem pN{l:Nat}{kvs:List (Key×D)}{k:Key}(h:st[l]?=some (.d kvs))(hk:keyD x=some k)(hv:valD kvs k=some y):ixD (.r l) x st=some (y,st):=by
 have e:ixV st (.r l) x=some y:=by
  have:ixV st (.r l) x=ixR st l x:=by cases x<;>rfl
  rw[this]
  unfold ixR
  rw[qQ h,hk]
  exact hv
 unfold ixD
 rw[e]
@[simp] theorem divmodD_i{a b:Int}:divmodD [.i a, .i b] st=n3 (CDiv a b) (L2.ret (.t [.i (a / b), .i (a % b)])) st:=rfl
@[simp] theorem aFr{a:Int}:absD [.i a] st=some (.i (if a<0 then -a else a),st):=rfl
@[simp] theorem bJ{a b:Int}:min2D [.i a, .i b] st=some (.i (if b<a then b else a),st):=rfl
@[simp] theorem aCZ{k:Bool}:int1D [.b k] st=some (.i (if k then 1 else 0),st):=rfl
@[simp] theorem dP{xs:List D}{lo hi:Option Int}:slD (.t xs) lo hi st=some (.t (cutD xs lo hi),st):=rfl
@[simp] theorem yI{z:Str}{lo hi:Option Int}:slD (.s z) lo hi st=n3 (z.length≤sizeLine) (L2.ret (.s (Txt.slice z lo hi))) st:=rfl
theorem oA{l:Nat}{xs:List D}{lo hi:Option Int}(h:st[l]?=some (.l xs)):slD (.r l) lo hi st=some (.r st.length,st++[.l (cutD xs lo hi)]):=by
 show bnd (getL l) _ st=_
 rw[fW (jY h)]
@[simp] theorem lD{j:Int}:rangeD [.i j] st=n3 (-(2 ^ 62)≤j∧j<2 ^ 62) (L2.ret ((List.range j.toNat).map fun(k:Nat)=>D.i (0+(k:Int)),fun _=>True)) st:=rfl
@[simp] theorem aDa{xs:List D}:enumD [.t xs] st=some ((enumL xs,fun _=>True),st):=rfl
@[simp] theorem aFs{k:Bool}:truD (.b k) st=some (k,st):=rfl
theorem tY{l:Nat}{xs:List D}(h:st[l]?=some (.l xs)):truD (.r l) st=some (!xs.isEmpty,st):=by
 unfold truD
 dsimp only
 rw[h]
 rfl
theorem aDb{n:Nat}(h:n<2 ^ 62):revRD [.i (n:Nat)] st=some (((List.range n).map fun(k:Nat)=>D.i ((n:Int) - 1 - (k:Int)),fun _=>True),st):=by
 unfold revRD
 dsimp only
 rw[xY ⟨by omega,by omega⟩,Int.toNat_natCast]
 rfl
theorem aDc{xs ys:List D}(h:xs.length=ys.length)(h2:xs.length<sizeLine):lzipD [.t xs, .t ys] st=some (.r st.length,st++[.l (List.zipWith (fun x y=>D.t [x,y]) xs ys)]):=by
 unfold lzipD need
 dsimp only
 rw[if_pos ⟨h,h2⟩]
@[simp] theorem aBx{α:Type}{z:M α}:chkM (fun _=>True) z st=z st:=iM trivial
end
end L2
end
section
namespace K61
open PySem L2 PyProof.Rows
def argsV:List V:=[.str "form", .str "call", .str "atom"]
def pairV:List V:=[.str "same", .str "and", .str "or", .str "if"]
def bindV:List V:=[.str "all", .str "some"]
def wq(w:Str):Nat:=if inV (.str w) argsV=true then 1 else if inV (.str w) pairV=true then 2 else if inV (.str w) bindV=true then 3 else 0
theorem wq0{w:Str}(h:wq w=0):inV (.str w) argsV=false∧inV (.str w) pairV=false∧inV (.str w) bindV=false:=by
 unfold wq at h
 cases h1:inV (.str w) argsV with
 |true=>rw[h1] at h;cases h
 |false=>
  rw[h1] at h
  cases h2:inV (.str w) pairV with
  |true=>rw[h2] at h;cases h
  |false=>
   rw[h2] at h
   cases h3:inV (.str w) bindV with
   |true=>rw[h3] at h;cases h
   |false=>exact⟨rfl,rfl,rfl⟩
theorem wq1{w:Str}(h:wq w=1):inV (.str w) argsV=true:=by
 unfold wq at h
 cases h1:inV (.str w) argsV with
 |true=>rfl
 |false=>
  rw[h1] at h
  cases h2:inV (.str w) pairV with
  |true=>rw[h2] at h;cases h
  |false=>
   rw[h2] at h
   cases h3:inV (.str w) bindV with
   |true=>rw[h3] at h;cases h
   |false=>rw[h3] at h;cases h
theorem wq2{w:Str}(h:wq w=2):inV (.str w) argsV=false∧inV (.str w) pairV=true:=by
 unfold wq at h
 cases h1:inV (.str w) argsV with
 |true=>rw[h1] at h;cases h
 |false=>
  rw[h1] at h
  cases h2:inV (.str w) pairV with
  |true=>exact⟨rfl,rfl⟩
  |false=>
   rw[h2] at h
   cases h3:inV (.str w) bindV with
   |true=>rw[h3] at h;cases h
   |false=>rw[h3] at h;cases h
theorem wq3{w:Str}(h:wq w=3):inV (.str w) argsV=false∧inV (.str w) pairV=false∧inV (.str w) bindV=true:=by
 unfold wq at h
 cases h1:inV (.str w) argsV with
 |true=>rw[h1] at h;cases h
 |false=>
  rw[h1] at h
  cases h2:inV (.str w) pairV with
  |true=>rw[h2] at h;cases h
  |false=>
   rw[h2] at h
   cases h3:inV (.str w) bindV with
   |true=>exact⟨rfl,rfl,rfl⟩
   |false=>rw[h3] at h;cases h
theorem aAi{w:Str}(h:inV (.str w) argsV=true):w="form"∨w="call"∨w="atom":=by
 unfold inV argsV at h
 simp[eqV] at h
 rcases h with h|h|h
 ·exact .inl h.symm
 ·exact .inr (.inl h.symm)
 ·exact .inr (.inr h.symm)
inductive Nm where
 |no
 |s (x:Str)
 |i (n:Int)
deriving DecidableEq
inductive RT where
 |mk (w:Str) (n:Nm) (ps:List RT)
def RT.w:RT→Str
 | .mk w _ _=>w
def RT.n:RT→Nm
 | .mk _ n _=>n
def RT.ps:RT→List RT
 | .mk _ _ ps=>ps
theorem RT.eta(r:RT):RT.mk r.w r.n r.ps=r:=by cases r;rfl
theorem tZ:wq "form"=1:=by decide +kernel
theorem uA:wq "call"=1:=by decide +kernel
theorem kC:wq "atom"=1:=by decide +kernel
theorem kD:wq "free"=0:=by decide +kernel
theorem jB:wq "bound"=0:=by decide +kernel
theorem iF:wq "false"=0:=by decide +kernel
theorem jO:wq "same"=2:=by decide +kernel
theorem wq_all:wq "all"=3:=by decide +kernel
theorem wq_some:wq "some"=3:=by decide +kernel
inductive WF:RT→Prop where
 |free (x:Str):WF (.mk "free" (.s x) [])
 |bound (n:Int):WF (.mk "bound" (.i n) [])
 |fls:WF (.mk "false" .no [])
 |app {w x:Str} {ps:List RT}:wq w=1→(∀ p∈ps,WF p)→WF (.mk w (.s x) ps)
 |pair {w:Str} {p q:RT}:wq w=2→WF p→WF q→WF (.mk w .no [p,q])
 |bind {w x:Str} {p:RT}:wq w=3→WF p→WF (.mk w (.s x) [p])
noncomputable instance:DecidableEq RT:=fun a b=>Classical.propDecidable _
noncomputable instance:DecidableEq D:=fun a b=>Classical.propDecidable _
mutual
def sz:RT→Nat
 | .mk _ _ ps=>1+szs ps
def szs:List RT→Nat
 |[]=>0
 |p::ps=>sz p+szs ps
end
theorem mX(r:RT):sz r=1+szs r.ps:=by
 cases r
 rw[sz]
 rfl
theorem iP:∀ (a b:List RT),szs (a++b)=szs a+szs b
 |[],b=>by simp[szs]
 |p::a,b=>by simp only[List.cons_append,szs,iP a b];omega
theorem uB:∀ a:List RT,szs a.reverse=szs a
 |[]=>rfl
 |p::a=>by rw[List.reverse_cons,iP,uB a];simp[szs];omega
theorem iA:∀ a:List RT,a.length≤szs a
 |[]=>Nat.le_refl _
 |p::a=>by
  have:=iA a
  have h:1≤sz p:=by rw[mX];omega
  rw[List.length_cons,szs]
  omega
theorem aBy:∀ {ps qs:List RT},ps.length=qs.length→((∀ pq∈ps.zip qs,pq.1=pq.2) ↔ ps=qs)
 |[],[],_=>by simp
 |p::ps,q::qs,h=>by
  have:=aBy (ps:=ps) (qs:=qs) (by simpa using h)
  simp only[List.zip_cons_cons,List.mem_cons,forall_eq_or_imp,List.cons.injEq,this]
theorem uC:∀ {ps qs:List RT},ps.length=qs.length→(ps.zip qs).map (·.1)=ps
 |[],[],_=>rfl
 |p::ps,q::qs,h=>by
  rw[List.zip_cons_cons,List.map_cons,uC (by simpa using h)]
inductive Pth:RT→List Nat→List RT→RT→Prop where
 |nil (r:RT):Pth r [] [] r
 |cons {r c e:RT} {k:Nat} {p:List Nat} {ts:List RT}:r.ps[k]?=some c→Pth c p ts e→Pth r (k::p) (r::ts) e
def put:List Nat→RT→RT→RT
 |[],_,u=>u
 |k::p,r,u=>.mk r.w r.n (r.ps.set k (put p (r.ps.getD k r) u))
theorem lE{r c u:RT}{k:Nat}{p:List Nat}(h:r.ps[k]?=some c):put (k::p) r u=.mk r.w r.n (r.ps.set k (put p c u)):=by
 rw[put,List.getD_eq_getElem?_getD,h]
 rfl
def dp(w:Str)(d:Nat):Nat:=if inV (.str w) bindV=true then d+1 else d
mutual
noncomputable def wz(t:RT):RT→List Nat→Nat→List (List Nat×Nat)
 | .mk w n ps,p,d=>if RT.mk w n ps=t then[(p,d)] else wzs t ps p (dp w d) 0
noncomputable def wzs(t:RT):List RT→List Nat→Nat→Nat→List (List Nat×Nat)
 |[],_,_,_=>[]
 |c::cs,p,d,k=>wz t c (p++[k]) d++wzs t cs p d (k+1)
end
theorem aDP(t r:RT)(p:List Nat)(d:Nat):wz t r p d=if r=t then[(p,d)] else wzs t r.ps p (dp r.w d) 0:=by
 cases r
 rw[wz]
 rfl
abbrev It3:=List Nat×RT×Nat
def kids(p:List Nat)(d:Nat):Nat→List RT→List It3
 |_,[]=>[]
 |k,c::cs=>(p++[k],c,d)::kids p d (k+1) cs
theorem mE(p:List Nat)(d:Nat):∀ (k:Nat) (ps:List RT),(kids p d k ps).length=ps.length
 |_,[]=>rfl
 |k,c::cs=>by rw[kids,List.length_cons,List.length_cons,mE]
theorem qZ(p:List Nat)(d:Nat):∀ (k:Nat) (ps:List RT) (j:Nat),(kids p d k ps)[j]?=(ps[j]?).map fun c=>(p++[k+j],c,d)
 |_,[],j=>by simp[kids]
 |k,c::cs,0=>by simp[kids]
 |k,c::cs,j+1=>by simp[kids,qZ p d (k+1) cs j];congr 1;funext c;rw[show k+1+j=k+(j+1) by omega]
theorem pC(p:List Nat)(d:Nat):∀ (k:Nat) (ps:List RT),(kids p d k ps).map (·.2.1)=ps
 |_,[]=>rfl
 |k,c::cs=>by rw[kids,List.map_cons,pC]
noncomputable def todo(t:RT)(its:List It3):List (List Nat×Nat):=its.flatMap fun i=>wz t i.2.1 i.1 i.2.2
theorem sS(t:RT)(p:List Nat)(d:Nat):∀ (k:Nat) (ps:List RT),todo t (kids p d k ps)=wzs t ps p d k
 |_,[]=>by rw[wzs];rfl
 |k,c::cs=>by
  rw[kids,wzs,← sS t p d (k+1) cs]
  rfl
theorem vO(t:RT)(a b:List It3):todo t (a++b)=todo t a++todo t b:=by
 unfold todo
 rw[List.flatMap_append]
theorem mF{c:RT}:∀ {ps:List RT},c∈ps→sz c≤szs ps
 |p::ps,h=>by
  rw[szs]
  rcases List.mem_cons.mp h with rfl|h
  ·omega
  ·have:=mF h;omega
theorem aBz{p:List Nat}{d:Nat}{k:Nat}{ps:List RT}{i:It3}(h:i∈kids p d k ps):i.1.length=p.length+1∧i.2.1∈ps:=by
 obtain⟨j,hj⟩:=List.getElem?_of_mem h
 rw[qZ] at hj
 obtain⟨c,hc,rfl⟩:=Option.map_eq_some_iff.mp hj
 exact⟨by simp,List.mem_of_getElem? hc⟩
mutual
noncomputable def pw(t:RT):RT→List (List Nat)
 | .mk w n ps=>if RT.mk w n ps=t then[[]] else pws t ps 0
noncomputable def pws(t:RT):List RT→Nat→List (List Nat)
 |[],_=>[]
 |c::cs,k=>(pw t c).map (k::·)++pws t cs (k+1)
end
mutual
theorem aDQ(t:RT):∀ (r:RT) (p:List Nat) (d:Nat),(wz t r p d).map (·.1)=(pw t r).map (p++·)
 | .mk w n ps,p,d=>by
  rw[wz,pw]
  split
  ·simp
  ·exact yJ t ps p (dp w d) 0
theorem yJ(t:RT):∀ (cs:List RT) (p:List Nat) (d k:Nat),(wzs t cs p d k).map (·.1)=(pws t cs k).map (p++·)
 |[],p,d,k=>by rw[wzs,pws];rfl
 |c::cs,p,d,k=>by
  rw[wzs,pws,List.map_append,List.map_append,aDQ t c,yJ t cs,List.map_map]
  congr 1
  refine List.map_congr_left fun a _=>?_
  simp
end
theorem aFt(t r:RT):(wz t r [] 0).map (·.1)=pw t r:=by rw[aDQ];simp
mutual
noncomputable def fin(t u:RT):RT→RT
 | .mk w n ps=>if RT.mk w n ps=t then u else .mk w n (fins t u ps)
noncomputable def fins(t u:RT):List RT→List RT
 |[]=>[]
 |c::cs=>fin t u c::fins t u cs
end
mutual
noncomputable def tr(t u:RT):RT→List RT
 | .mk w n ps=>if RT.mk w n ps=t then[u] else(trs t u ps).map (RT.mk w n)
noncomputable def trs(t u:RT):List RT→List (List RT)
 |[]=>[]
 |c::cs=>(tr t u c).map (·::cs)++(trs t u cs).map (fin t u c::·)
end
inductive Go (u:RT):RT→List (List Nat)→List RT→RT→Prop where
 |nil (r:RT):Go u r [] [] r
 |cons {r e f:RT} {p:List Nat} {ts:List RT} {ps:List (List Nat)} {out:List RT}:Pth r p ts e→Go u (put p r u) ps out f→Go u r (p::ps) (put p r u::out) f
theorem Go.append{u r f f':RT}{ps ps':List (List Nat)}{out out':List RT}(h:Go u r ps out f)(h':Go u f ps' out' f'):Go u r (ps++ps') (out++out') f':=by
 induction h with
 |nil=>exact h'
 |cons hp _ ih=>exact .cons hp (ih h')
theorem Go.lift{u c f:RT}{ps:List (List Nat)}{out:List RT}(h:Go u c ps out f):∀ {w:Str} {n:Nm} {a b:List RT} {k:Nat},k=a.length→Go u (.mk w n (a++c::b)) (ps.map (k::·)) (out.map fun c'=>.mk w n (a++c'::b)) (.mk w n (a++f::b)):=by
 induction h with
 |nil=>intros;exact .nil _
 |@cons r e f p ts ps out hp _ ih=>
  intro w n a b k hk
  have hg:(RT.mk w n (a++r::b)).ps[k]?=some r:=by
   show(a++r::b)[k]?=some r
   rw[hk];simp
  have e1:put (k::p) (.mk w n (a++r::b)) u=.mk w n (a++put p r u::b):=by
   rw[lE hg]
   show RT.mk w n ((a++r::b).set k (put p r u))=_
   rw[hk];simp
  rw[List.map_cons,List.map_cons,← e1]
  refine .cons (.cons hg hp) ?_
  rw[e1]
  exact ih hk
mutual
theorem vP(t u:RT):∀ r:RT,Go u r (pw t r) (tr t u r) (fin t u r)
 | .mk w n ps=>by
  rw[pw,tr,fin]
  split
  ·exact .cons (.nil _) (.nil _)
  ·have:=aBA t u ps w n [] 0 rfl
   simpa using this
theorem aBA(t u:RT):∀ (cs:List RT) (w:Str) (n:Nm) (a:List RT) (k:Nat),k=a.length→Go u (.mk w n (a++cs)) (pws t cs k) ((trs t u cs).map fun x=>.mk w n (a++x)) (.mk w n (a++fins t u cs))
 |[],w,n,a,k,hk=>by rw[pws,trs,fins];exact .nil _
 |c::cs,w,n,a,k,hk=>by
  rw[pws,trs,fins,List.map_append,List.map_map,List.map_map]
  have h1:=(vP t u c).lift (w:=w) (n:=n) (a:=a) (b:=cs) hk
  have h2:=aBA t u cs w n (a++[fin t u c]) (k+1) (by simp[hk])
  refine Go.append h1 ?_
  have e:∀ x:List RT,a++[fin t u c]++x=a++fin t u c::x:=fun x=>by simp
  simp only[e] at h2
  exact h2
end
mutual
theorem aBB(t:RT):∀ (r:RT),∀ p∈pw t r,p.length<sz r
 | .mk w n ps=>by
  intro p hp
  rw[pw] at hp
  rw[sz]
  split at hp
  ·rw[List.mem_singleton.mp hp];simp;omega
  ·have:=yK t ps 0 p hp
   omega
theorem yK(t:RT):∀ (cs:List RT) (k:Nat),∀ p∈pws t cs k,p.length≤szs cs
 |[],k=>by intro p hp;rw[pws] at hp;cases hp
 |c::cs,k=>by
  intro p hp
  rw[pws] at hp
  rw[szs]
  rcases List.mem_append.mp hp with hp|hp
  ·obtain⟨p',hp',rfl⟩:=List.mem_map.mp hp
   have:=aBB t c p' hp'
   rw[List.length_cons];omega
  ·have:=yK t cs (k+1) p hp
   omega
end
mutual
theorem pE(t:RT):∀ (r:RT),(pw t r).length≤sz r
 | .mk w n ps=>by
  rw[pw,sz]
  split
  ·simp
  ·have:=yL t ps 0
   omega
theorem yL(t:RT):∀ (cs:List RT) (k:Nat),(pws t cs k).length≤szs cs
 |[],k=>by rw[pws];exact Nat.zero_le _
 |c::cs,k=>by
  rw[pws,szs,List.length_append,List.length_map]
  have h1:=pE t c
  have h2:=yL t cs (k+1)
  omega
end
theorem Go.len{u r f:RT}{ps:List (List Nat)}{out:List RT}(h:Go u r ps out f):out.length=ps.length:=by
 induction h with
 |nil=>rfl
 |cons _ _ ih=>rw[List.length_cons,List.length_cons,ih]
inductive Tm:Nat→RT→Prop where
 |free (n:Nat) (x:Str):Tm n (.mk "free" (.s x) [])
 |bound (n:Nat) (i:Int):Tm n (.mk "bound" (.i i) [])
 |app {n:Nat} {w x:Str} {ps:List RT}:(w="form"∨w="call")→(∀ p∈ps,Tm n p)→Tm (n+1) (.mk w (.s x) ps)
theorem Tm.mono{n:Nat}{r:RT}(h:Tm n r):∀ {m:Nat},n≤m→Tm m r:=by
 induction h with
 |free=>intro m _;exact .free _ _
 |bound=>intro m _;exact .bound _ _
 |app hw _ ih=>
  intro m hm
  obtain⟨k,rfl⟩:∃ k,m=k+1:=⟨m - 1,by omega⟩
  exact .app hw fun p hp=>ih p hp (by omega)
inductive Sm (n:Nat):Nat→RT→Prop where
 |fls (d:Nat):Sm n d (.mk "false" .no [])
 |same (d:Nat) {p q:RT}:Tm n p→Tm n q→Sm n d (.mk "same" .no [p,q])
 |atom (d:Nat) (x:Str) {ps:List RT}:(∀ p∈ps,Tm n p)→Sm n d (.mk "atom" (.s x) ps)
 |bnd {d:Nat} {w x:Str} {p:RT}:(w="all"∨w="some")→Sm n d p→Sm n (d+1) (.mk w (.s x) [p])
 |con {d:Nat} {w:Str} {p q:RT}:(w="and"∨w="or"∨w="if")→Sm n d p→Sm n d q→Sm n (d+1) (.mk w .no [p,q])
theorem nf1:¬ (("form":Str)="all"∨("form":Str)="some"):=by decide +kernel
theorem nf2:¬ (("call":Str)="all"∨("call":Str)="some"):=by decide +kernel
theorem sz1(w:Str)(n:Nm)(p:RT):sz (.mk w n [p])=1+sz p:=by rw[sz,szs,szs];rfl
theorem sz2(w:Str)(n:Nm)(p q:RT):sz (.mk w n [p,q])=1+(sz p+sz q):=by rw[sz,szs,szs,szs];rfl
theorem Sm.ne{n m d:Nat}{r t:RT}(h:Sm n d r)(ht:Tm m t):r≠t:=by
 rintro rfl
 cases ht with
 |free=>cases h<;>simp_all
 |bound=>cases h
 |app hw _=>rcases hw with rfl|rfl<;>(cases h<;>first|exact nf1 (by assumption)|exact nf2 (by assumption)|(simp_all;done))
mutual
def terms:RT→List RT
 | .mk w _ ps=>if w="same"∨w="atom" then ps else termsL ps
def termsL:List RT→List RT
 |[]=>[]
 |p::ps=>terms p++termsL ps
end
theorem iQ(p q:RT):terms (.mk "same" .no [p,q])=[p,q]:=by rw[terms,if_pos (.inl rfl)]
theorem jJ(x:Str)(ps:List RT):terms (.mk "atom" (.s x) ps)=ps:=by rw[terms,if_pos (.inr rfl)]
theorem kF:terms (.mk "false" .no [])=[]:=by rw[terms,if_neg (by decide +kernel)];rfl
theorem lF{w x:Str}{p:RT}(h:w="all"∨w="some"):terms (.mk w (.s x) [p])=terms p:=by
 rw[terms,if_neg (by rcases h with rfl|rfl<;>decide +kernel)]
 simp[termsL]
theorem lG{w:Str}{p q:RT}(h:w="and"∨w="or"∨w="if"):terms (.mk w .no [p,q])=terms p++terms q:=by
 rw[terms,if_neg (by rcases h with rfl|rfl|rfl<;>decide +kernel)]
 simp[termsL]
theorem Sm.tm{n d:Nat}{r:RT}(h:Sm n d r):∀ p∈terms r,Tm n p:=by
 induction h with
 |fls=>rw[kF];intro p hp;cases hp
 |same d h1 h2=>
  rw[iQ]
  intro p hp
  rcases List.mem_cons.mp hp with rfl|hp
  ·exact h1
  ·rw[List.mem_singleton.mp hp];exact h2
 |atom d x h=>rw[jJ];exact h
 |bnd hw _ ih=>rw[lF hw];exact ih
 |con hw _ _ ih1 ih2=>
  rw[lG hw]
  intro p hp
  rcases List.mem_append.mp hp with hp|hp
  ·exact ih1 p hp
  ·exact ih2 p hp
mutual
theorem lH:∀ r:RT,szs (terms r)≤sz r
 | .mk w n ps=>by
  rw[terms,sz]
  split
  ·omega
  ·have:=sT ps;omega
theorem sT:∀ ps:List RT,szs (termsL ps)≤szs ps
 |[]=>Nat.le_refl _
 |p::ps=>by
  rw[termsL,iP,szs]
  have h1:=lH p
  have h2:=sT ps
  omega
end
inductive Fl:Nat→RT→List RT→RT→Prop where
 |fls (d:Nat):Fl d (.mk "false" .no []) [] (.mk "false" .no [])
 |same (d:Nat) (p q p' q':RT):Fl d (.mk "same" .no [p,q]) [p',q'] (.mk "same" .no [p',q'])
 |atom (d:Nat) (x:Str) {ps qs:List RT}:qs.length=ps.length→Fl d (.mk "atom" (.s x) ps) qs (.mk "atom" (.s x) qs)
 |bnd {d:Nat} {w x:Str} {p p':RT} {ts:List RT}:(w="all"∨w="some")→Fl d p ts p'→Fl (d+1) (.mk w (.s x) [p]) ts (.mk w (.s x) [p'])
 |con {d:Nat} {w:Str} {p q p' q':RT} {ts us:List RT}:(w="and"∨w="or"∨w="if")→Fl d p ts p'→Fl d q us q'→Fl (d+1) (.mk w .no [p,q]) (ts++us) (.mk w .no [p',q'])
inductive F2 {α β:Type} (R:α→β→Prop):List α→List β→Prop where
 |nil:F2 R [] []
 |cons {a:α} {b:β} {as:List α} {bs:List β}:R a b→F2 R as bs→F2 R (a::as) (b::bs)
theorem F2.append{α β:Type}{R:α→β→Prop}{a a':List α}{b b':List β}(h:F2 R a b)(h':F2 R a' b'):F2 R (a++a') (b++b'):=by
 induction h with
 |nil=>exact h'
 |cons h _ ih=>exact .cons h ih
theorem F2.map{α β γ δ:Type}{R:α→β→Prop}{S:γ→δ→Prop}{f:α→γ}{g:β→δ}{a:List α}{b:List β}(h:F2 R a b)(hf:∀ x y,R x y→S (f x) (g y)):F2 S (a.map f) (b.map g):=by
 induction h with
 |nil=>exact .nil
 |cons h _ ih=>exact .cons (hf _ _ h) ih
theorem F2.len{α β:Type}{R:α→β→Prop}{a:List α}{b:List β}(h:F2 R a b):a.length=b.length:=by
 induction h with
 |nil=>rfl
 |cons _ _ ih=>rw[List.length_cons,List.length_cons,ih]
theorem F2.same{α β:Type}{R:α→β→Prop}{f:α→β}{a:List α}(h:∀ x∈a,R x (f x)):F2 R a (a.map f):=by
 induction a with
 |nil=>exact .nil
 |cons x a ih=>exact .cons (h x (by simp)) (ih fun y hy=>h y (List.mem_cons_of_mem _ hy))
theorem vQ(t u:RT):∀ ps:List RT,(fins t u ps).length=ps.length
 |[]=>by rw[fins]
 |p::ps=>by rw[fins,List.length_cons,List.length_cons,vQ]
theorem pO(t u:RT):∀ a b:List RT,fins t u (a++b)=fins t u a++fins t u b
 |[],b=>by rw[fins];rfl
 |p::a,b=>by rw[List.cons_append,fins,fins,pO,List.cons_append]
theorem uD(t u:RT):∀ (ps:List RT),∀ x∈trs t u ps,x.length=ps.length
 |[]=>by intro x hx;rw[trs] at hx;cases hx
 |p::ps=>by
  intro x hx
  rw[trs] at hx
  rcases List.mem_append.mp hx with hx|hx
  ·obtain⟨y,_,rfl⟩:=List.mem_map.mp hx;simp
  ·obtain⟨y,hy,rfl⟩:=List.mem_map.mp hx
   have:=uD t u ps y hy
   simp[this]
theorem rA(t u:RT):∀ a b:List RT,trs t u (a++b)=(trs t u a).map (·++b)++(trs t u b).map (fins t u a++·)
 |[],b=>by rw[trs,fins];simp
 |p::a,b=>by
  rw[List.cons_append,trs,trs,fins,rA t u a b]
  simp[List.map_append,List.map_map,Function.comp_def]
theorem yM(t u p:RT):trs t u [p]=(tr t u p).map fun x=>[x]:=by rw[trs,trs];simp
theorem aDd(t u p q:RT):trs t u [p,q]=((tr t u p).map fun x=>[x,q])++(tr t u q).map fun x=>[fin t u p,x]:=by
 rw[trs,yM];simp[List.map_map,Function.comp_def]
theorem vR{t u r:RT}(h:r≠t):tr t u r=(trs t u r.ps).map (RT.mk r.w r.n):=by
 cases r
 rw[tr,if_neg h]
 rfl
theorem mG{t u r:RT}(h:r≠t):fin t u r=.mk r.w r.n (fins t u r.ps):=by
 cases r
 rw[fin,if_neg h]
 rfl
theorem wZ{n m d:Nat}{t u r:RT}(ht:Tm m t)(h:Sm n d r):Fl d r (terms r) r∧Fl d r (fins t u (terms r)) (fin t u r)∧F2 (Fl d r) (trs t u (terms r)) (tr t u r):=by
 induction h with
 |fls d=>
  have hne:=(Sm.fls (n:=n) d).ne ht
  rw[vR hne,mG hne,kF]
  simp only[RT.ps,RT.w,RT.n,trs,fins,List.map_nil]
  exact⟨.fls _, .fls _, .nil⟩
 |@same d p q h1 h2=>
  have hne:=(Sm.same d h1 h2).ne ht
  rw[vR hne,mG hne,iQ]
  simp only[RT.ps,RT.w,RT.n]
  refine⟨.same ..,by rw[fins,fins,fins];exact .same ..,F2.same fun x hx=>?_⟩
  have hl:=uD t u _ x hx
  match x,hl with
  |[a,b],_=>exact .same ..
 |@atom d x ps hp=>
  have hne:=(Sm.atom d x hp).ne ht
  rw[vR hne,mG hne,jJ]
  simp only[RT.ps,RT.w,RT.n]
  exact⟨.atom _ _ rfl, .atom _ _ (vQ t u ps),F2.same fun y hy=>.atom _ _ (uD t u _ y hy)⟩
 |@bnd d w x p hw h ih=>
  have hne:=(Sm.bnd (x:=x) hw h).ne ht
  rw[vR hne,mG hne,lF hw]
  simp only[RT.ps,RT.w,RT.n,yM,fins,List.map_map]
  refine⟨.bnd hw ih.1, .bnd hw ih.2.1,?_⟩
  have:=ih.2.2.map (S:=Fl (d+1) (.mk w (.s x) [p])) (f:=id) (g:=fun y=>.mk w (.s x) [y]) fun a b hab=>.bnd hw hab
  rw[List.map_id] at this
  exact this
 |@con d w p q hw h1 h2 ih1 ih2=>
  have hne:=(Sm.con hw h1 h2).ne ht
  rw[vR hne,mG hne,lG hw]
  simp only[RT.ps,RT.w,RT.n,aDd,fins,pO,rA,List.map_map,List.map_append]
  exact⟨.con hw ih1.1 ih2.1, .con hw ih1.2.1 ih2.2.1,(ih1.2.2.map fun a b hab=>.con hw hab ih2.1).append (ih2.2.2.map fun a b hab=>.con hw ih1.2.1 hab)⟩
theorem uE:∀ ps:List RT,((ps.map fun p=>((sz p:Nat):Int)).sum)=((szs ps:Nat):Int)
 |[]=>rfl
 |p::ps=>by rw[List.map_cons,List.sum_cons,uE ps,szs];omega
def nmD:Nm→D
 | .no=>.no
 | .s x=>.s x
 | .i n=>.i n
def nmL:Nm→List D
 | .no=>[]
 | .s x=>[.s x]
 | .i n=>[.i n]
mutual
def enD:RT→D
 | .mk w n ps=>if wq w=1 then .t (.s w::(nmL n++[.t (enDs ps)])) else if wq w=2 then .t (.s w::enDs ps) else if wq w=3 then .t (.s w::(nmL n++enDs ps)) else .t (.s w::nmL n)
def enDs:List RT→List D
 |[]=>[]
 |p::ps=>enD p::enDs ps
end
theorem eJ:∀ ps:List RT,enDs ps=ps.map enD
 |[]=>rfl
 |p::ps=>by rw[enDs,eJ ps];rfl
theorem cK(ps:List RT):(enDs ps).length=ps.length:=by rw[eJ];simp
theorem gR(x:Str):enD (.mk "free" (.s x) [])=.t [.s "free", .s x]:=by rw[enD];simp only[kD];rfl
theorem iT(n:Int):enD (.mk "bound" (.i n) [])=.t [.s "bound", .i n]:=by rw[enD];simp only[jB];rfl
theorem jC:enD (.mk "false" .no [])=.t [.s "false"]:=by rw[enD];simp only[iF];rfl
theorem fL{w x:Str}{ps:List RT}(h:wq w=1):enD (.mk w (.s x) ps)=.t [.s w, .s x, .t (enDs ps)]:=by rw[enD,if_pos h];rfl
theorem eM{w:Str}{p q:RT}(h:wq w=2):enD (.mk w .no [p,q])=.t [.s w,enD p,enD q]:=by rw[enD,if_neg (by rw[h];decide),if_pos h];rfl
theorem hJ{w x:Str}{p:RT}(h:wq w=3):enD (.mk w (.s x) [p])=.t [.s w, .s x,enD p]:=by rw[enD,if_neg (by rw[h];decide),if_neg (by rw[h];decide),if_pos h];rfl
theorem aBC{ps qs:List RT}(h:∀ p∈ps,∀ q,WF q→enD p=enD q→p=q)(hq:∀ q∈qs,WF q)(e:enDs ps=enDs qs):ps=qs:=by
 induction ps generalizing qs with
 |nil=>
  cases qs with
  |nil=>rfl
  |cons q qs=>simp[enDs] at e
 |cons p ps ih=>
  cases qs with
  |nil=>simp[enDs] at e
  |cons q qs=>
   simp only[enDs,List.cons.injEq] at e
   rw[h p (by simp) q (hq q (by simp)) e.1,ih (fun p' hp'=>h p' (List.mem_cons_of_mem _ hp')) (fun q' hq'=>hq q' (List.mem_cons_of_mem _ hq')) e.2]
theorem qC{p:RT}(hp:WF p):∀ {q:RT},WF q→enD p=enD q→p=q:=by
 induction hp with
 |free x=>intro q hq e;cases hq<;>simp_all [enD,nmL,enDs,kD,jB,iF]
 |bound n=>intro q hq e;cases hq<;>simp_all [enD,nmL,enDs,kD,jB,iF]
 |fls=>intro q hq e;cases hq<;>simp_all [enD,nmL,enDs,kD,jB,iF]
 |@app w x ps hw hps ih=>
  intro q hq e
  cases hq with
  |@app w' x' qs hw' hqs=>
   simp only[enD,if_pos hw,if_pos hw',nmL,List.cons_append,List.nil_append,D.t.injEq,List.cons.injEq,D.s.injEq,and_true] at e
   obtain⟨rfl,rfl,e⟩:=e
   rw[aBC (fun p hp q hq e=>ih p hp hq e) hqs e]
  |_=>simp_all [enD,nmL,enDs,kD,jB,iF]
 |@pair w p1 p2 hw _ _ ih1 ih2=>
  intro q hq e
  cases hq with
  |@pair w' q1 q2 hw' h1 h2=>
   simp only[enD,hw,hw',enDs,D.t.injEq,List.cons.injEq,D.s.injEq,and_true] at e
   simp at e
   obtain⟨rfl,e1,e2⟩:=e
   rw[ih1 h1 e1,ih2 h2 e2]
  |_=>simp_all [enD,nmL,enDs,kD,jB,iF]
 |@bind w x p1 hw _ ih=>
  intro q hq e
  cases hq with
  |@bind w' x' q1 hw' h1=>
   simp[enD,hw,hw',enDs,nmL] at e
   obtain⟨rfl,rfl,e1⟩:=e
   rw[ih h1 e1]
  |_=>simp_all [enD,nmL,enDs,kD,jB,iF]
inductive Pd:Nat→D→Prop where
 |i {n:Nat} (a:Int):Pd n (.i a)
 |s {n:Nat} (x:Str):Pd n (.s x)
 |t {n:Nat} {xs:List D}:(∀ d∈xs,Pd n d)→Pd (n+1) (.t xs)
theorem Pd.mono{n:Nat}{d:D}(h:Pd n d):∀ {m:Nat},n≤m→Pd m d:=by
 induction h with
 |i=>intro m _;exact .i _
 |s=>intro m _;exact .s _
 |@t n xs _ ih=>
  intro m hm
  obtain⟨k,rfl⟩:∃ k,m=k+1:=⟨m - 1,by omega⟩
  exact .t fun d hd=>ih d hd (by omega)
theorem rB{f:D→D→Option Bool}:∀ {xs ys:List D},(∀ x∈xs,∀ y∈ys,f x y=some (decide (x=y)))→deqL f xs ys=some (decide (xs=ys))
 |[],[],_=>by simp[deqL]
 |x::xs,[],_=>by simp[deqL]
 |[],y::ys,_=>by simp[deqL]
 |x::xs,y::ys,h=>by
  rw[deqL,h x (by simp) y (by simp),rB fun a ha b hb=>h a (List.mem_cons_of_mem _ ha) b (List.mem_cons_of_mem _ hb)]
  simp
theorem aBD(a b:Int):flq (.i a) (.i b)=some (decide (D.i a=D.i b)):=by
 show some (a==b)=_
 by_cases h:a=b
 ·subst h;simp
 ·simp[h]
theorem aBE(a b:Str):flq (.s a) (.s b)=some (decide (D.s a=D.s b)):=by
 show some (a==b)=_
 by_cases h:a=b
 ·subst h;simp
 ·simp[h]
theorem qD{st:Sto}:∀ {n:Nat} {d e:D},Pd n d→Pd n e→deq n st d e=some (decide (d=e)):=by
 intro n
 induction n with
 |zero=>
  intro d e hd he
  cases hd with
  |i a=>cases he with
   |i b=>exact aBD a b
   |s b=>rw[decide_eq_false (by intro h;cases h)];rfl
  |s a=>cases he with
   |i b=>rw[decide_eq_false (by intro h;cases h)];rfl
   |s b=>exact aBE a b
 |succ n ih=>
  intro d e hd he
  cases hd with
  |i a=>cases he with
   |i b=>exact aBD a b
   |s b=>rw[decide_eq_false (by intro h;cases h)];rfl
   |t h=>rw[decide_eq_false (by intro h;cases h)];rfl
  |s a=>cases he with
   |i b=>rw[decide_eq_false (by intro h;cases h)];rfl
   |s b=>exact aBE a b
   |t h=>rw[decide_eq_false (by intro h;cases h)];rfl
  |@t _ xs h=>cases he with
   |i b=>rw[decide_eq_false (by intro h;cases h)];rfl
   |s b=>rw[decide_eq_false (by intro h;cases h)];rfl
   |@t _ ys h2=>
    rw[deq,rB fun x hx y hy=>ih (h x hx) (h2 y hy)]
    simp
theorem mQ{st:Sto}{d e:D}(hd:Pd 60 d)(he:Pd 60 e):eqD d e st=some (.b (decide (d=e)),st):=by
 unfold eqD
 rw[qD hd he]
theorem sU{st:Sto}{n:Nat}{xs ys:List D}(h1:∀ x∈xs,Pd n x)(h2:∀ y∈ys,Pd n y):deqL (deq n st) xs ys=some (decide (xs=ys)):=rB fun x hx y hy=>qD (h1 x hx) (h2 y hy)
theorem xA{st:Sto}{l k:Nat}{xs ys:List D}(e1:st[l]?=some (.l xs))(e2:st[k]?=some (.l ys))(h1:∀ x∈xs,Pd 59 x)(h2:∀ y∈ys,Pd 59 y):neD (.r l) (.r k) st=some (.b (!decide (xs=ys)),st):=by
 unfold neD
 rw[deq,kS e1,kS e2]
 dsimp only
 rw[sU h1 h2]
theorem aFu{st:Sto}{l k:Nat}{xs ys:List D}(e1:st[l]?=some (.l xs))(e2:st[k]?=some (.l ys))(h1:∀ x∈xs,Pd 59 x)(h2:∀ y∈ys,Pd 59 y):eqD (.r l) (.r k) st=some (.b (decide (xs=ys)),st):=by
 unfold eqD
 rw[deq,kS e1,kS e2]
 dsimp only
 rw[sU h1 h2]
theorem Tm.pd{n:Nat}{r:RT}(h:Tm n r):Pd (2 * n+1) (enD r):=by
 induction h with
 |free n x=>rw[gR];exact .t fun d hd=>by simp at hd;rcases hd with rfl|rfl<;>exact .s _
 |bound n x=>rw[iT];refine .t fun d hd=>?_;simp at hd;rcases hd with rfl|rfl;exact .s _;exact .i _
 |@app n w x ps hw _ ih=>
  have h1:wq w=1:=by rcases hw with rfl|rfl;exact tZ;exact uA
  rw[fL h1]
  refine .t fun d hd=>?_
  simp at hd
  rcases hd with rfl|rfl|rfl
  ·exact .s _
  ·exact .s _
  ·refine .t (n:=2 * n+1) fun d hd=>?_
   rw[eJ] at hd
   obtain⟨p,hp,rfl⟩:=List.mem_map.mp hd
   exact ih p hp
theorem kQ{w:Str}(h:w="and"∨w="or"∨w="if"):wq w=2:=by rcases h with rfl|rfl|rfl<;>decide +kernel
theorem mH{w:Str}(h:w="all"∨w="some"):wq w=3:=by rcases h with rfl|rfl<;>decide +kernel
theorem pF{w:Str}(h:w="form"∨w="call"):wq w=1:=by rcases h with rfl|rfl;exact tZ;exact uA
theorem Sm.pd{n d:Nat}{r:RT}(h:Sm n d r):Pd (2 * n+3+d) (enD r):=by
 induction h with
 |fls d=>rw[jC];exact(Pd.t (n:=0) fun d hd=>by simp at hd;rw[hd];exact .s _).mono (by omega)
 |same d h1 h2=>
  rw[eM jO]
  refine(Pd.t (n:=2 * n+1) fun d hd=>?_).mono (by omega)
  simp at hd
  rcases hd with rfl|rfl|rfl
  ·exact .s _
  ·exact h1.pd
  ·exact h2.pd
 |atom d x hp=>
  rw[fL kC]
  refine(Pd.t (n:=2 * n+2) fun d hd=>?_).mono (by omega)
  simp at hd
  rcases hd with rfl|rfl|rfl
  ·exact .s _
  ·exact .s _
  ·refine .t fun d hd=>?_
   rw[eJ] at hd
   obtain⟨p,hp',rfl⟩:=List.mem_map.mp hd
   exact(hp p hp').pd
 |@bnd d w x p hw _ ih=>
  rw[hJ (mH hw)]
  refine .t (n:=2 * n+3+d) fun d hd=>?_
  simp at hd
  rcases hd with rfl|rfl|rfl
  ·exact .s _
  ·exact .s _
  ·exact ih
 |@con d w p q hw _ _ ih1 ih2=>
  rw[eM (kQ hw)]
  refine .t (n:=2 * n+3+d) fun d hd=>?_
  simp at hd
  rcases hd with rfl|rfl|rfl
  ·exact .s _
  ·exact ih1
  ·exact ih2
theorem Tm.wf{n:Nat}{r:RT}(h:Tm n r):WF r:=by
 induction h with
 |free=>exact .free _
 |bound=>exact .bound _
 |app hw _ ih=>exact .app (pF hw) ih
theorem Sm.wf{n d:Nat}{r:RT}(h:Sm n d r):WF r:=by
 induction h with
 |fls=>exact .fls
 |same d h1 h2=>exact .pair jO h1.wf h2.wf
 |atom d x hp=>exact .app kC fun p hp'=>(hp p hp').wf
 |bnd hw _ ih=>exact .bind (mH hw) ih
 |con hw _ _ ih1 ih2=>exact .pair (kQ hw) ih1 ih2
theorem WF.parts{r:RT}(h:WF r):∀ p∈r.ps,WF p:=by
 cases h with
 |free=>intro p hp;cases hp
 |bound=>intro p hp;cases hp
 |fls=>intro p hp;cases hp
 |app _ h=>exact h
 |pair _ h1 h2=>
  intro p hp
  rcases List.mem_cons.mp hp with rfl|hp
  ·exact h1
  ·rw[List.mem_singleton.mp hp];exact h2
 |bind _ h=>intro p hp;rw[List.mem_singleton.mp hp];exact h
end K61
end
section
namespace K61
open PySem L2 PyProof.Rows
def Ext(st st':Sto):Prop:=∀ (l:Nat) c,st[l]?=some c→st'[l]?=some c
theorem Ext.refl(st:Sto):Ext st st:=fun _ _ h=>h
theorem Ext.trans{a b c:Sto}(h:Ext a b)(h':Ext b c):Ext a c:=fun l x e=>h' l x (h l x e)
theorem Ext.app(st g:Sto):Ext st (st++g):=fun l c h=>by rw[List.getElem?_append_left (List.getElem?_eq_some_iff.mp h).1];exact h
theorem Ext.len{a b:Sto}(h:Ext a b):a.length≤b.length:=by
 cases q:a.length with
 |zero=>exact Nat.zero_le _
 |succ n=>
  have hn:n<a.length:=by omega
  have:=(List.getElem?_eq_some_iff.mp (h n a[n] (by simp[hn]))).1
  omega
def Kp(l:Nat)(st st':Sto):Prop:=∀ (j:Nat) c,j≠l→st[j]?=some c→st'[j]?=some c
theorem Kp.refl(l:Nat)(st:Sto):Kp l st st:=fun _ _ _ h=>h
theorem Kp.trans{l:Nat}{a b c:Sto}(h:Kp l a b)(h':Kp l b c):Kp l a c:=fun j x n e=>h' j x n (h j x n e)
theorem Kp.set{l:Nat}{a b:Sto}{c:C}(h:Kp l a b):Kp l a (b.set l c):=fun j x n e=>by rw[List.getElem?_set,if_neg (Ne.symm n)];exact h j x n e
theorem Kp.of{l:Nat}{a b:Sto}(h:Ext a b):Kp l a b:=fun j c _ e=>h j c e
theorem Kp.ext{l:Nat}{a b c:Sto}(h:Kp l b c)(hl:a.length≤l)(e:Ext a b):Ext a c:=fun j x q=>h j x (by have:=(List.getElem?_eq_some_iff.mp q).1;omega) (e j x q)
theorem aU(st:Sto)(c:C):(st++[c])[st.length]?=some c:=by simp
theorem fD{st:Sto}{l:Nat}{c c':C}(h:st[l]?=some c'):(st.set l c)[l]?=some c:=by rw[List.getElem?_set,if_pos rfl,if_pos (List.getElem?_eq_some_iff.mp h).1]
section
variable{st:Sto}
theorem inArgs(w:Str):inD (.s w) c_ARGS_WORDS st=some (.b (inV (.str w) argsV),st):=rfl
theorem inPair(w:Str):inD (.s w) c_PAIR_WORDS st=some (.b (inV (.str w) pairV),st):=rfl
theorem inBind(w:Str):inD (.s w) c_BIND_WORDS st=some (.b (inV (.str w) bindV),st):=rfl
theorem mR{r:RT}(h:WF r):dB [enD r] st=some (.t (enDs r.ps),st):=by
 cases h with
 |free x=>obtain⟨i1,i2,i3⟩:=wq0 kD;rw[gR];simp[dB,iB,inArgs,inPair,inBind,i1,i2,i3,enDs,sizeLine_eq,RT.ps]
 |bound n=>obtain⟨i1,i2,i3⟩:=wq0 jB;rw[iT];simp[dB,iB,inArgs,inPair,inBind,i1,i2,i3,enDs,sizeLine_eq,RT.ps]
 |fls=>obtain⟨i1,i2,i3⟩:=wq0 iF;rw[jC];simp[dB,iB,inArgs,inPair,inBind,i1,i2,i3,enDs,sizeLine_eq,RT.ps]
 |app hw _=>rw[fL hw];simp[dB,iB,inArgs,wq1 hw,RT.ps]
 |pair hw _ _=>obtain⟨i1,i2⟩:=wq2 hw;rw[eM hw];simp[dB,iB,inArgs,inPair,i1,i2,enDs,sizeLine_eq,RT.ps]
 |bind hw _=>obtain⟨i1,i2,i3⟩:=wq3 hw;rw[hJ hw];simp[dB,iB,inArgs,inPair,inBind,i1,i2,i3,enDs,sizeLine_eq,RT.ps]
theorem aGC{r:RT}{l:Nat}{ps:List RT}(h:WF r)(hl:ps.length=r.ps.length)(e:st[l]?=some (.l (enDs ps))):gX [enD r, .r l] st=some (enD (.mk r.w r.n ps),st):=by
 cases h with
 |free x=>have:ps=[]:=List.length_eq_zero_iff.mp hl;subst this;show _=some (enD (.mk "free" (.s x) []),st);rw[gR];rfl
 |bound n=>have:ps=[]:=List.length_eq_zero_iff.mp hl;subst this;show _=some (enD (.mk "bound" (.i n) []),st);rw[iT];rfl
 |fls=>have:ps=[]:=List.length_eq_zero_iff.mp hl;subst this;show _=some (enD (.mk "false" .no []),st);rw[jC];rfl
 |app hw _=>simp only[RT.w,RT.n];rw[fL hw,fL hw];simp[gX,iW,inArgs,wq1 hw,iO e,sizeLine_eq]
 |pair hw _ _=>
  obtain⟨i1,i2⟩:=wq2 hw
  match ps,hl,e with
  |[a,b],_,e=>
   simp only[RT.w,RT.n]
   simp only[enDs] at e
   rw[eM hw,eM hw];simp[gX,iW,inArgs,inPair,i1,i2,fF e,sizeLine_eq]
 |bind hw _=>
  obtain⟨i1,i2,i3⟩:=wq3 hw
  match ps,hl,e with
  |[a],_,e=>
   simp only[RT.w,RT.n]
   simp only[enDs] at e
   rw[hJ hw,hJ hw];simp[gX,iW,inArgs,inPair,inBind,i1,i2,i3,fF e,sizeLine_eq]
theorem beqS{a b:Str}:(a==b)=decide (a=b):=by
 by_cases h:a=b
 ·subst h;simp
 ·rw[decide_eq_false h];simpa using h
theorem uF{r:RT}(h:WF r):gD [enD r] st=some (.t [.s r.w,nmD r.n, .i (r.ps.length:Nat)],st):=by
 have hp:=fun s:Sto=>mR (st:=s) h
 cases h with
 |free x=>
  rw[gR] at hp ⊢
  simp only[RT.w,RT.n,RT.ps] at hp ⊢
  simp[gD,iR,inPair,(wq0 kD).2.1,hp,sizeLine_eq,cK,nmD,beqS,show ¬ (("free":Str)="false") by decide +kernel,enDs]
 |bound x=>
  rw[iT] at hp ⊢
  simp only[RT.w,RT.n,RT.ps] at hp ⊢
  simp[gD,iR,inPair,(wq0 jB).2.1,hp,sizeLine_eq,cK,nmD,beqS,show ¬ (("bound":Str)="false") by decide +kernel,enDs]
 |fls=>
  rw[jC] at hp ⊢
  simp only[RT.w,RT.n,RT.ps] at hp ⊢
  simp[gD,iR,hp,sizeLine_eq,nmD,enDs]
 |@app w x ps hw _=>
  have hn:inV (.str w) pairV=false:=by rcases aAi (wq1 hw) with h|h|h<;>(subst h;decide +kernel)
  have hf:¬ w="false":=fun z=>absurd (hw.symm.trans ((congrArg wq z).trans iF)) (by decide)
  rw[fL hw] at hp ⊢
  simp only[RT.w,RT.n,RT.ps] at hp ⊢
  simp[gD,iR,inPair,hn,hf,hp,sizeLine_eq,cK,nmD,beqS]
 |@pair w p q hw _ _=>
  have hf:¬ w="false":=fun z=>absurd (hw.symm.trans ((congrArg wq z).trans iF)) (by decide)
  rw[eM hw] at hp ⊢
  simp only[RT.w,RT.n,RT.ps] at hp ⊢
  simp[gD,iR,inPair,(wq2 hw).2,hf,hp,sizeLine_eq,cK,nmD,beqS]
 |@bind w x p hw _=>
  have hf:¬ w="false":=fun z=>absurd (hw.symm.trans ((congrArg wq z).trans iF)) (by decide)
  rw[hJ hw] at hp ⊢
  simp only[RT.w,RT.n,RT.ps] at hp ⊢
  simp[gD,iR,inPair,(wq3 hw).2.1,hf,hp,sizeLine_eq,cK,nmD,beqS]
theorem aFv(a b:Nm):flq (nmD a) (nmD b)=some (decide (a=b)):=by
 cases a with
 |no=>cases b with
  |no=>rfl
  |s y=>rw[decide_eq_false (by intro h;cases h)];rfl
  |i y=>rw[decide_eq_false (by intro h;cases h)];rfl
 |s x=>cases b with
  |no=>rw[decide_eq_false (by intro h;cases h)];rfl
  |s y=>rw[show flq (nmD (.s x)) (nmD (.s y))=some (decide (D.s x=D.s y)) from aBE x y];simp
  |i y=>rw[decide_eq_false (by intro h;cases h)];rfl
 |i x=>cases b with
  |no=>rw[decide_eq_false (by intro h;cases h)];rfl
  |s y=>rw[decide_eq_false (by intro h;cases h)];rfl
  |i y=>rw[show flq (nmD (.i x)) (nmD (.i y))=some (decide (D.i x=D.i y)) from aBD x y];simp
theorem aFw(n:Nat)(a b:Nm):deq n st (nmD a) (nmD b)=some (decide (a=b)):=by
 have h:=aFv a b
 cases n with
 |zero=>exact h
 |succ n=>cases a<;>cases b<;>exact h
theorem yN(p q:RT):neD (.t [.s p.w,nmD p.n, .i (p.ps.length:Nat)]) (.t [.s q.w,nmD q.n, .i (q.ps.length:Nat)]) st=some (.b (!decide (p.w=q.w∧p.n=q.n∧p.ps.length=q.ps.length)),st):=by
 have h1:deq 59 st (.s p.w) (.s q.w)=some (decide (p.w=q.w)):=by rw[qD (.s _) (.s _)];simp
 have h3:deq 59 st (.i (p.ps.length:Nat)) (.i (q.ps.length:Nat))=some (decide (p.ps.length=q.ps.length)):=by rw[qD (.i _) (.i _)];simp;omega
 unfold neD
 rw[show deq 60 st (.t [.s p.w,nmD p.n, .i (p.ps.length:Nat)]) (.t [.s q.w,nmD q.n, .i (q.ps.length:Nat)])=deqL (deq 59 st) [.s p.w,nmD p.n, .i (p.ps.length:Nat)] [.s q.w,nmD q.n, .i (q.ps.length:Nat)] from rfl]
 simp[deqL,h1,aFw,h3]
def prD(pq:RT×RT):D:=.t [enD pq.1,enD pq.2]
theorem zipD(ps qs:List RT):List.zipWith (fun x y=>D.t [x,y]) (enDs ps) (enDs qs)=(ps.zip qs).map prD:=by
 rw[eJ,eJ,List.zipWith_map,List.zip,List.map_zipWith]
 rfl
theorem aBF(p q:RT):p=q ↔ (p.w=q.w∧p.n=q.n∧p.ps.length=q.ps.length)∧p.ps=q.ps:=by
 constructor
 ·rintro rfl;exact⟨⟨rfl,rfl,rfl⟩,rfl⟩
 ·rintro⟨⟨h1,h2,_⟩,h3⟩
  rw[← p.eta,← q.eta,h1,h2,h3]
noncomputable abbrev alT:En→M Bool:=tVl (eV 2)
noncomputable abbrev alB:Sm':=seqS (sA (eB0 "list" popD (eV 2)) (gT 2 (gsC (gN 3) (gsC (gN 4) (gsN)))))
   (seqS (sI (tCm neD (eCl (gD) (aC (eV 3) (aN))) (eCl (gD) (aC (eV 4) (aN)))) (sR (eC (.b false))) (sN))
   (sE (eBm "list" extendD (eV 2) (aC (eCl lzipD (aC (eCl (dB) (aC (eV 3) (aN))) (aC (eCl (dB) (aC (eV 4) (aN))) (aN)))) (aN)))))
theorem aDe{a0 a1:Option D}{l:Nat}:∀ (n:Nat) (its:List (RT×RT)) (st:Sto) (x3 x4:Option D),szs (its.map (·.1))=n→n≤10000000→(∀ pq∈its,WF pq.1∧WF pq.2)→st[l]?=some (.l (its.reverse.map prD))→
  ∃ env' st',Kp l st st'∧((∀ pq∈its,pq.1=pq.2)∧whC alT alB [a0,a1,some (.r l),x3,x4] st=some ((.nx,env'),st')∨(¬ ∀ pq∈its,pq.1=pq.2)∧whC alT alB [a0,a1,some (.r l),x3,x4] st=some ((.rt (.b false),env'),st')):=by
 intro n
 induction n using Nat.strongRecOn with
 |ind n ih=>
  intro its st x3 x4 hn hb hw hl
  cases its with
  |nil=>
   refine⟨_,_,Kp.refl l st, .inl ⟨by simp,yD ?_⟩⟩
   simp[tY hl]
  |cons pq its=>
   obtain⟨p,q⟩:=pq
   obtain⟨wp,wq⟩:=hw (p,q) (by simp)
   obtain⟨Y,hY⟩:∃ Y,Y=its.reverse.map prD:=⟨_,rfl⟩
   have hYl:Y.length=its.length:=by rw[hY];simp
   have hl2:st[l]?=some (.l (Y++[.t [enD p,enD q]])):=by rw[hl,hY];simp[prD]
   have ht:alT [a0,a1,some (.r l),x3,x4] st=some (true,st):=by simp[tY hl2]
   have hs1:(st.set l (.l Y))[l]?=some (.l Y):=fD hl
   have kp1:Kp l st (st.set l (.l Y)):=(Kp.refl l st).set
   have hpop:=wX hl2
   generalize st.set l (.l Y)=st1 at hs1 kp1 hpop
   by_cases hh:p.w=q.w∧p.n=q.n∧p.ps.length=q.ps.length
   ·simp only[List.map_cons,szs] at hn
    have hsz:=mX p
    have hlp:=iA p.ps
    have hli:=iA (its.map (·.1))
    rw[List.length_map] at hli
    have hz:=aDc (st:=st1) (xs:=enDs p.ps) (ys:=enDs q.ps) (by rw[cK,cK];exact hh.2.2) (by rw[cK,sizeLine_eq];omega)
    rw[zipD] at hz
    have hzl:((p.ps.zip q.ps).map prD).length≤p.ps.length:=by simp;omega
    have hs2:=Ext.app st1 [C.l ((p.ps.zip q.ps).map prD)] _ _ hs1
    have hs3:=aU st1 (C.l ((p.ps.zip q.ps).map prD))
    have kp2:Kp l st1 (st1++[C.l ((p.ps.zip q.ps).map prD)]):=Kp.of (Ext.app _ _)
    generalize hst2:st1++[C.l ((p.ps.zip q.ps).map prD)]=st2 at hz hs2 hs3 kp2
    have hx:=pB hs2 hs3 (by rw[sizeLine_eq];omega)
    have hbd:alB [a0,a1,some (.r l),x3,x4] st=some ((.nx,[a0,a1,some (.r l),some (enD p),some (enD q)]),st2.set l (.l (Y++(p.ps.zip q.ps).map prD))):=by
     simp[fQ hl2,hpop,uF wp,uF wq,yN,hh,fQ hs1,mR wp,mR wq,hz,hx]
    obtain⟨env',st',k1,h1⟩:=ih (szs (((p.ps.zip q.ps).reverse++its).map (·.1))) (by rw[List.map_append,iP,List.map_reverse,uB,uC hh.2.2];omega) ((p.ps.zip q.ps).reverse++its) (st2.set l (.l (Y++(p.ps.zip q.ps).map prD))) (some (enD p)) (some (enD q)) rfl (by rw[List.map_append,iP,List.map_reverse,uB,uC hh.2.2];omega)
     (by
      intro ab hab
      rcases List.mem_append.mp hab with hab|hab
      ·rw[List.mem_reverse] at hab
       exact⟨wp.parts _ (List.of_mem_zip hab).1,wq.parts _ (List.of_mem_zip hab).2⟩
      ·exact hw ab (List.mem_cons_of_mem _ hab))
     (by rw[fD hs2,hY];simp)
    have hall:(∀ ab∈(p.ps.zip q.ps).reverse++its,ab.1=ab.2) ↔ ∀ ab∈(p,q)::its,ab.1=ab.2:=by
     simp only[List.mem_append,List.mem_reverse,List.mem_cons,or_imp,forall_and,forall_eq]
     rw[aBy hh.2.2]
     constructor
     ·rintro⟨h1,h2⟩;exact⟨(aBF p q).mpr ⟨hh,h1⟩,h2⟩
     ·rintro⟨h1,h2⟩;exact⟨((aBF p q).mp h1).2,h2⟩
    refine⟨env',st',(kp1.trans kp2.set).trans k1,?_⟩
    rcases h1 with⟨h1,h2⟩|⟨h1,h2⟩
    ·exact .inl ⟨hall.mp h1,tT ht hbd h2⟩
    ·exact .inr ⟨fun z=>h1 (hall.mpr z),tT ht hbd h2⟩
   ·refine⟨[a0,a1,some (.r l),some (enD p),some (enD q)],st1,kp1, .inr ⟨fun z=>hh ((aBF p q).mp (z (p,q) (by simp))).1,aCR ht ?_⟩⟩
    simp[fQ hl2,hpop,uF wp,uF wq,yN,hh]
theorem aDf{r q:RT}(hr:WF r)(hq:WF q)(hs:sz r≤10000000):∃ st',mO [enD r,enD q] st=some (.b (decide (r=q)),st')∧Ext st st':=by
 obtain⟨env',st',k,h⟩:=aDe (a0:=some (enD r)) (a1:=some (enD q)) (l:=st.length) (sz r) [(r,q)] (st++[.l [prD (r,q)]]) none none (by simp[szs]) hs (by simp[hr,hq]) (by simp)
 refine⟨st',?_,k.ext (Nat.le_refl _) (Ext.app _ _)⟩
 rcases h with⟨h1,h2⟩|⟨h1,h2⟩
 ·have e:r=q:=h1 (r,q) (by simp)
  rw[decide_eq_true e]
  simp[mO,qB,sizeLine_eq]
  rw[show sW alT alB=whC alT alB from rfl,show[D.t [enD r,enD q]]=[prD (r,q)] from rfl,h2]
  simp
 ·have e:¬ r=q:=fun z=>h1 fun ab hab=>by rw[List.mem_singleton.mp hab];exact z
  rw[decide_eq_false e]
  simp[mO,qB,sizeLine_eq]
  rw[show sW alT alB=whC alT alB from rfl,show[D.t [enD r,enD q]]=[prD (r,q)] from rfl,h2]
  simp
end
end K61
end
section
namespace K61
open PySem L2 PyProof.Rows
theorem jT{g:D→En→M En}{tb:Sm'}{env:En}{st:Sto}:forD (fun _=>True) g tb [] env st=some ((.nx,env),st):=by rw[forD];simp
theorem jK{g:D→En→M En}{tb:Sm'}{x:D}{xs:List D}{env env1 env2:En}{st st1 st2:Sto}(h1:g x env st=some (env1,st1))(h2:tb env1 st1=some ((.nx,env2),st2)):forD (fun _=>True) g tb (x::xs) env st=forD (fun _=>True) g tb xs env2 st2:=by
 rw[forD]
 simp[h1,h2]
theorem kG{c:Sto→Prop}{g:D→En→M En}{tb:Sm'}{x:D}{xs:List D}{env env1 env2:En}{st st1 st2:Sto}(hc:c st)(h1:g x env st=some (env1,st1))(h2:tb env1 st1=some ((.nx,env2),st2)):forD c g tb (x::xs) env st=forD c g tb xs env2 st2:=by
 rw[forD,iM hc]
 simp[h1,h2]
theorem lI{c:Sto→Prop}{g:D→En→M En}{tb:Sm'}{env:En}{st:Sto}(hc:c st):forD c g tb [] env st=some ((.nx,env),st):=by rw[forD,iM hc];rfl
theorem rC{te:En→M D}{cap:En}{g:D→D}{st:Sto}:∀ {xs acc:List D},(∀ x∈xs,te (some x::cap) st=some (g x,st))→compD (fun _=>True) bd1 (fun _=>L2.ret true) te cap xs acc st=some (acc++xs.map g,st)
 |[],acc,_=>by rw[compD];simp
 |x::xs,acc,h=>by
  rw[compD]
  simp only[aBx,bd1,aI,aM,aG,if_pos]
  show b3 (te (some x::cap) st) _=_
  rw[h x (by simp)]
  simp only[aG]
  rw[rC fun y hy=>h y (List.mem_cons_of_mem _ hy)]
  simp
def iD(p:List Nat):List D:=p.map fun k:Nat=>D.i (k:Int)
section
variable{st:Sto}
noncomputable abbrev wpB1:Sm':=seqS (sE (eBm "list" appendD (eV 3) (aC (eV 4) (aN))))
   (sA (eIx (eCl (dB) (aC (eV 4) (aN))) (eV 5)) (gN 4))
noncomputable abbrev wpB2:Sm':=seqS (sA (eB0 "list" popD (eV 3)) (gN 4))
   (seqS (sA (eCl listD (aC (eCl (dB) (aC (eV 4) (aN))) (aN))) (gN 7))
   (seqS (sA (eV 6) (gS (eV 7) (eV 5)))
   (sA (eCl (gX) (aC (eV 4) (aC (eV 7) (aN)))) (gN 6))))
theorem mI{ps:List RT}{k:Nat}{c:RT}(h:ps[k]?=some c):atI (enDs ps) (k:Int)=some (enD c):=by
 refine jL ?_
 rw[eJ,List.getElem?_map,h]
 rfl
theorem aBG{a0 a1 a2 x6 x7:Option D}{l:Nat}{r e:RT}{p:List Nat}{ts:List RT}(h:Pth r p ts e):∀ (A:List D) (st:Sto) (x5:Option D),WF r→A.length+p.length≤10000000→st[l]?=some (.l A)→
  ∃ x5' st',forD (fun _=>True) (gN 5) wpB1 (iD p) [a0,a1,a2,some (.r l),some (enD r),x5,x6,x7] st=some ((.nx,[a0,a1,a2,some (.r l),some (enD e),x5',x6,x7]),st')∧st'[l]?=some (.l (A++ts.map enD))∧Kp l st st':=by
 induction h with
 |nil r=>intro A st x5 _ _ hl;exact⟨x5,st,jT,by simpa using hl,Kp.refl l st⟩
 |@cons r c e k p ts hk hp ih=>
  intro A st x5 hw hb hl
  have ha:=gQ (y:=enD r) hl (by rw[sizeLine_eq];simp at hb;omega)
  have hs1:(st.set l (.l (A++[enD r])))[l]?=some (.l (A++[enD r])):=fD hl
  have kp1:Kp l st (st.set l (.l (A++[enD r]))):=(Kp.refl l st).set
  generalize st.set l (.l (A++[enD r]))=st1 at ha hs1 kp1
  obtain⟨x5',st',h1,h2,h3⟩:=ih (A++[enD r]) st1 (some (.i (k:Int))) (hw.parts c (List.mem_of_getElem? hk)) (by simp at hb ⊢;omega) hs1
  refine⟨x5',st',?_,by rw[h2];simp,kp1.trans h3⟩
  show forD _ _ _ (.i (k:Int)::iD p) _ _=_
  rw[jK (env1:=[a0,a1,a2,some (.r l),some (enD r),some (.i (k:Int)),x6,x7]) (st1:=st) (by simp) (env2:=[a0,a1,a2,some (.r l),some (enD c),some (.i (k:Int)),x6,x7]) (st2:=st1)]
  ·exact h1
  ·simp[fQ hl,ha,mR hw,mI hk]
theorem rD(ps:List RT)(k:Nat)(m:RT):(enDs ps).set k (enD m)=enDs (ps.set k m):=by rw[eJ,eJ,List.map_set]
theorem aBH{a0 a1 a2:Option D}{l:Nat}{r e u:RT}{p:List Nat}{ts:List RT}(h:Pth r p ts e):∀ (A:List D) (st:Sto) (x4 x5 x7:Option D),WF r→st[l]?=some (.l (A++ts.map enD))→
  ∃ x4' x5' x7' st',(∀ ys,forD (fun _=>True) (gN 5) wpB2 ((iD p).reverse++ys) [a0,a1,a2,some (.r l),x4,x5,some (enD u),x7] st=forD (fun _=>True) (gN 5) wpB2 ys [a0,a1,a2,some (.r l),x4',x5',some (enD (put p r u)),x7'] st')∧st'[l]?=some (.l A)∧Kp l st st':=by
 induction h with
 |nil r=>intro A st x4 x5 x7 _ hl;exact⟨x4,x5,x7,st,fun ys=>rfl,by simpa using hl,Kp.refl l st⟩
 |@cons r c e k p ts hk hp ih=>
  intro A st x4 x5 x7 hw hl
  obtain⟨x4',x5',x7',st1,h1,h2,h3⟩:=ih (A++[enD r]) st x4 x5 x7 (hw.parts c (List.mem_of_getElem? hk)) (by rw[hl];simp)
  have hpop:=wX h2
  have hs2:(st1.set l (.l A))[l]?=some (.l A):=fD h2
  have kp2:Kp l st1 (st1.set l (.l A)):=(Kp.refl l st1).set
  generalize st1.set l (.l A)=st2 at hpop hs2 kp2
  have hs3:=aU st2 (C.l (enDs r.ps))
  have hs3':=Ext.app st2 [C.l (enDs r.ps)] _ _ hs2
  have kp3:Kp l st2 (st2++[C.l (enDs r.ps)]):=Kp.of (Ext.app _ _)
  have hkl:k<r.ps.length:=(List.getElem?_eq_some_iff.mp hk).1
  have hset:=qY (y:=enD (put p c u)) (n:=k) hs3 (by rw[cK];exact hkl)
  rw[rD] at hset
  have hs4:=fD (c:=.l (enDs (r.ps.set k (put p c u)))) hs3
  have hs4':((st2++[C.l (enDs r.ps)]).set st2.length (C.l (enDs (r.ps.set k (put p c u)))))[l]?=some (.l A):=by
   have hne:l≠st2.length:=by have:=(List.getElem?_eq_some_iff.mp hs2).1;omega
   rw[List.getElem?_set,if_neg (Ne.symm hne)];exact hs3'
  have kp4:Kp l st2 ((st2++[C.l (enDs r.ps)]).set st2.length (C.l (enDs (r.ps.set k (put p c u))))):=fun j x n q=>by
   have hne:j≠st2.length:=by have:=(List.getElem?_eq_some_iff.mp q).1;omega
   rw[List.getElem?_set,if_neg (Ne.symm hne)];exact kp3 j x n q
  generalize (st2++[C.l (enDs r.ps)]).set st2.length (C.l (enDs (r.ps.set k (put p c u))))=st4 at hset hs4 hs4' kp4
  have hwp:=aGC (st:=st4) (l:=st2.length) (ps:=r.ps.set k (put p c u)) hw (by simp) hs4
  refine⟨some (enD r),some (.i (k:Int)),some (.r st2.length),st4,fun ys=>?_,hs4',(h3.trans kp2).trans kp4⟩
  have e1:(iD (k::p)).reverse++ys=(iD p).reverse++(.i (k:Int)::ys):=by simp[iD]
  rw[e1,h1,lE hk]
  refine jK (env1:=[a0,a1,a2,some (.r l),x4',some (.i (k:Int)),some (enD (put p c u)),x7']) (st1:=st1) (by simp) ?_
  simp only[aW,cE,aBt,eU,aG,aI,fQ h2,hpop,bW,aM,List.set_cons_succ,List.set_cons_zero,cL,aV,bD,fH,aZ,mR hw,bI,fP,yH,fO,fB,hset,hwp]
theorem aDg{r e u:RT}{p:List Nat}{ts:List RT}(hr:WF r)(h:Pth r p ts e)(hp:p.length≤10000000):∃ st',iX [enD r, .t (iD p),enD u] st=some (enD (put p r u),st')∧Ext st st':=by
 obtain⟨x5,st1,h1,h2,h3⟩:=aBG (a0:=some (enD r)) (a1:=some (.t (iD p))) (a2:=some (enD u)) (x6:=none) (x7:=none) (l:=st.length) h [] (st++[.l []]) none hr (by simpa using hp) (by simp)
 obtain⟨x4',x5',x7',st2,h4,h5,h6⟩:=aBH (a0:=some (enD r)) (a1:=some (.t (iD p))) (a2:=some (enD u)) (u:=u) (l:=st.length) h [] st1 (some (enD e)) x5 none hr h2
 refine⟨st2,?_,(h3.trans h6).ext (Nat.le_refl _) (Ext.app _ _)⟩
 have h7:=h4 []
 rw[List.append_nil,jT] at h7
 simp[iX,lO,sizeLine_eq,h1,revD,need,h7]
def it3(i:It3):D:=.t [.t (iD i.1),enD i.2.1, .i (i.2.2:Nat)]
def fnD(i:List Nat×Nat):D:=.t [.t (iD i.1), .i (i.2:Nat)]
noncomputable abbrev wyT:En→M Bool:=tVl (eV 3)
noncomputable abbrev wyB:Sm':=seqS (sA (eB0 "list" popD (eV 3)) (gT 3 (gsC (gN 4) (gsC (gN 5) (gsC (gN 6) (gsN))))))
   (sI (tVl (eCl (mO) (aC (eV 5) (aC (eV 1) (aN))))) (sE (eBm "list" appendD (eV 2) (aC (eT (aC (eV 4) (aC (eV 6) (aN)))) (aN)))) (seqS (sA (eIf (tCm inD (eIx (eV 5) (eC (.i (0)))) (eC c_BIND_WORDS)) (eOp addD (eV 6) (eC (.i (1)))) (eV 6)) (gN 7))
   (seqS (sA (eCl (dB) (aC (eV 5) (aN))) (gN 8))
   (sE (eBm "list" extendD (eV 3) (aC (eCo [7,8,4] (iRR (aC (eCl lenD (aC (eV 8) (aN))) (aN))) bd1 ((fun _=>ret true)) (eT (aC (eOp addD (eV 3) (eT (aC (eV 0) (aN)))) (aC (eIx (eV 2) (eV 0)) (aC (eV 1) (aN)))))) (aN)))))))
theorem aGo{r:RT}(h:WF r):∃ rest,enD r=.t (.s r.w::rest):=by
 cases h with
 |free x=>exact⟨_,gR x⟩
 |bound x=>exact⟨_,iT x⟩
 |fls=>exact⟨_,jC⟩
 |app hw _=>exact⟨_,fL hw⟩
 |pair hw _ _=>exact⟨_,eM hw⟩
 |bind hw _=>exact⟨_,hJ hw⟩
theorem aFx{way:List Nat}{ps:List RT}{d j:Nat}(hl:way.length+ps.length≤10000000)(hj:j<ps.length):
  eT (aC (eOp addD (eV 3) (eT (aC (eV 0) (aN)))) (aC (eIx (eV 2) (eV 0)) (aC (eV 1) (aN)))) [some (.i (j:Nat)),some (.i (d:Nat)),some (.t (enDs ps)),some (.t (iD way))] st=some (.t [.t (iD way++[.i (j:Nat)]),(enDs ps).getD j .no, .i (d:Nat)],st):=by
 have hat:atI (enDs ps) ((j:Nat):Int)=some (enD ps[j]):=mI (by simp[hj])
 have hg:(enDs ps).getD j .no=enD ps[j]:=by rw[List.getD_eq_getElem?_getD,eJ,List.getElem?_map];simp[hj]
 have h1:[D.i (j:Nat)].length≤sizeLine:=by rw[sizeLine_eq];simp
 have h2:(iD way).length+[D.i (j:Nat)].length≤sizeLine:=by rw[sizeLine_eq];simp[iD];omega
 have h3:[D.t (iD way++[.i (j:Nat)]),enD ps[j], .i (d:Nat)].length≤sizeLine:=by rw[sizeLine_eq];simp
 rw[hg]
 simp only[cY,bD,bC,eU,aG,aI,eK,aZ,aM,aO,aX h1,bZ,aX h2,bE,fA,cR,hat,cH,eI,aX h3]
theorem aGp{ps:List RT}{E:En}(hl:ps.length≤10000000)(h8:eV 8 E st=some (.t (enDs ps),st)):iRR (aC (eCl lenD (aC (eV 8) (aN))) (aN)) E st=some (((List.range ps.length).map fun(k:Nat)=>D.i ((ps.length:Int) - 1 - (k:Int)),fun _=>True),st):=by
 have h1:aC (eCl lenD (aC (eV 8) (aN))) (aN) E st=some ([.i (ps.length:Nat)],st):=by
  simp only[bD,aV,h8,aG,aI,aZ,aM,aFo,cK]
 rw[aFm,h1,aG]
 exact aDb (by omega)
theorem aDh{way:List Nat}{ps:List RT}{d:Nat}{E:En}(hl:way.length+ps.length≤10000000)(hE:capD [7,8,4] E=[some (.i (d:Nat)),some (.t (enDs ps)),some (.t (iD way))])(h8:eV 8 E st=some (.t (enDs ps),st)):
  eCo [7,8,4] (iRR (aC (eCl lenD (aC (eV 8) (aN))) (aN))) bd1 ((fun _=>L2.ret true)) (eT (aC (eOp addD (eV 3) (eT (aC (eV 0) (aN)))) (aC (eIx (eV 2) (eV 0)) (aC (eV 1) (aN))))) E st=some (.r st.length,st++[.l ((kids way d 0 ps).reverse.map it3)]):=by
 have hit:=aGp (st:=st) (by omega) h8
 have hc:=rC (te:=eT (aC (eOp addD (eV 3) (eT (aC (eV 0) (aN)))) (aC (eIx (eV 2) (eV 0)) (aC (eV 1) (aN))))) (cap:=[some (.i (d:Nat)),some (.t (enDs ps)),some (.t (iD way))]) (st:=st) (acc:=[])
  (xs:=(List.range ps.length).map fun(k:Nat)=>D.i ((ps.length:Int) - 1 - (k:Int)))
  (g:=fun x=>match x with
   | .i n=>.t [.t (iD way++[.i n]),(enDs ps).getD n.toNat .no, .i (d:Nat)]
   |_=>.no) (by
   intro x hx
   obtain⟨k,hk,rfl⟩:=List.mem_map.mp hx
   have hk:=List.mem_range.mp hk
   obtain⟨j,hj⟩:∃ j:Nat,(ps.length:Int) - 1 - (k:Int)=(j:Nat):=⟨ps.length - 1 - k,by omega⟩
   rw[hj]
   exact aFx hl (by omega))
 have hlt:((List.range ps.length).map fun(k:Nat)=>D.i ((ps.length:Int) - 1 - (k:Int))).length<sizeLine:=by rw[sizeLine_eq];simp;omega
 simp only[fI,hit,aG,aO,aX hlt,aI,hE,hc,aS,List.nil_append]
 congr 5
 apply List.ext_getElem
 ·simp[mE]
 ·intro i h1 h2
  simp at h1
  have hj:((ps.length:Int) - 1 - (i:Int)).toNat=ps.length - 1 - i:=by omega
  have hj2:((ps.length:Int) - 1 - (i:Int))=((ps.length - 1 - i:Nat):Int):=by omega
  have hjl:ps.length - 1 - i<ps.length:=by omega
  have hg:(enDs ps).getD (ps.length - 1 - i) .no=enD ps[ps.length - 1 - i]:=by rw[List.getD_eq_getElem?_getD,eJ,List.getElem?_map];simp[hjl]
  have hkk:(kids way d 0 ps)[ps.length - 1 - i]?=some (way++[ps.length - 1 - i],ps[ps.length - 1 - i],d):=by rw[qZ];simp[hjl]
  have hkl:ps.length - 1 - i < (kids way d 0 ps).length:=by rw[mE];exact hjl
  have hkg:(kids way d 0 ps)[ps.length - 1 - i]=(way++[ps.length - 1 - i],ps[ps.length - 1 - i],d):=by rw[List.getElem?_eq_getElem hkl] at hkk;exact Option.some.inj hkk
  simp only[List.getElem_map,List.getElem_range,hj,hg,List.getElem_reverse,mE,hkg,it3,iD,List.map_append,List.map_cons,List.map_nil,hj2,Int.toNat_natCast]
end
end K61
end
section
namespace K61
open PySem L2 PyProof.Rows
def Kp2(l k:Nat)(st st':Sto):Prop:=∀ (j:Nat) c,j≠l→j≠k→st[j]?=some c→st'[j]?=some c
theorem Kp2.trans{l k:Nat}{a b c:Sto}(h:Kp2 l k a b)(h':Kp2 l k b c):Kp2 l k a c:=fun j x n n2 e=>h' j x n n2 (h j x n n2 e)
theorem Kp2.of{l k:Nat}{a b:Sto}(h:Ext a b):Kp2 l k a b:=fun j c _ _ e=>h j c e
theorem Kp2.setl{l k:Nat}{a:Sto}{c:C}:Kp2 l k a (a.set l c):=fun j x n _ e=>by rw[List.getElem?_set,if_neg (Ne.symm n)];exact e
theorem Kp2.setr{l k:Nat}{a:Sto}{c:C}:Kp2 l k a (a.set k c):=fun j x _ n e=>by rw[List.getElem?_set,if_neg (Ne.symm n)];exact e
theorem bO{st:Sto}{l k:Nat}{c c':C}(h:st[l]?=some c)(n:l≠k):(st.set k c')[l]?=some c:=by rw[List.getElem?_set,if_neg (Ne.symm n)];exact h
section
variable{st:Sto}
theorem aDi{a0:Option D}{lf lp:Nat}{t:RT}(ht:WF t)(hne:lf≠lp):∀ (n:Nat) (its:List It3) (fs:List (List Nat×Nat)) (st:Sto) (x4 x5 x6 x7 x8:Option D),szs (its.map (·.2.1))=n→fs.length+n≤10000000→(∀ i∈its,WF i.2.1∧i.1.length+sz i.2.1≤10000000)→
  st[lf]?=some (.l (fs.map fnD))→st[lp]?=some (.l (its.reverse.map it3))→
  ∃ y4 y5 y6 y7 y8 st',whC wyT wyB [a0,some (enD t),some (.r lf),some (.r lp),x4,x5,x6,x7,x8] st=some ((.nx,[a0,some (enD t),some (.r lf),some (.r lp),y4,y5,y6,y7,y8]),st')∧st'[lf]?=some (.l ((fs++todo t its).map fnD))∧Kp2 lf lp st st':=by
 intro n
 induction n using Nat.strongRecOn with
 |ind n ih=>
  intro its fs st x4 x5 x6 x7 x8 hn hb hw hf hl
  cases its with
  |nil=>
   refine⟨x4,x5,x6,x7,x8,st,yD ?_,by simpa[todo] using hf,fun _ _ _ _ e=>e⟩
   simp[tY hl]
  |cons i its=>
   obtain⟨p,r,d⟩:=i
   obtain⟨wr,hbr⟩:=hw (p,r,d) (by simp)
   replace wr:WF r:=wr
   replace hbr:p.length+sz r≤10000000:=hbr
   have htd:todo t ((p,r,d)::its)=wz t r p d++todo t its:=rfl
   obtain⟨Y,hY⟩:∃ Y,Y=its.reverse.map it3:=⟨_,rfl⟩
   have hYl:Y.length=its.length:=by rw[hY];simp
   have hl2:st[lp]?=some (.l (Y++[.t [.t (iD p),enD r, .i (d:Nat)]])):=by rw[hl,hY];simp[it3]
   have htr:wyT [a0,some (enD t),some (.r lf),some (.r lp),x4,x5,x6,x7,x8] st=some (true,st):=by simp[tY hl2]
   have hpop:=wX hl2
   have hs1:(st.set lp (.l Y))[lp]?=some (.l Y):=fD hl
   have hf1:(st.set lp (.l Y))[lf]?=some (.l (fs.map fnD)):=bO hf hne
   have kp1:Kp2 lf lp st (st.set lp (.l Y)):=Kp2.setr
   generalize st.set lp (.l Y)=st1 at hpop hs1 hf1 kp1
   simp only[List.map_cons,szs] at hn
   have hsz:=mX r
   have hli:=iA (its.map (·.2.1))
   rw[List.length_map] at hli
   have hlp:=iA r.ps
   obtain⟨st2,hal,e2⟩:=aDf (st:=st1) wr ht (show sz r≤10000000 by omega)
   have hs2:=e2 _ _ hs1
   have hf2:=e2 _ _ hf1
   have kp2:Kp2 lf lp st st2:=kp1.trans (Kp2.of e2)
   by_cases hrt:r=t
   ·rw[decide_eq_true hrt] at hal
    have happ:=gQ (y:=.t [.t (iD p), .i (d:Nat)]) hf2 (by rw[sizeLine_eq];simp;omega)
    have hs3:(st2.set lf (.l (fs.map fnD++[.t [.t (iD p), .i (d:Nat)]])))[lp]?=some (.l Y):=bO hs2 (Ne.symm hne)
    have hf3:(st2.set lf (.l (fs.map fnD++[.t [.t (iD p), .i (d:Nat)]])))[lf]?=some (.l ((fs++[(p,d)]).map fnD)):=by rw[fD hf2];simp[fnD]
    have kp3:Kp2 lf lp st (st2.set lf (.l (fs.map fnD++[.t [.t (iD p), .i (d:Nat)]]))):=kp2.trans Kp2.setl
    generalize st2.set lf (.l (fs.map fnD++[.t [.t (iD p), .i (d:Nat)]]))=st3 at happ hs3 hf3 kp3
    have hbd:wyB [a0,some (enD t),some (.r lf),some (.r lp),x4,x5,x6,x7,x8] st=some ((.nx,[a0,some (enD t),some (.r lf),some (.r lp),some (.t (iD p)),some (enD r),some (.i (d:Nat)),x7,x8]),st3):=by
     simp[fQ hl2,hpop,hal,fQ hf2,sizeLine_eq,happ]
    obtain⟨y4,y5,y6,y7,y8,st',h1,h2,h3⟩:=ih (szs (its.map (·.2.1))) (by omega) its (fs++[(p,d)]) st3 (some (.t (iD p))) (some (enD r)) (some (.i (d:Nat))) x7 x8 rfl (by simp;omega) (fun j hj=>hw j (List.mem_cons_of_mem _ hj)) hf3 (by rw[hs3,hY])
    refine⟨y4,y5,y6,y7,y8,st',tT htr hbd h1,?_,kp3.trans h3⟩
    rw[h2,htd,aDP t r p d,if_pos hrt,List.append_assoc]
   ·rw[decide_eq_false hrt] at hal
    obtain⟨rest,hrest⟩:=aGo wr
    have hin:inD (.s r.w) c_BIND_WORDS st2=some (.b (inV (.str r.w) bindV),st2):=inBind r.w
    have hdp:(if inV (.str r.w) bindV=true then((d:Int)+1) else(d:Int))=((dp r.w d:Nat):Int):=by unfold dp;split<;>simp
    have hco:=aDh (st:=st2) (way:=p) (ps:=r.ps) (d:=dp r.w d) (E:=[a0,some (enD t),some (.r lf),some (.r lp),some (.t (iD p)),some (enD r),some (.i (d:Nat)),some (.i (dp r.w d:Nat)),some (.t (enDs r.ps))]) (by omega) (by simp[capD]) (by simp)
    have hkl:((kids p (dp r.w d) 0 r.ps).reverse.map it3).length=r.ps.length:=by simp[mE]
    have hs3:=Ext.app st2 [C.l ((kids p (dp r.w d) 0 r.ps).reverse.map it3)] _ _ hs2
    have hf3:=Ext.app st2 [C.l ((kids p (dp r.w d) 0 r.ps).reverse.map it3)] _ _ hf2
    have hn3:=aU st2 (C.l ((kids p (dp r.w d) 0 r.ps).reverse.map it3))
    have kp3:Kp2 lf lp st (st2++[C.l ((kids p (dp r.w d) 0 r.ps).reverse.map it3)]):=kp2.trans (Kp2.of (Ext.app _ _))
    generalize st2++[C.l ((kids p (dp r.w d) 0 r.ps).reverse.map it3)]=st3 at hco hs3 hf3 hn3 kp3
    have hx:=pB hs3 hn3 (by rw[sizeLine_eq,hkl];omega)
    have hs4:(st3.set lp (.l (Y++(kids p (dp r.w d) 0 r.ps).reverse.map it3)))[lp]?=some (.l ((kids p (dp r.w d) 0 r.ps++its).reverse.map it3)):=by rw[fD hs3,hY];simp
    have hf4:(st3.set lp (.l (Y++(kids p (dp r.w d) 0 r.ps).reverse.map it3)))[lf]?=some (.l (fs.map fnD)):=bO hf3 hne
    have kp4:Kp2 lf lp st (st3.set lp (.l (Y++(kids p (dp r.w d) 0 r.ps).reverse.map it3))):=kp3.trans Kp2.setr
    generalize st3.set lp (.l (Y++(kids p (dp r.w d) 0 r.ps).reverse.map it3))=st4 at hx hs4 hf4 kp4
    have hif:eIf (tCm inD (eIx (eV 5) (eC (.i (0)))) (eC c_BIND_WORDS)) (eOp addD (eV 6) (eC (.i (1)))) (eV 6) [a0,some (enD t),some (.r lf),some (.r lp),some (.t (iD p)),some (enD r),some (.i (d:Nat)),x7,x8] st2=some (.i (dp r.w d:Nat),st2):=by
     rw[hrest]
     cases hq:inV (.str r.w) bindV with
     |true=>simp[hin,hq,dp]
     |false=>simp[hin,hq,dp]
    have hbd:wyB [a0,some (enD t),some (.r lf),some (.r lp),x4,x5,x6,x7,x8] st=some ((.nx,[a0,some (enD t),some (.r lf),some (.r lp),some (.t (iD p)),some (enD r),some (.i (d:Nat)),some (.i (dp r.w d:Nat)),some (.t (enDs r.ps))]),st4):=by
     simp only[aW,cE,aBt,eU,aG,aI,fQ hl2,hpop,aCW (xs:=[D.t (iD p),enD r, .i (d:Nat)]) (n:=3) rfl,qW,bW,qV,aM,List.set_cons_succ,List.set_cons_zero,cL,cX,aFk,aV,bD,fB,eI,aZ,hal,aFs,aT,hif,mR wr,dI,bU,fQ hs2,hco,hx]
    obtain⟨y4,y5,y6,y7,y8,st',h1,h2,h3⟩:=ih (szs ((kids p (dp r.w d) 0 r.ps++its).map (·.2.1))) (by rw[List.map_append,pC,iP];omega) (kids p (dp r.w d) 0 r.ps++its) fs st4 _ _ _ _ _ rfl (by rw[List.map_append,pC,iP];omega)
     (fun j hj=>by
      rcases List.mem_append.mp hj with hj|hj
      ·obtain⟨g1,g2⟩:=aBz hj
       have h5:=mF g2
       exact⟨wr.parts _ g2,by rw[g1];omega⟩
      ·exact hw j (List.mem_cons_of_mem _ hj)) hf4 hs4
    refine⟨y4,y5,y6,y7,y8,st',tT htr hbd h1,?_,kp4.trans h3⟩
    rw[h2,vO,sS,htd,aDP t r p d,if_neg hrt]
theorem aFy{r t:RT}(hr:WF r)(ht:WF t)(hs:sz r≤10000000):∃ l st',mP [enD r,enD t] st=some (.r l,st')∧Ext st st'∧st.length≤l∧st'[l]?=some (.l ((wz t r [] 0).map fnD)):=by
 have e0:(st++[C.l []]).length=st.length+1:=by simp
 obtain⟨y4,y5,y6,y7,y8,st',h1,h2,h3⟩:=aDi (a0:=some (enD r)) (lf:=st.length) (lp:=(st++[C.l []]).length) ht (by omega) (sz r) [([],r,0)] [] ((st++[C.l []])++[C.l [it3 ([],r,0)]]) none none none none none (by simp[szs]) (by simpa using hs) (by simp[hr,hs]) (Ext.app _ _ _ _ (aU st (C.l []))) (by simp)
 refine⟨st.length,st',?_,fun j c q=>?_,Nat.le_refl _,by rw[h2];simp[todo]⟩
 ·simp[mP,oX,sizeLine_eq]
  rw[show sW wyT wyB=whC wyT wyB from rfl]
  rw[show st++[C.l [],C.l [D.t [D.t [],enD r,D.i 0]]]=(st++[C.l []])++[C.l [it3 ([],r,0)]] by simp[it3,iD]]
  rw[e0] at h1
  rw[h1]
  simp
 ·have hj:=(List.getElem?_eq_some_iff.mp q).1
  exact h3 j c (by omega) (by omega) (Ext.app _ _ _ _ (Ext.app _ _ _ _ q))
theorem WF.put{r e u:RT}{p:List Nat}{ts:List RT}(h:Pth r p ts e)(hu:WF u):WF r→WF (K61.put p r u):=by
 induction h with
 |nil=>intro _;exact hu
 |@cons r c e k p ts hk _ ih=>
  intro hw
  have hc:=ih (hw.parts c (List.mem_of_getElem? hk))
  rw[lE hk]
  cases hw with
  |free=>simp[RT.ps] at hk
  |bound=>simp[RT.ps] at hk
  |fls=>simp[RT.ps] at hk
  |app hw hps=>
   refine .app hw fun q hq=>?_
   rcases List.mem_or_eq_of_mem_set hq with hq|rfl
   ·exact hps q hq
   ·exact hc
  |@pair w p1 q1 hw h1 h2=>
   match k,hk with
   |0,_=>exact .pair hw hc h2
   |1,_=>exact .pair hw h1 hc
  |@bind w x p1 hw h1=>
   match k,hk with
   |0,_=>exact .bind hw hc
noncomputable abbrev wkB:Sm':=sE (eBm "list" appendD (eV 3) (aC (eCl (iX) (aC (eIx (eV 3) (eUn negD (eC (.i (1))))) (aC (eV 4) (aC (eV 2) (aN))))) (aN)))
theorem aDj{a0 a1:Option D}{lt lw:Nat}{u r f:RT}{ps:List (List Nat)}{out:List RT}{L:List D}(hu:WF u)(hne:lt≠lw)(h:Go u r ps out f):∀ (ws:List (List Nat×Nat)) (T:List D) (st:Sto) (x4 x5:Option D),ws.map (·.1)=ps→WF r→(∀ p∈ps,p.length≤10000000)→T.length+1+ps.length≤10000001→
  st[lt]?=some (.l (T++[enD r]))→st[lw]?=some (.l L)→∃ y4 y5 st',forD (fun st=>st[lw]?=some (.l L)) (gT 2 (gsC (gN 4) (gsC (gN 5) (gsN)))) wkB (ws.map fnD) [a0,a1,some (enD u),some (.r lt),x4,x5] st=some ((.nx,[a0,a1,some (enD u),some (.r lt),y4,y5]),st')∧st'[lt]?=some (.l (T++enDs (r::out)))∧Kp lt st st':=by
 induction h with
 |nil r=>
  intro ws T st x4 x5 hws _ _ _ ht hw
  have:ws=[]:=List.map_eq_nil_iff.mp hws
  subst this
  exact⟨x4,x5,st,lI hw,by simpa[enDs] using ht,Kp.refl _ _⟩
 |@cons r e f p ts ps out hp _ ih=>
  intro ws T st x4 x5 hws hr hb hb2 ht hw
  cases ws with
  |nil=>cases hws
  |cons w ws=>
   obtain⟨p',d⟩:=w
   simp only[List.map_cons,List.cons.injEq] at hws
   obtain⟨rfl,hws⟩:=hws
   obtain⟨st1,hpl,e1⟩:=aDg (st:=st) (u:=u) hr hp (hb p' (by simp))
   have ht1:=e1 _ _ ht
   have hw1:=e1 _ _ hw
   simp only[List.length_cons] at hb2
   have happ:=gQ (y:=enD (put p' r u)) ht1 (by rw[sizeLine_eq];simp;omega)
   have hs2:=fD (c:=.l (T++[enD r]++[enD (put p' r u)])) ht1
   have hw2:(st1.set lt (.l (T++[enD r]++[enD (put p' r u)])))[lw]?=some (.l L):=bO hw1 (Ne.symm hne)
   have kp:Kp lt st (st1.set lt (.l (T++[enD r]++[enD (put p' r u)]))):=(Kp.of e1).set
   generalize st1.set lt (.l (T++[enD r]++[enD (put p' r u)]))=st2 at happ hs2 hw2 kp
   obtain⟨y4,y5,st',h1,h2,h3⟩:=ih ws (T++[enD r]) st2 (some (.t (iD p'))) (some (.i (d:Nat))) hws (WF.put hp hu hr) (fun q hq=>hb q (List.mem_cons_of_mem _ hq)) (by simp;omega) hs2 hw2
   refine⟨y4,y5,st',?_,by rw[h2];simp[enDs],kp.trans h3⟩
   show forD _ _ _ (fnD (p',d)::ws.map fnD) _ _=_
   rw[kG hw (env1:=[a0,a1,some (enD u),some (.r lt),some (.t (iD p')),some (.i (d:Nat))]) (st1:=st) (by simp[fnD]) (env2:=[a0,a1,some (enD u),some (.r lt),some (.t (iD p')),some (.i (d:Nat))]) (st2:=st2)]
   ·exact h1
   ·simp only[dI,bU,eU,aG,aI,fQ ht,bD,aV,bE,cA,bK,tW,fF ht,aAK,cH,fH,fA,aZ,aM,hpl,happ]
theorem aBI{r t u:RT}(hr:WF r)(ht:WF t)(hu:WF u)(hs:sz r≤10000000):∃ l st',qU [enD r,enD t,enD u] st=some (.r l,st')∧Ext st st'∧st.length≤l∧st'[l]?=some (.l (enDs (r::tr t u r))):=by
 obtain⟨lw,st1,h1,e1,hlw,hw⟩:=aFy (st:=st++[C.l [enD r]]) hr ht hs
 have hlw':st.length<lw:=by simp at hlw;omega
 have hcnt:=pE t r
 obtain⟨y4,y5,st',h2,h3,h4⟩:=aDj (a0:=some (enD r)) (a1:=some (enD t)) (lt:=st.length) (lw:=lw) hu (by omega) (vP t u r) (wz t r [] 0) [] st1 none none (aFt t r) hr (fun p hp=>by have:=aBB t r p hp;omega) (by simp;omega) (e1 _ _ (aU st _)) hw
 refine⟨st.length,st',?_,h4.ext (Nat.le_refl _) ((Ext.app _ _).trans e1),Nat.le_refl _,by rw[h3];simp⟩
 simp[qU,wV,sizeLine_eq,h1,jX hw]
 rw[h2]
 simp
end
end K61
end
section
namespace K61
open PySem L2 PyProof.Rows
@[simp] theorem w_free_form:(("free":Str)=="form")=false:=by decide +kernel
@[simp] theorem w_free_call:(("free":Str)=="call")=false:=by decide +kernel
@[simp] theorem w_bound_form:(("bound":Str)=="form")=false:=by decide +kernel
@[simp] theorem w_bound_call:(("bound":Str)=="call")=false:=by decide +kernel
@[simp] theorem w_same_false:(("same":Str)=="false")=false:=by decide +kernel
@[simp] theorem w_atom_false:(("atom":Str)=="false")=false:=by decide +kernel
@[simp] theorem w_atom_same:(("atom":Str)=="same")=false:=by decide +kernel
@[simp] theorem w_all_false:(("all":Str)=="false")=false:=by decide +kernel
@[simp] theorem w_all_same:(("all":Str)=="same")=false:=by decide +kernel
@[simp] theorem w_all_atom:(("all":Str)=="atom")=false:=by decide +kernel
@[simp] theorem w_some_false:(("some":Str)=="false")=false:=by decide +kernel
@[simp] theorem w_some_same:(("some":Str)=="same")=false:=by decide +kernel
@[simp] theorem w_some_atom:(("some":Str)=="atom")=false:=by decide +kernel
@[simp] theorem w_some_all:(("some":Str)=="all")=false:=by decide +kernel
@[simp] theorem w_and_false:(("and":Str)=="false")=false:=by decide +kernel
@[simp] theorem w_and_same:(("and":Str)=="same")=false:=by decide +kernel
@[simp] theorem w_and_atom:(("and":Str)=="atom")=false:=by decide +kernel
@[simp] theorem w_and_all:(("and":Str)=="all")=false:=by decide +kernel
@[simp] theorem w_and_some:(("and":Str)=="some")=false:=by decide +kernel
@[simp] theorem w_or_false:(("or":Str)=="false")=false:=by decide +kernel
@[simp] theorem w_or_same:(("or":Str)=="same")=false:=by decide +kernel
@[simp] theorem w_or_atom:(("or":Str)=="atom")=false:=by decide +kernel
@[simp] theorem w_or_all:(("or":Str)=="all")=false:=by decide +kernel
@[simp] theorem w_or_some:(("or":Str)=="some")=false:=by decide +kernel
@[simp] theorem w_if_false:(("if":Str)=="false")=false:=by decide +kernel
@[simp] theorem w_if_same:(("if":Str)=="same")=false:=by decide +kernel
@[simp] theorem w_if_atom:(("if":Str)=="atom")=false:=by decide +kernel
@[simp] theorem w_if_all:(("if":Str)=="all")=false:=by decide +kernel
@[simp] theorem w_if_some:(("if":Str)=="some")=false:=by decide +kernel
@[simp] theorem w_call_form:(("call":Str)=="form")=false:=by decide +kernel
theorem aDk{p q:RT}(hp:WF p)(hq:WF q):enD p=enD q ↔ p=q:=⟨fun h=>qC hp hq h,fun h=>by rw[h]⟩
theorem mJ{st:Sto}{p q:RT}{n m:Nat}(hp:Tm n p)(hq:Tm m q)(hn:n≤29)(hm:m≤29):eqD (enD p) (enD q) st=some (.b (decide (p=q)),st):=by
 rw[mQ (hp.pd.mono (by omega)) (hq.pd.mono (by omega))]
 simp[aDk hp.wf hq.wf]
section
variable{st:Sto}
theorem xB{n:Nat}{r:RT}(h:Tm n r):iC [enD r] st=some (.t (enDs r.ps),st):=by
 cases h with
 |free n x=>rw[gR];simp[iC,jR,RT.ps,enDs,sizeLine_eq]
 |bound n x=>rw[iT];simp[iC,jR,RT.ps,enDs,sizeLine_eq]
 |app hw _=>rcases hw with rfl|rfl<;>simp[fL tZ,fL uA,iC,jR,RT.ps]
def enumF:Nat→List RT→List D
 |_,[]=>[]
 |k,p::ps=>.t [.i (k:Nat),enD p]::enumF (k+1) ps
theorem sV:∀ (k:Nat) (ps:List RT) (i:Nat),(enumF k ps)[i]?=(ps[i]?).map fun p=>D.t [.i ((k+i:Nat):Int),enD p]
 |k,[],i=>by simp[enumF]
 |k,p::ps,0=>by simp[enumF]
 |k,p::ps,i+1=>by simp only[enumF,List.getElem?_cons_succ,sV (k+1) ps i];rw[show k+1+i=k+(i+1) by omega]
theorem aDl(ps:List RT):enumL (enDs ps)=enumF 0 ps:=by
 apply List.ext_getElem?
 intro i
 rw[sV]
 unfold enumL
 rw[List.getElem?_map,cK]
 by_cases h:i<ps.length
 ·simp[h,eJ,List.getD_eq_getElem?_getD]
 ·simp[h]
def plD(q:List Nat)(p:List Nat):D:=.t (iD (q++p))
noncomputable abbrev spB(n:Nat):Sm':=sE (eBm "list" extendD (eV 3) (aC (eCl (cS n) (aC (eV 5) (aC (eV 1) (aC (eOp addD (eV 2) (eT (aC (eV 4) (aN)))) (aN))))) (aN)))
theorem aDm{m n:Nat}{t:RT}{a0:Option D}{q:List Nat}{l:Nat}(hself:∀ (r:RT) (q:List Nat) (st:Sto),Tm n r→q.length+sz r≤10000000→∃ l st',cS (n+1) [enD r,enD t, .t (iD q)] st=some (.r l,st')∧Ext st st'∧st.length≤l∧st'[l]?=some (.l ((pw t r).map (plD q)))):
  ∀ (cs:List RT) (k:Nat) (acc:List D) (st:Sto) (x4 x5:Option D),(∀ c∈cs,Tm n c)→q.length+szs cs+1≤10000000→acc.length+szs cs≤10000000→st[l]?=some (.l acc)→
  ∃ y4 y5 st',forD (fun _=>True) (gT 2 (gsC (gN 4) (gsC (gN 5) (gsN)))) (spB (n+1)) (enumF k cs) [a0,some (enD t),some (.t (iD q)),some (.r l),x4,x5] st=some ((.nx,[a0,some (enD t),some (.t (iD q)),some (.r l),y4,y5]),st')∧st'[l]?=some (.l (acc++(pws t cs k).map (plD q)))∧Kp l st st':=by
 intro cs
 induction cs with
 |nil=>intro k acc st x4 x5 _ _ _ hl;exact⟨x4,x5,st,jT,by rw[pws];simpa using hl,Kp.refl _ _⟩
 |cons c cs ih=>
  intro k acc st x4 x5 htm hb hb2 hl
  rw[szs] at hb hb2
  obtain⟨l1,st1,h1,e1,hl1,hl1'⟩:=hself c (q++[k]) st (htm c (by simp)) (by simp;omega)
  have hc:=pE t c
  have hne:l≠l1:=by have:=(List.getElem?_eq_some_iff.mp hl).1;omega
  have hs1:=e1 _ _ hl
  have hx:=pB hs1 hl1' (by rw[sizeLine_eq];simp;omega)
  have hs2:=fD (c:=.l (acc++(pw t c).map (plD (q++[k])))) hs1
  have kp:Kp l st (st1.set l (.l (acc++(pw t c).map (plD (q++[k]))))):=(Kp.of e1).set
  generalize st1.set l (.l (acc++(pw t c).map (plD (q++[k]))))=st2 at hx hs2 kp
  obtain⟨y4,y5,st',h2,h3,h4⟩:=ih (k+1) _ st2 (some (.i (k:Nat))) (some (enD c)) (fun d hd=>htm d (List.mem_cons_of_mem _ hd)) (by omega) (by simp;omega) hs2
  refine⟨y4,y5,st',?_,?_,kp.trans h4⟩
  ·show forD _ _ _ (.t [.i (k:Nat),enD c]::enumF (k+1) cs) _ _=_
   rw[jK (env1:=[a0,some (enD t),some (.t (iD q)),some (.r l),some (.i (k:Nat)),some (enD c)]) (st1:=st) (by simp) (env2:=[a0,some (enD t),some (.t (iD q)),some (.r l),some (.i (k:Nat)),some (enD c)]) (st2:=st2)]
   ·exact h2
   ·have hiD:iD q++[D.i (k:Nat)]=iD (q++[k]):=by simp[iD]
    have hlen:(iD q).length+[D.i (k:Nat)].length≤sizeLine:=by rw[sizeLine_eq];simp[iD];omega
    have hlen1:[D.i (k:Nat)].length≤sizeLine:=by rw[sizeLine_eq];simp
    simp only[dI,bU,eU,aG,aI,fQ hl,bD,aV,fB,eI,bC,fA,cY,fH,aZ,aM,aO,aX hlen1,bZ,aX hlen,hiD,h1,hx]
  ·rw[h3,pws,List.map_append,List.map_map,List.append_assoc]
   congr 5
   funext p
   simp[plD]
theorem yO{t:RT}{m:Nat}(ht:Tm m t)(hm:m≤29):∀ (n:Nat),n≤29→∀ (r:RT) (q:List Nat) (st:Sto),Tm n r→q.length+sz r≤10000000→∃ l st',cS (n+1) [enD r,enD t, .t (iD q)] st=some (.r l,st')∧Ext st st'∧st.length≤l∧st'[l]?=some (.l ((pw t r).map (plD q))):=by
 intro n
 induction n with
 |zero=>
  intro hn r q st hr hb
  by_cases hrt:r=t
  ·refine⟨st.length,st++[C.l [.t (iD q)]],?_,Ext.app _ _,Nat.le_refl _,?_⟩
   ·have he:eqD (enD r) (enD t) st=some (.b true,st):=by rw[mJ hr ht hn hm,decide_eq_true hrt]
    rw[cS];simp[iI,he,sizeLine_eq]
   ·cases r;rw[pw,if_pos hrt];simp[plD]
  ·have hps:r.ps=[]:=by cases hr<;>rfl
   refine⟨st.length,st++[C.l []],?_,Ext.app _ _,Nat.le_refl _,?_⟩
   ·rw[cS]
    simp[iI,mJ hr ht hn hm,hrt,sizeLine_eq,xB hr,hps,enDs,enumL]
    rw[show([]:List D)=[] from rfl,jT]
    simp
   ·cases r;rw[pw,if_neg hrt];simp only[RT.ps] at hps;subst hps;rw[pws];simp
 |succ n ih=>
  intro hn r q st hr hb
  by_cases hrt:r=t
  ·refine⟨st.length,st++[C.l [.t (iD q)]],?_,Ext.app _ _,Nat.le_refl _,?_⟩
   ·have he:eqD (enD r) (enD t) st=some (.b true,st):=by rw[mJ hr ht hn hm,decide_eq_true hrt]
    rw[cS];simp[iI,he,sizeLine_eq]
   ·cases r;rw[pw,if_pos hrt];simp[plD]
  ·have hpt:∀ c∈r.ps,Tm n c:=by
    cases hr with
    |free=>intro c hc;cases hc
    |bound=>intro c hc;cases hc
    |app _ h=>exact h
   have hsz:=mX r
   obtain⟨y4,y5,st',h1,h2,h3⟩:=aDm (m:=m) (n:=n) (t:=t) (a0:=some (enD r)) (q:=q) (l:=st.length) (fun r q st hr hb=>ih (by omega) r q st hr hb) r.ps 0 [] (st++[C.l []]) none none hpt (by omega) (by simp;omega) (aU _ _)
   refine⟨st.length,st',?_,h3.ext (Nat.le_refl _) (Ext.app _ _),Nat.le_refl _,?_⟩
   ·rw[cS]
    simp[iI,mJ hr ht hn hm,hrt,sizeLine_eq,xB hr,aDl]
    rw[h1]
    simp
   ·rw[h2];cases r;rw[pw,if_neg hrt];simp[RT.ps]
theorem aBJ{xs:List D}{k:Nat}(h:k≤xs.length):cutD xs none (some (k:Int))=xs.take k:=by
 unfold L2.cutD
 rw[HT.qG,HT.nP]
 simp[Nat.min_eq_left h]
theorem mK{xs:List D}{k:Nat}(h:k≤xs.length):cutD xs (some (k:Int)) none=xs.drop k:=by
 unfold L2.cutD
 rw[HT.qG,HT.nP,Nat.min_eq_left h,List.take_of_length_le (by simp)]
theorem sX(p:List Nat):Pd 60 (.t (iD p)):=.t fun d hd=>by
 obtain⟨k,_,rfl⟩:=List.mem_map.mp hd
 exact .i _
theorem aGq{u:RT}:∀ (n:Nat) (r e:RT) (p:List Nat) (ts:List RT) (N:Nat) (st:Sto),Tm N r→Pth r p ts e→p.length≤n→p.length+sz r≤10000000→gY (n+1) [enD r, .t (iD p),enD u] st=some (enD (put p r u),st):=by
 intro n
 induction n with
 |zero=>
  intro r e p ts N st hr hp hn _
  have:p=[]:=List.length_eq_zero_iff.mp (by omega)
  subst this
  rw[gY]
  have hq:eqD (.t (iD [])) (.t []) st=some (.b (decide (D.t (iD [])=D.t [])),st):=mQ (sX []) (sX [])
  simp[kL,sizeLine_eq,hq,put]
  simp[iD]
 |succ n ih=>
  intro r e p ts N st hr hp hn hb
  cases hp with
  |nil=>
   rw[gY]
   have hq:eqD (.t (iD [])) (.t []) st=some (.b (decide (D.t (iD [])=D.t [])),st):=mQ (sX []) (sX [])
   simp[kL,sizeLine_eq,hq,put]
   simp[iD]
  |@cons _ c _ k p ts hk hp=>
   cases hr with
   |free=>simp[RT.ps] at hk
   |bound=>simp[RT.ps] at hk
   |@app N w x ps hw hps=>
    replace hk:ps[k]?=some c:=hk
    have hkl:k<ps.length:=(List.getElem?_eq_some_iff.mp hk).1
    have hq:eqD (.t (iD (k::p))) (.t []) st=some (.b false,st):=by
     rw[show(D.t [])=.t (iD []) from rfl,mQ (sX _) (sX _)]
     simp[iD]
    have hsz:=mX (RT.mk w (.s x) ps)
    replace hsz:sz (RT.mk w (.s x) ps)=1+szs ps:=hsz
    have hm:=mF (List.mem_of_getElem? hk)
    have hl:=iA ps
    have hself:=ih c e p ts N st (hps c (List.mem_of_getElem? hk)) hp (by simpa using hn) (by simp at hb;omega)
    have c1:cutD (enDs ps) none (some (k:Int))=(enDs ps).take k:=aBJ (by rw[cK];omega)
    have c2:cutD (enDs ps) (some ((k:Int)+1)) none=(enDs ps).drop (k+1):=mK (k:=k+1) (by rw[cK];omega)
    have c3':cutD (iD (k::p)) (some 1) none=iD p:=by
     have:=mK (xs:=iD (k::p)) (k:=1) (by simp[iD])
     simpa[iD] using this
    have l1:[enD (put p c u)].length≤sizeLine:=by rw[sizeLine_eq];simp
    have l2:((enDs ps).take k).length+[enD (put p c u)].length≤sizeLine:=by rw[sizeLine_eq];simp[cK];omega
    have l3:((enDs ps).take k++[enD (put p c u)]).length+((enDs ps).drop (k+1)).length≤sizeLine:=by rw[sizeLine_eq];simp[cK];omega
    have eset:(enDs ps).take k++[enD (put p c u)]++(enDs ps).drop (k+1)=enDs (ps.set k (put p c u)):=by
     rw[← rD,List.set_eq_take_append_cons_drop,if_pos (by rw[cK];exact hkl)]
     simp
    have l4:[D.s w,D.s x,D.t (enDs (ps.set k (put p c u)))].length≤sizeLine:=by rw[sizeLine_eq];simp
    have ha0:atI (iD (k::p)) 0=some (.i (k:Nat)):=dE
    have l5:([]:List D).length≤sizeLine:=by rw[sizeLine_eq];simp
    rw[lE hk,gY]
    simp only[RT.w,RT.n,RT.ps]
    rw[fL (pF hw),fL (pF hw)]
    rw[eZ (p:=3) (by rfl)]
    simp only[List.map_cons,List.map_nil,kL,aW,cX,bM,bC,eI,aG,aI,cY,aZ,aO,aX l5,aM,hq,bN,aT,dD,cL,cE,bE,bK,cR,ha0,cH,bW,cQ,bD,eK,dE,dA,dF,bY,dM,dH,List.cons_append,List.nil_append,List.replicate,List.set_cons_succ,List.set_cons_zero,eU,bX,dP,c1,aV,mI hk,c3',fA,hself,aX l1,bZ,aX l2,bV,c2]
    rw[aX l3]
    simp only[aM,aG,eset,aI,aZ,aO,aX l4,cP]
end
end K61
end
section
namespace K61
open PySem L2 PyProof.Rows
section
variable{st:Sto}
theorem jU(a b:List RT):enDs (a++b)=enDs a++enDs b:=by rw[eJ,eJ,eJ,List.map_append]
theorem uG{m:Nat}:∀ (n:Nat) (r:RT) (st:Sto),Sm m n r→sz r≤10000000→∃ l st',cN (n+1) [enD r] st=some (.r l,st')∧Ext st st'∧st.length≤l∧st'[l]?=some (.l (enDs (terms r))):=by
 intro n
 induction n with
 |zero=>
  intro r st h hs
  cases h with
  |fls=>refine⟨_,_,?_,Ext.app _ _,Nat.le_refl _,aU _ _⟩;rw[kF,cN,jC];simp[fJ,sizeLine_eq,enDs]
  |same _ _ _=>refine⟨_,_,?_,Ext.app _ _,Nat.le_refl _,aU _ _⟩;rw[iQ,cN,eM jO];simp[fJ,sizeLine_eq,enDs]
  |atom _ x hp=>refine⟨_,_,?_,Ext.app _ _,Nat.le_refl _,aU _ _⟩;rw[jJ,cN,fL kC];simp[fJ,sizeLine_eq]
 |succ n ih=>
  intro r st h hs
  cases h with
  |fls=>refine⟨_,_,?_,Ext.app _ _,Nat.le_refl _,aU _ _⟩;rw[kF,cN,jC];simp[fJ,sizeLine_eq,enDs]
  |same _ _ _=>refine⟨_,_,?_,Ext.app _ _,Nat.le_refl _,aU _ _⟩;rw[iQ,cN,eM jO];simp[fJ,sizeLine_eq,enDs]
  |atom _ x hp=>refine⟨_,_,?_,Ext.app _ _,Nat.le_refl _,aU _ _⟩;rw[jJ,cN,fL kC];simp[fJ,sizeLine_eq]
  |@bnd _ w x p hw hp=>
   rw[sz1] at hs
   obtain⟨l,st',h1,h2,h3,h4⟩:=ih p st hp (by omega)
   refine⟨l,st',?_,h2,h3,by rw[lF hw];exact h4⟩
   rw[cN,hJ (mH hw)]
   rcases hw with rfl|rfl<;>simp[fJ,h1]
  |@con _ w p q hw hp hq=>
   rw[sz2] at hs
   obtain⟨l,st1,h1,h2,h3,h4⟩:=ih p st hp (by omega)
   obtain⟨k,st2,g1,g2,g3,g4⟩:=ih q st1 hq (by omega)
   have t1:=lH p
   have t2:=lH q
   have t3:=iA (terms p)
   have t4:=iA (terms q)
   have ha:=lR (g2 _ _ h4) g4 (by rw[cK,cK,sizeLine_eq];omega)
   have:=h2.len
   have:=g2.len
   refine⟨st2.length,st2++[C.l (enDs (terms p)++enDs (terms q))],?_,(h2.trans g2).trans (Ext.app _ _),by omega,by rw[lG hw,jU];exact aU _ _⟩
   rw[cN,eM (kQ hw)]
   rcases hw with rfl|rfl|rfl<;>simp[fJ,h1,g1,ha]
theorem vS{a:Option D}{l:Nat}{rest:List D}:∀ (xs ys acc:List D) (st:Sto),xs.length=ys.length→st[l]?=some (.l (ys++rest))→
  ∃ st',compD (fun _=>True) bd1 (fun _=>L2.ret true) (eBm "list" popD (eV 1) (aC (eC (.i (0))) (aN))) [some (.r l)] xs acc st=some (acc++ys,st')∧st'[l]?=some (.l rest)∧Kp l st st'
 |[],[],acc,st,_,h=>⟨st,by rw[compD];simp,by simpa using h,Kp.refl _ _⟩
 |x::xs,y::ys,acc,st,hl,h=>by
  have hp:=tX (y:=y) (xs:=ys++rest) h
  obtain⟨st',h1,h2,h3⟩:=vS (a:=a) (l:=l) (rest:=rest) xs ys (acc++[y]) (st.set l (.l (ys++rest))) (by simpa using hl) (fD h)
  refine⟨st',?_,h2,(Kp.refl l st).set.trans h3⟩
  rw[compD]
  simp only[aBx,bd1,aI,aM,aG,if_pos]
  show b3 (eBm "list" popD (eV 1) (aC (eC (.i (0))) (aN)) (some x::[some (.r l)]) st) _=_
  simp only[bU,eI,aG,aI,fQ h,bD,bK,aZ,aM,hp]
  rw[h1]
  simp
 |[],_::_,_,_,hl,_=>by cases hl
 |_::_,[],_,_,hl,_=>by cases hl
theorem aFz:∀ (n:Nat) (r r':RT) (ts rest:List RT) (l:Nat) (st:Sto),Fl n r ts r'→ts.length≤10000000→st[l]?=some (.l (enDs ts++enDs rest))→∃ st',fC (n+1) [enD r, .r l] st=some (enD r',st')∧st'[l]?=some (.l (enDs rest))∧Kp l st st':=by
 have base:∀ (n:Nat) (r r':RT) (ts rest:List RT) (l:Nat) (st:Sto),Fl 0 r ts r'→ts.length≤10000000→st[l]?=some (.l (enDs ts++enDs rest))→∃ st',fC (n+1) [enD r, .r l] st=some (enD r',st')∧st'[l]?=some (.l (enDs rest))∧Kp l st st':=by
  intro n r r' ts rest l st h hb hl
  cases h with
  |fls=>refine⟨st,?_,by simpa[enDs] using hl,Kp.refl _ _⟩;rw[fC,jC];simp[iE]
  |same _ p q p' q'=>
   simp only[enDs,List.cons_append,List.nil_append] at hl
   have hp1:=tX hl
   have hs1:=fD (c:=.l (enD q'::enDs rest)) hl
   have kp1:Kp l st (st.set l (.l (enD q'::enDs rest))):=(Kp.refl l st).set
   generalize st.set l (.l (enD q'::enDs rest))=st1 at hp1 hs1 kp1
   have hp2:=tX hs1
   refine⟨st1.set l (.l (enDs rest)),?_,fD hs1,kp1.set⟩
   rw[fC,eM jO,eM jO]
   simp[iE,fQ hl,hp1,fQ hs1,hp2,sizeLine_eq]
  |@atom _ x ps _ hq=>
   obtain⟨st1,h1,h2,h3⟩:=vS (a:=none) (l:=l) (rest:=enDs rest) (enDs ps) (enDs ts) [] st (by rw[cK,cK,hq]) hl
   have hn:=aU st1 (C.l (enDs ts))
   have ht:=iO hn
   have hlt:(enDs ps).length<sizeLine:=by rw[cK,sizeLine_eq];omega
   refine⟨st1++[C.l (enDs ts)],?_,Ext.app _ _ _ _ h2,h3.trans (Kp.of (Ext.app _ _))⟩
   rw[fC,fL kC,fL kC]
   have hco:eCo [1] (iS (eIx (eV 0) (eC (.i (2))))) bd1 ((fun _=>L2.ret true)) (eBm "list" popD (eV 1) (aC (eC (.i (0))) (aN))) [some (.t [.s "atom", .s x, .t (enDs ps)]),some (.r l),none] st=some (.r st1.length,st1++[C.l (enDs ts)]):=by
    simp only[fI,cB,bE,eK,aG,aI,bK,cR,dF,cH,dC,aO,aX hlt]
    rw[show capD [1] [some (D.t [.s "atom", .s x, .t (enDs ps)]),some (.r l),none]=[some (.r l)] from rfl,h1]
    simp
   simp[iE,-fI,hco,ht,sizeLine_eq]
 intro n
 induction n with
 |zero=>intro r r' ts rest l st h;exact base 0 r r' ts rest l st h
 |succ n ih=>
  intro r r' ts rest l st h hb hl
  cases h with
  |fls=>exact base (n+1) _ _ _ rest l st (.fls 0) hb hl
  |same _ p q p' q'=>exact base (n+1) _ _ _ rest l st (.same 0 ..) hb hl
  |atom _ x hq=>exact base (n+1) _ _ _ rest l st (.atom 0 x hq) hb hl
  |@bnd _ w x p p' _ hw hp=>
   obtain⟨st',h1,h2,h3⟩:=ih p p' ts rest l st hp hb hl
   refine⟨st',?_,h2,h3⟩
   rw[fC,hJ (mH hw),hJ (mH hw)]
   rcases hw with rfl|rfl<;>simp[iE,h1,sizeLine_eq]
  |@con _ w p q p' q' ts us hw hp hq=>
   rw[List.length_append] at hb
   obtain⟨st1,h1,h2,h3⟩:=ih p p' ts (us++rest) l st hp (by omega) (by rw[hl,jU,jU,List.append_assoc])
   obtain⟨st2,g1,g2,g3⟩:=ih q q' us rest l st1 hq (by omega) (by rw[h2,jU])
   refine⟨st2,?_,g2,h3.trans g3⟩
   rw[fC,eM (kQ hw),eM (kQ hw)]
   rcases hw with rfl|rfl|rfl<;>simp[iE,h1,g1,sizeLine_eq]
theorem F2.split{α β:Type}{R:α→β→Prop}:∀ {a b:List α} {c:List β},F2 R (a++b) c→∃ c1 c2,c=c1++c2∧F2 R a c1∧F2 R b c2
 |[],b,c,h=>⟨[],c,rfl, .nil,h⟩
 |x::a,b,c,h=>by
  cases h with
  |cons h1 h2=>
   obtain⟨c1,c2,rfl,h3,h4⟩:=F2.split h2
   exact⟨_::c1,c2,rfl, .cons h1 h3,h4⟩
theorem Tm.put{N m:Nat}{r e u:RT}{p:List Nat}{ts:List RT}(h:Pth r p ts e)(hu:Tm m u):∀ {N:Nat},Tm N r→p.length+m≤N→Tm N (K61.put p r u):=by
 induction h with
 |nil=>intro N _ hN;exact hu.mono (by simpa using hN)
 |@cons r c e k p ts hk _ ih=>
  intro N hr hN
  rw[lE hk]
  cases hr with
  |free=>simp[RT.ps] at hk
  |bound=>simp[RT.ps] at hk
  |app hw hps=>
   refine .app hw fun q hq=>?_
   rcases List.mem_or_eq_of_mem_set hq with hq|rfl
   ·exact hps q hq
   ·exact ih (hps c (List.mem_of_getElem? hk)) (by simp at hN;omega)
mutual
theorem xC:∀ r:RT,1≤sz r
 | .mk _ _ _=>by rw[sz];omega
end
theorem yP:∀ {ps:List RT} {k:Nat} {c:RT} (m:RT),ps[k]?=some c→szs (ps.set k m)+sz c=szs ps+sz m
 |p::ps,0,c,m,h=>by cases h;simp only[List.set_cons_zero,szs];omega
 |p::ps,k+1,c,m,h=>by
  have:=yP (ps:=ps) (k:=k) m (by simpa using h)
  simp only[List.set_cons_succ,szs];omega
 |[],k,c,m,h=>by simp at h
theorem aFA{r e u:RT}{p:List Nat}{ts:List RT}(h:Pth r p ts e):sz (K61.put p r u)≤sz r+sz u:=by
 induction h with
 |nil=>show sz u≤_;omega
 |@cons r c e k p ts hk _ ih=>
  rw[lE hk,sz,mX r]
  have:=yP (put p c u) hk
  omega
theorem aDn{r e:RT}{p:List Nat}{ts:List RT}(h:Pth r p ts e):p.length+1≤sz r:=by
 induction h with
 |nil=>exact xC _
 |@cons r c e k p ts hk _ ih=>
  have:=mF (List.mem_of_getElem? hk)
  rw[mX r];simp;omega
noncomputable abbrev lwI:Sm':=seqS (sA (eCl (gY 14) (aC (eIx (eV 4) (eV 5)) (aC (eV 6) (aC (eV 2) (aN))))) (gS (eV 4) (eV 5)))
   (sE (eBm "list" appendD (eV 3) (aC (eCl (fC 6) (aC (eV 0) (aC (eCl listD (aC (eV 4) (aN))) (aN)))) (aN))))
theorem aBK{a1:Option D}{lf lt ls k:Nat}{u r c f:RT}{ps:List (List Nat)}{out:List RT}{A cs:List RT}{L:List D}{N m:Nat}(h1:lf≠lt)(h2:lf≠ls)(h3:lt≠ls)(hu:Tm m u)(hk:k=A.length)(h:Go u c ps out f):
  ∀ (os:List RT) (F:List D) (st:Sto) (x6:Option D),Tm N c→(∀ p∈ps,p.length+m≤N∧p.length≤13)→sz c+ps.length * sz u≤9000000→F2 (Fl 5 r) (out.map fun x=>A++x::cs) os→F.length+ps.length≤10000000→A.length+cs.length+1≤5000000→
  st[lf]?=some (.l F)→st[lt]?=some (.l (enDs (A++c::cs)))→st[ls]?=some (.l L)→
  ∃ y6 st',forD (fun st=>st[ls]?=some (.l L)) (gN 6) lwI (ps.map (plD [])) [some (enD r),a1,some (enD u),some (.r lf),some (.r lt),some (.i (k:Nat)),x6] st=some ((.nx,[some (enD r),a1,some (enD u),some (.r lf),some (.r lt),some (.i (k:Nat)),y6]),st')∧
   st'[lf]?=some (.l (F++enDs os))∧st'[lt]?=some (.l (enDs (A++f::cs)))∧Kp2 lf lt st st':=by
 induction h with
 |nil c=>
  intro os F st x6 _ _ _ ho _ _ hf ht hs
  cases ho
  exact⟨x6,st,lI hs,by simpa[enDs] using hf,ht,fun _ _ _ _ e=>e⟩
 |@cons c e f p ts ps out hp _ ih=>
  intro os F st x6 hc hb hsz ho hF hA hf ht hs
  cases ho with
  |@cons _ o _ os hfl ho=>
   obtain⟨hb1,hb2⟩:=hb p (by simp)
   have hpath:=aDn hp
   have hput:=aFA (u:=u) hp
   simp only[List.length_cons,Nat.add_mul,Nat.one_mul] at hsz hF
   have hat:atI (enDs (A++c::cs)) ((k:Nat):Int)=some (enD c):=mI (by rw[hk];simp)
   have hset:=aGq (u:=u) 13 c e p ts N st hc hp hb2 (by omega)
   have hsd:=qY (y:=enD (put p c u)) (n:=k) ht (by rw[cK,hk];simp)
   rw[rD,show(A++c::cs).set k (put p c u)=A++put p c u::cs by rw[hk];simp] at hsd
   have hs1:(st.set lt (.l (enDs (A++put p c u::cs))))[lt]?=_:=fD ht
   have hf1:=bO (c':=.l (enDs (A++put p c u::cs))) hf h1
   have hS1:=bO (c':=.l (enDs (A++put p c u::cs))) hs (Ne.symm h3)
   have kp1:Kp2 lf lt st (st.set lt (.l (enDs (A++put p c u::cs)))):=Kp2.setr
   generalize st.set lt (.l (enDs (A++put p c u::cs)))=st1 at hsd hs1 hf1 hS1 kp1
   have hld:=aCY hs1
   have hn:=aU st1 (C.l (enDs (A++put p c u::cs)))
   have e2:=Ext.app st1 [C.l (enDs (A++put p c u::cs))]
   have hf1l:lf<st1.length:=(List.getElem?_eq_some_iff.mp hf1).1
   have hs1l:lt<st1.length:=(List.getElem?_eq_some_iff.mp hs1).1
   have hS1l:ls<st1.length:=(List.getElem?_eq_some_iff.mp hS1).1
   obtain⟨st3,hw,_,kp3⟩:=aFz 5 r o (A++put p c u::cs) [] st1.length (st1++[C.l (enDs (A++put p c u::cs))]) hfl (by simp;omega) (by rw[hn];simp[enDs])
   have hf3:=kp3 _ _ (by omega) (e2 _ _ hf1)
   have hs3:=kp3 _ _ (by omega) (e2 _ _ hs1)
   have hS3:=kp3 _ _ (by omega) (e2 _ _ hS1)
   have happ:=gQ (y:=enD o) hf3 (by rw[sizeLine_eq];omega)
   have hf4:=fD (c:=.l (F++[enD o])) hf3
   have hs4:=bO (c':=.l (F++[enD o])) hs3 (Ne.symm h1)
   have hS4:=bO (c':=.l (F++[enD o])) hS3 (Ne.symm h2)
   have kp4:Kp2 lf lt st (st3.set lf (.l (F++[enD o]))):=fun j x n1 n2 q=>by
    rw[List.getElem?_set,if_neg (Ne.symm n1)]
    have q1:=kp1 j x n1 n2 q
    have:=(List.getElem?_eq_some_iff.mp q1).1
    exact kp3 j x (by omega) (e2 _ _ q1)
   generalize st3.set lf (.l (F++[enD o]))=st4 at happ hf4 hs4 hS4 kp4
   obtain⟨y6,st',g1,g2,g3,g4⟩:=ih os (F++[enD o]) st4 (some (plD [] p)) (Tm.put (N:=N) hp hu hc (by omega)) (fun q hq=>hb q (List.mem_cons_of_mem _ hq)) (by omega) ho (by simp;omega) hA hf4 hs4 hS4
   refine⟨y6,st',?_,by rw[g2];simp[enDs],g3,kp4.trans g4⟩
   show forD _ _ _ (plD [] p::ps.map (plD [])) _ _=_
   rw[kG hs (env1:=[some (enD r),a1,some (enD u),some (.r lf),some (.r lt),some (.i (k:Nat)),some (plD [] p)]) (st1:=st) (by simp) (env2:=[some (enD r),a1,some (enD u),some (.r lf),some (.r lt),some (.i (k:Nat)),some (plD [] p)]) (st2:=st4)]
   ·exact g1
   ·have hpl:plD [] p=.t (iD p):=by simp[plD]
    rw[hpl]
    simp only[aW,cE,aV,bD,bE,fH,aG,aI,fB,fF ht,hat,cH,fP,fA,aZ,aM,hset,yH,hsd,cL,dI,bU,eU,fQ hf1,eK,hld,hw,happ]
end
end K61
end
section
namespace K61
open PySem L2 PyProof.Rows
section
variable{st:Sto}
theorem Sm.monoD{n d:Nat}{r:RT}(h:Sm n d r):∀ {e:Nat},d≤e→Sm n e r:=by
 induction h with
 |fls=>intro e _;exact .fls _
 |same _ h1 h2=>intro e _;exact .same _ h1 h2
 |atom _ x hp=>intro e _;exact .atom _ x hp
 |bnd hw _ ih=>intro e he;obtain⟨k,rfl⟩:∃ k,e=k+1:=⟨e - 1,by omega⟩;exact .bnd hw (ih (by omega))
 |con hw _ _ ih1 ih2=>intro e he;obtain⟨k,rfl⟩:∃ k,e=k+1:=⟨e - 1,by omega⟩;exact .con hw (ih1 (by omega)) (ih2 (by omega))
mutual
theorem xD(t:RT):∀ (r:RT) (n:Nat),Tm n r→∀ p∈pw t r,p.length≤n
 | .mk w x ps,n,h=>by
  intro p hp
  rw[pw] at hp
  split at hp
  ·rw[List.mem_singleton.mp hp];exact Nat.zero_le _
  ·cases h with
   |free=>rw[pws] at hp;cases hp
   |bound=>rw[pws] at hp;cases hp
   |@app n _ _ _ _ hps=>exact yQ t ps 0 n hps p hp
theorem yQ(t:RT):∀ (cs:List RT) (k n:Nat),(∀ c∈cs,Tm n c)→∀ p∈pws t cs k,p.length≤n+1
 |[],k,n,_=>by intro p hp;rw[pws] at hp;cases hp
 |c::cs,k,n,h=>by
  intro p hp
  rw[pws] at hp
  rcases List.mem_append.mp hp with hp|hp
  ·obtain⟨p',hp',rfl⟩:=List.mem_map.mp hp
   have:=xD t c n (h c (by simp)) p' hp'
   rw[List.length_cons];omega
  ·exact yQ t cs (k+1) n (fun c hc=>h c (List.mem_cons_of_mem _ hc)) p hp
end
theorem Go.tm{u c f:RT}{ps:List (List Nat)}{out:List RT}{N m:Nat}(hu:Tm m u)(h:Go u c ps out f):Tm N c→(∀ p∈ps,p.length+m≤N)→(∀ x∈out,Tm N x)∧Tm N f:=by
 induction h with
 |nil=>intro hc _;exact⟨by simp,hc⟩
 |@cons r e f p ts ps out hp _ ih=>
  intro hc hb
  have h1:=Tm.put (N:=N) hp hu hc (hb p (by simp))
  obtain⟨h2,h3⟩:=ih h1 fun q hq=>hb q (List.mem_cons_of_mem _ hq)
  refine⟨fun x hx=>?_,h3⟩
  rcases List.mem_cons.mp hx with rfl|hx
  ·exact h1
  ·exact h2 x hx
theorem yR{t u c:RT}{n m:Nat}(hu:Tm m u)(hc:Tm n c):(∀ x∈tr t u c,Tm (n+m) x)∧Tm (n+m) (fin t u c):=
 Go.tm hu (vP t u c) (hc.mono (by omega)) fun p hp=>by have:=xD t c n hc p hp;omega
theorem aBL{t u:RT}{n m:Nat}(hu:Tm m u):∀ (cs:List RT),(∀ c∈cs,Tm n c)→∀ xs∈trs t u cs,∀ x∈xs,Tm (n+m) x
 |[],_=>by intro xs hx;rw[trs] at hx;cases hx
 |c::cs,h=>by
  intro xs hx x hxx
  rw[trs] at hx
  rcases List.mem_append.mp hx with hx|hx
  ·obtain⟨y,hy,rfl⟩:=List.mem_map.mp hx
   rcases List.mem_cons.mp hxx with rfl|hxx
   ·exact(yR hu (h c (by simp))).1 _ hy
   ·exact(h x (List.mem_cons_of_mem _ hxx)).mono (by omega)
  ·obtain⟨y,hy,rfl⟩:=List.mem_map.mp hx
   rcases List.mem_cons.mp hxx with rfl|hxx
   ·exact(yR hu (h c (by simp))).2
   ·exact aBL hu cs (fun c hc=>h c (List.mem_cons_of_mem _ hc)) y hy x hxx
theorem Fl.sm{d N:Nat}{r r':RT}{ts:List RT}(h:Fl d r ts r'):(∀ x∈ts,Tm N x)→Sm N d r':=by
 induction h with
 |fls=>intro _;exact .fls _
 |same=>intro h;exact .same _ (h _ (by simp)) (h _ (by simp))
 |atom _ x _=>intro h;exact .atom _ x h
 |bnd hw _ ih=>intro h;exact .bnd hw (ih h)
 |con hw _ _ ih1 ih2=>intro h;exact .con hw (ih1 fun x hx=>h x (List.mem_append_left _ hx)) (ih2 fun x hx=>h x (List.mem_append_right _ hx))
theorem F2.mem{α β:Type}{R:α→β→Prop}{a:List α}{b:List β}(h:F2 R a b):∀ y∈b,∃ x∈a,R x y:=by
 induction h with
 |nil=>intro y hy;cases hy
 |cons h _ ih=>
  intro y hy
  rcases List.mem_cons.mp hy with rfl|hy
  ·exact⟨_,by simp,h⟩
  ·obtain⟨x,hx,hr⟩:=ih y hy
   exact⟨x,List.mem_cons_of_mem _ hx,hr⟩
def rgD:Nat→List RT→List D
 |_,[]=>[]
 |k,_::cs=>.i (k:Nat)::rgD (k+1) cs
theorem yS:∀ (k:Nat) (ps:List RT) (i:Nat),(rgD k ps)[i]?=(ps[i]?).map fun _=>D.i ((k+i:Nat):Int)
 |k,[],i=>by simp[rgD]
 |k,p::ps,0=>by simp[rgD]
 |k,p::ps,i+1=>by simp only[rgD,List.getElem?_cons_succ,yS (k+1) ps i];rw[show k+1+i=k+(i+1) by omega]
theorem aBM(ps:List RT):((List.range ps.length).map fun(k:Nat)=>D.i (0+(k:Int)))=rgD 0 ps:=by
 apply List.ext_getElem?
 intro i
 rw[yS,List.getElem?_map]
 by_cases h:i<ps.length
 ·simp[h]
 ·simp[h]
noncomputable abbrev lwO:Sm':=sF (iS (eCl (cS 14) (aC (eIx (eV 4) (eV 5)) (aC (eV 1) (aC (eT (aN)) (aN)))))) (gN 6) lwI
theorem aBN{lf lt:Nat}{t u r:RT}{n m m':Nat}(h1:lf≠lt)(ht:Tm m' t)(hu:Tm m u)(hn:n≤8)(hm:m≤8)(hm':m'≤8)(hsu:sz u≤2809):
  ∀ (cs A os:List RT) (F:List D) (st:Sto) (x5 x6:Option D),(∀ c∈cs,Tm n c∧sz c≤2809)→F2 (Fl 5 r) ((trs t u cs).map (A++·)) os→F.length+szs cs≤10000000→A.length+cs.length≤4000000→
  st[lf]?=some (.l F)→st[lt]?=some (.l (enDs (A++cs)))→
  ∃ y5 y6 st',forD (fun _=>True) (gN 5) lwO (rgD A.length cs) [some (enD r),some (enD t),some (enD u),some (.r lf),some (.r lt),x5,x6] st=some ((.nx,[some (enD r),some (enD t),some (enD u),some (.r lf),some (.r lt),y5,y6]),st')∧
   st'[lf]?=some (.l (F++enDs os))∧Kp2 lf lt st st':=by
 intro cs
 induction cs with
 |nil=>
  intro A os F st x5 x6 _ ho _ _ hf _
  rw[trs] at ho
  cases ho
  exact⟨x5,x6,st,jT,by simpa[enDs] using hf,fun _ _ _ _ e=>e⟩
 |cons c cs ih=>
  intro A os F st x5 x6 hc ho hF hA hf hl
  obtain⟨hcT,hcs⟩:=hc c (by simp)
  rw[trs,List.map_append,List.map_map,List.map_map] at ho
  obtain⟨o1,o2,rfl,ho1,ho2⟩:=ho.split
  rw[szs] at hF
  have hat:atI (enDs (A++c::cs)) ((A.length:Nat):Int)=some (enD c):=mI (by simp)
  obtain⟨ls,st1,hsp,e1,hls,hsl⟩:=yO (t:=t) ht (by omega) 13 (by omega) c [] st (hcT.mono (by omega)) (by simp;omega)
  have hfl:lf<st.length:=(List.getElem?_eq_some_iff.mp hf).1
  have hll:lt<st.length:=(List.getElem?_eq_some_iff.mp hl).1
  have hcnt:=pE t c
  have hgo:=vP t u c
  have hmul:(pw t c).length * sz u≤2809 * 2809:=Nat.mul_le_mul (by omega) hsu
  obtain⟨y6,st2,g1,g2,g3,g4⟩:=aBK (a1:=some (enD t)) (lf:=lf) (lt:=lt) (ls:=ls) (k:=A.length) (r:=r) (A:=A) (cs:=cs) (L:=(pw t c).map (plD [])) (N:=16) (m:=m) h1 (by omega) (by omega) hu rfl hgo o1 F st1 x6 (hcT.mono (by omega))
   (fun p hp=>by have:=xD t c n hcT p hp;omega) (by omega) ho1 (by omega) (by simp at hA;omega) (e1 _ _ hf) (e1 _ _ hl) hsl
  have hlen:o1.length=(pw t c).length:=by have:=ho1.len;rw[List.length_map] at this;rw[← this];exact hgo.len
  obtain⟨y5,y6',st3,k1,k2,k3⟩:=ih (A++[fin t u c]) o2 (F++enDs o1) st2 (some (.i (A.length:Nat))) y6 (fun d hd=>hc d (List.mem_cons_of_mem _ hd)) (by
    have e:(fun x=>A++[fin t u c]++x)=(fun x=>A++x) ∘ (fun x=>fin t u c::x):=by funext x;simp
    rw[e];exact ho2) (by simp[cK];omega) (by simp at hA ⊢;omega) g2 (by rw[g3];simp)
  refine⟨y5,y6',st3,?_,by rw[k2,jU,List.append_assoc],fun j x n1 n2 q=>k3 j x n1 n2 (g4 j x n1 n2 (e1 _ _ q))⟩
  show forD _ _ _ (.i (A.length:Nat)::rgD (A.length+1) cs) _ _=_
  rw[jK (env1:=[some (enD r),some (enD t),some (enD u),some (.r lf),some (.r lt),some (.i (A.length:Nat)),x6]) (st1:=st) (by simp) (env2:=[some (enD r),some (enD t),some (enD u),some (.r lf),some (.r lt),some (.i (A.length:Nat)),y6]) (st2:=st2)]
  ·rw[show A.length+1=(A++[fin t u c]).length by simp];exact k1
  ·have l5:([]:List D).length≤sizeLine:=by rw[sizeLine_eq];simp
   have hsp':cS 14 [enD c,enD t, .t []] st=some (.r ls,st1):=hsp
   simp only[lB,cB,aV,bD,bE,fH,aG,aI,fB,fF hl,hat,cH,eI,cY,aZ,aO,aX l5,aM,hsp',jX hsl]
   rw[g1]
theorem aDo{t u r:RT}{n m m':Nat}(hr:Sm n 5 r)(ht:Tm m' t)(hu:Tm m u)(hn:n≤8)(hm:m≤8)(hm':m'≤8)(hsu:sz u≤2809)(hsz:sz r≤3000000)(hc:∀ c∈terms r,sz c≤2809):
  ∃ l st',kN [enD r,enD t,enD u] st=some (.r l,st')∧Ext st st'∧st.length≤l∧st'[l]?=some (.l (enDs (r::tr t u r))):=by
 obtain⟨lt,st1,h1,e1,hlt,hl⟩:=uG 5 r (st++[C.l [enD r]]) hr (by omega)
 have hfl:=wZ (u:=u) ht hr
 have t1:=lH r
 have t2:=iA (terms r)
 have hlt':st.length<lt:=by simp at hlt;omega
 obtain⟨y5,y6,st2,g1,g2,g3⟩:=aBN (lf:=st.length) (lt:=lt) (r:=r) (n:=n) (by omega) ht hu hn hm hm' hsu (terms r) [] (tr t u r) [enD r] st1 none none (fun c hc'=>⟨hr.tm c hc',hc c hc'⟩) (by simpa using hfl.2.2) (by simp;omega) (by simp;omega) (e1 _ _ (aU _ _)) (by simpa using hl)
 refine⟨st.length,st2,?_,fun j c q=>?_,Nat.le_refl _,by rw[g2];simp[enDs]⟩
 ·have hrg:-(2 ^ 62)≤(((terms r).length:Nat):Int)∧(((terms r).length:Nat):Int)<2 ^ 62:=by omega
  have l1:[enD r].length≤sizeLine:=by rw[sizeLine_eq];simp
  have hr1:iR1 (aC (eCl lenD (aC (eV 4) (aN))) (aN)) [some (enD r),some (enD t),some (enD u),some (.r st.length),some (.r lt),none,none] st1=some ((rgD 0 (terms r),fun _=>True),st1):=by
   have e0:aC (eCl lenD (aC (eV 4) (aN))) (aN) [some (enD r),some (enD t),some (enD u),some (.r st.length),some (.r lt),none,none] st1=some ([.i ((terms r).length:Nat)],st1):=by
    simp only[bD,aV,fH,aG,aI,aZ,aM,qX hl,cK]
   rw[oY,e0,aG,xY (by rfl),lD,aX hrg,Int.toNat_natCast,aBM]
   rfl
  simp only[kN,mC]
  rw[eZ (p:=3) (by rfl)]
  simp only[List.map_cons,List.map_nil,List.cons_append,List.nil_append,List.replicate,aW,cE,cW,bD,eK,aG,aI,aZ,aM,bA,aX l1,aS,bW,List.set_cons_succ,List.set_cons_zero,cL,aV,h1]
  simp only[lB,hr1,aG]
  rw[show([]:List RT).length=0 from rfl] at g1
  rw[g1]
  simp
 ·have:=(List.getElem?_eq_some_iff.mp q).1
  exact g3 j c (by omega) (by omega) (e1 _ _ (Ext.app _ _ _ _ q))
theorem uH{t u r:RT}{n m m':Nat}(hr:Sm n 5 r)(ht:Tm m' t)(hu:Tm m u)(hn:n≤8)(hm:m≤8)(hm':m'≤8)(hsu:sz u≤2809)(hsz:sz r≤3000000)(hc:∀ c∈terms r,sz c≤2809):
  ∃ st',fK [enD r,enD t,enD u] st=some (.b true,st')∧Ext st st':=by
 by_cases htu:t=u
 ·refine⟨st,?_,Ext.refl _⟩
  have he:eqD (enD t) (enD u) st=some (.b true,st):=by rw[mJ ht hu (by omega) (by omega),decide_eq_true htu]
  simp[fK,jZ,he]
 ·have he:eqD (enD t) (enD u) st=some (.b false,st):=by rw[mJ ht hu (by omega) (by omega),decide_eq_false htu]
  obtain⟨l1,st1,h1,e1,hl1,hc1⟩:=aDo (st:=st) hr ht hu hn hm hm' hsu hsz hc
  obtain⟨l2,st2,h2,e2,hl2,hc2⟩:=aBI (st:=st1) hr.wf ht.wf hu.wf (show sz r≤10000000 by omega)
  have hpd:∀ x∈enDs (r::tr t u r),Pd 59 x:=by
   have hfl:=wZ (u:=u) ht hr
   intro x hx
   rw[eJ] at hx
   obtain⟨y,hy,rfl⟩:=List.mem_map.mp hx
   rcases List.mem_cons.mp hy with rfl|hy
   ·exact hr.pd.mono (by omega)
   ·obtain⟨z,hz,hfz⟩:=hfl.2.2.mem y hy
    exact(hfz.sm (N:=n+m) (aBL hu (terms r) hr.tm z hz)).pd.mono (by omega)
  have hl1l:l1<st1.length:=(List.getElem?_eq_some_iff.mp hc1).1
  have hc1':=e2 _ _ hc1
  have hne:=xA hc2 hc1' hpd hpd
  have hrev:=wY hc2
  have hs3:=fD (c:=.l (enDs (r::tr t u r)).reverse) hc2
  have hc3:=bO (c':=.l (enDs (r::tr t u r)).reverse) hc1' (show l1≠l2 by omega)
  have hkp3:Kp l2 st2 (st2.set l2 (.l (enDs (r::tr t u r)).reverse)):=(Kp.refl _ _).set
  generalize st2.set l2 (.l (enDs (r::tr t u r)).reverse)=st3 at hrev hs3 hc3 hkp3
  have hcn:=pE t r
  have hgl:=(vP t u r).len
  have happ:=gQ (y:=enD r) hs3 (by rw[sizeLine_eq];simp[cK];omega)
  have hs4:=fD (c:=.l ((enDs (r::tr t u r)).reverse++[enD r])) hs3
  have hc4:=bO (c':=.l ((enDs (r::tr t u r)).reverse++[enD r])) hc3 (show l1≠l2 by omega)
  have hkp4:Kp l2 st2 (st3.set l2 (.l ((enDs (r::tr t u r)).reverse++[enD r]))):=hkp3.set
  generalize st3.set l2 (.l ((enDs (r::tr t u r)).reverse++[enD r]))=st4 at happ hs4 hc4 hkp4
  obtain⟨l5,st5,h5,e5,hl5,hc5⟩:=aBI (st:=st4) hr.wf ht.wf hu.wf (show sz r≤10000000 by omega)
  have heq:=aFu hc5 (e5 _ _ hc4) hpd hpd
  rw[decide_eq_true rfl] at heq hne
  refine⟨st5,?_,?_⟩
  ·have hin:isinstD [.r l2, .ty "list"] st2=some (.b true,st2):=by
    have htn:tyName st2 (.r l2)=some "list":=by
     unfold tyName
     dsimp only
     rw[hc2]
    unfold isinstD
    dsimp only
    rw[if_pos htn]
   simp[fK,jZ,he,h1,h2,hin,hne,fQ hc2,hrev,fQ hs3,happ,h5,heq]
  ·intro j c q
   have:=(List.getElem?_eq_some_iff.mp (e1 _ _ q)).1
   exact e5 _ _ (hkp4 j c (by omega) (e2 _ _ (e1 _ _ q)))
end
end K61
end
section
namespace K61
open PySem L2 PyProof.Rows
theorem jD{c:Sto→Prop}{bd:D→Sto→Option (List D)}{tc:En→M Bool}{te:En→M D}{cap:En}{I:Sto→Prop}{P:D→Prop}:∀ (xs acc:List D) (st:Sto),
  (∀ x∈xs,∀ st,I st→∃ ds b,bd x st=some ds∧tc (ds.map some++cap) st=some (b,st)∧(b=true→∃ z st',te (ds.map some++cap) st=some (z,st')∧P z∧I st'))→(∀ st,I st→c st)→I st→
  ∃ zs st',compD c bd tc te cap xs acc st=some (acc++zs,st')∧I st'∧(∀ z∈zs,P z)∧zs.length≤xs.length
 |[],acc,st,_,hc,hI=>⟨[],st,by rw[compD,iM (hc st hI)];simp,hI,by simp,Nat.le_refl _⟩
 |x::xs,acc,st,h,hc,hI=>by
  obtain⟨ds,b,h1,h2,h3⟩:=h x (by simp) st hI
  cases b with
  |false=>
   obtain⟨zs,st',g1,g2,g3,g4⟩:=jD xs acc st (fun y hy=>h y (List.mem_cons_of_mem _ hy)) hc hI
   refine⟨zs,st',?_,g2,g3,by simp;omega⟩
   rw[compD,iM (hc st hI),h1]
   dsimp only
   rw[fW h2,if_neg (by decide)]
   exact g1
  |true=>
   obtain⟨z,st1,h4,h5,h6⟩:=h3 rfl
   obtain⟨zs,st',g1,g2,g3,g4⟩:=jD xs (acc++[z]) st1 (fun y hy=>h y (List.mem_cons_of_mem _ hy)) hc h6
   refine⟨z::zs,st',?_,g2,fun w hw=>?_,by simp;omega⟩
   ·rw[compD,iM (hc st hI),h1]
    dsimp only
    rw[fW h2,if_pos rfl,fW h4,g1]
    simp
   ·rcases List.mem_cons.mp hw with rfl|hw
    ·exact h5
    ·exact g3 w hw
theorem kH{c:Sto→Prop}{te:En→M D}{cap:En}{I:Sto→Prop}{P:D→Prop}:∀ (xs acc:List D) (st:Sto),
  (∀ x∈xs,∀ st,I st→∃ z st',te (some x::cap) st=some (z,st')∧P z∧I st')→(∀ st,I st→c st)→I st→
  ∃ zs st',compD c bd1 (fun _=>L2.ret true) te cap xs acc st=some (acc++zs,st')∧I st'∧(∀ z∈zs,P z)∧zs.length=xs.length
 |[],acc,st,_,hc,hI=>⟨[],st,by rw[compD,iM (hc st hI)];simp,hI,by simp,rfl⟩
 |x::xs,acc,st,h,hc,hI=>by
  obtain⟨z,st1,h4,h5,h6⟩:=h x (by simp) st hI
  obtain⟨zs,st',g1,g2,g3,g4⟩:=kH xs (acc++[z]) st1 (fun y hy=>h y (List.mem_cons_of_mem _ hy)) hc h6
  refine⟨z::zs,st',?_,g2,fun w hw=>?_,by simp[g4]⟩
  ·rw[compD,iM (hc st hI)]
   simp only[bd1,aI,aM,aG,if_pos]
   show b3 (te (some x::cap) st) _=_
   rw[h4,aG,g1]
   simp
  ·rcases List.mem_cons.mp hw with rfl|hw
   ·exact h5
   ·exact g3 w hw
def Sd(p:Nat)(st:Sto):Prop:=∃ a b:Int,st[p]?=some (.l [.i a, .i b])∧0≤a∧a<2305843009213693951
structure Av (p:Nat) (st0 st:Sto):Prop where
 sd:Sd p st
 kp:Kp p st0 st
theorem Av.refl{p:Nat}{st:Sto}(h:Sd p st):Av p st st:=⟨h,Kp.refl _ _⟩
theorem Av.trans{p:Nat}{a b c:Sto}(h:Av p a b)(h':Av p b c):Av p a c:=⟨h'.sd,h.kp.trans h'.kp⟩
theorem Av.ext{p:Nat}{a b c:Sto}(h:Av p a b)(e:Ext b c):Av p a c:=⟨by obtain⟨x,y,q,r⟩:=h.sd;exact⟨x,y,e _ _ q,r⟩,h.kp.trans (Kp.of e)⟩
theorem Av.len{p:Nat}{a b:Sto}(h:Av p a b)(hp:p<a.length):a.length≤b.length:=by
 obtain⟨x,y,q,_⟩:=h.sd
 have hb:=(List.getElem?_eq_some_iff.mp q).1
 cases hl:a.length with
 |zero=>exact Nat.zero_le _
 |succ n=>
  by_cases hn:n=p
  ·omega
  ·have hlt:n<a.length:=by omega
   have:=(List.getElem?_eq_some_iff.mp (h.kp n a[n] hn (by simp[hlt]))).1
   omega
section
variable{st:Sto}{p:Nat}
theorem fN{n:Nat}(h:Sd p st)(hn:0<n)(hn2:n<1000000):∃ (d:Nat) (st':Sto),aF [.r p, .i (n:Nat)] st=some (.i (d:Nat),st')∧d<n∧Av p st st':=by
 obtain⟨a,b,hs,h0,h1⟩:=h
 have hcd:CDiv b (n:Nat):=⟨by omega,by omega⟩
 have hn':(0:Int) < (n:Nat):=by omega
 by_cases hb:0<b
 ·have hsd:setD (.r p) (.i 1) (.i (b / (n:Nat))) st=some ((),st.set p (.l [.i a, .i (b / (n:Nat))])):=qY (n:=1) hs (by simp)
  have hd0:=Int.emod_nonneg b (show((n:Nat):Int)≠0 by omega)
  have hd1:=Int.emod_lt_of_pos b hn'
  obtain⟨d,hd⟩:∃ d:Nat,b % ((n:Nat):Int)=(d:Nat):=⟨(b % ((n:Nat):Int)).toNat,by omega⟩
  refine⟨d,st.set p (.l [.i a, .i (b / (n:Nat))]),?_,by omega,⟨⟨a,_,fD hs,h0,h1⟩,(Kp.refl _ _).set⟩⟩
  rw[← hd]
  simp[aF,kO,fF hs,hb,hcd,hsd]
 ·have hm:CMul a 6364136223846793:=.inl ⟨by omega,by omega⟩
  generalize hv:(a * 6364136223846793+1442695040888963) % 2305843009213693951=v
  have hv0:0≤v:=by rw[← hv];exact Int.emod_nonneg _ (by decide)
  have hv1:v<2305843009213693951:=by rw[← hv];exact Int.emod_lt_of_pos _ (by decide)
  have hsd:setD (.r p) (.i 0) (.i v) st=some ((),st.set p (.l [.i v, .i b])):=qY (n:=0) hs (by simp)
  have hs2:(st.set p (.l [.i v, .i b]))[p]?=some (.l [.i v, .i b]):=fD hs
  have hk:Kp p st (st.set p (.l [.i v, .i b])):=(Kp.refl _ _).set
  generalize st.set p (.l [.i v, .i b])=st1 at hsd hs2 hk
  have hd0:=Int.emod_nonneg (v / 65537) (show((n:Nat):Int)≠0 by omega)
  have hd1:=Int.emod_lt_of_pos (v / 65537) hn'
  obtain⟨d,hd⟩:∃ d:Nat,v / 65537 % ((n:Nat):Int)=(d:Nat):=⟨(v / 65537 % ((n:Nat):Int)).toNat,by omega⟩
  have hcv:CDiv v 65537:=⟨by decide,by decide⟩
  refine⟨d,st1,?_,by omega,⟨⟨v,b,hs2,hv0,hv1⟩,hk⟩⟩
  rw[← hd]
  simp[aF,kO,fF hs,hb,hm,hv,hsd,fF hs2,hcv,hn',hn]
def KsOk(a b c:Str)(ks:List Str):Prop:=ks.length≤4∧∀ k∈ks,k=a∨k=b∨k=c
def FmOk(a b c:Str)(x:D):Prop:=∃ n ks,x=.t [.s n, .t (ks.map D.s)]∧KsOk a b c ks
def ClOk(a b c:Str)(x:D):Prop:=∃ n ks k,x=.t [.s n, .t (ks.map D.s), .s k]∧KsOk a b c ks
structure Bk (p:Nat) (a b c:Str) (bk:D) (st:Sto):Prop where
 ex:∃ (R F Z K G W Lb Lc:Nat) (fb fc cl:List D) (f0:Str) (n1 n2:Str) (k2:List Str),bk=.t [.r R, .r F, .r Z, .r K, .r G, .r W]∧F≠p∧Z≠p∧K≠p∧Lb≠p∧Lc≠p∧
  st[F]?=some (.d [(.inr b, .r Lb),(.inr c, .r Lc)])∧st[Lb]?=some (.l (.t [.s n1, .t []]::fb))∧st[Lc]?=some (.l (.t [.s n2, .t (k2.map D.s)]::fc))∧st[Z]?=some (.l (.t [.s f0, .t [], .s a]::cl))∧st[K]?=some (.l [.s a, .s b, .s c])∧
  (∀ x∈fb,FmOk a b c x)∧(∀ x∈fc,FmOk a b c x)∧(∀ x∈cl,ClOk a b c x)∧(k2=[]∨k2=[a,b])∧fb.length≤10∧fc.length≤10∧cl.length≤30
 ne:b≠c
theorem Bk.kp{a b c:Str}{bk:D}{st st':Sto}(h:Bk p a b c bk st)(k:Kp p st st'):Bk p a b c bk st':=by
 obtain⟨R,F,Z,K,G,W,Lb,Lc,fb,fc,cl,f0,n1,n2,k2,e,n3,n4,n5,n6,n7,h1,h2,h3,h4,h5,h6⟩:=h.ex
 exact⟨⟨R,F,Z,K,G,W,Lb,Lc,fb,fc,cl,f0,n1,n2,k2,e,n3,n4,n5,n6,n7,k _ _ n3 h1,k _ _ n6 h2,k _ _ n7 h3,k _ _ n4 h4,k _ _ n5 h5,h6⟩,h.ne⟩
theorem vT{b c:Str}{x y:D}:valD [(Sum.inr b,x),(Sum.inr c,y)] (Sum.inr b)=some x:=by simp[valD]
theorem sY{b c:Str}{x y:D}(h:b≠c):valD [(Sum.inr b,x),(Sum.inr c,y)] (Sum.inr c)=some y:=by
 have:¬ (Sum.inr b:Key)=Sum.inr c:=fun z=>h (by injection z)
 simp[valD,List.find?_cons,this]
theorem aGr{a b c:Str}{x y:D}(h:a≠b)(h2:a≠c):valD [(Sum.inr b,x),(Sum.inr c,y)] (Sum.inr a)=none:=by
 have h3:¬ (Sum.inr b:Key)=Sum.inr a:=fun z=>h (by injection z with z;exact z.symm)
 have h4:¬ (Sum.inr c:Key)=Sum.inr a:=fun z=>h2 (by injection z with z;exact z.symm)
 simp[valD,List.find?_cons,h3,h4]
def TmD(n s:Nat)(d:D):Prop:=∃ r,d=enD r∧Tm n r∧sz r≤s
theorem TmD.mono{n s n' s':Nat}{d:D}(h:TmD n s d)(h1:n≤n')(h2:s≤s'):TmD n' s' d:=by
 obtain⟨r,e,t,q⟩:=h
 exact⟨r,e,t.mono h1,by omega⟩
theorem xE{n s:Nat}:∀ {zs:List D},(∀ z∈zs,TmD n s z)→∃ ps:List RT,zs=enDs ps∧(∀ p∈ps,Tm n p)∧szs ps≤zs.length * s
 |[],_=>⟨[],rfl,by simp,by simp[szs]⟩
 |z::zs,h=>by
  obtain⟨r,rfl,t,q⟩:=h z (by simp)
  obtain⟨ps,rfl,h1,h2⟩:=xE fun y hy=>h y (List.mem_cons_of_mem _ hy)
  refine⟨r::ps,by rw[enDs],fun x hx=>?_,?_⟩
  ·rcases List.mem_cons.mp hx with rfl|hx
   ·exact t
   ·exact h1 x hx
  ·rw[szs,List.length_cons,Nat.add_mul];omega
theorem rE{w x:Str}{n s k:Nat}{zs:List D}(hw:w="form"∨w="call")(h:∀ z∈zs,TmD n s z)(hk:zs.length≤k):TmD (n+1) (1+k * s) (.t [.s w, .s x, .t zs]):=by
 obtain⟨ps,rfl,h1,h2⟩:=xE h
 refine⟨.mk w (.s x) ps,(fL (pF hw)).symm, .app hw h1,?_⟩
 rw[sz]
 have:=Nat.mul_le_mul_right s hk
 omega
theorem aDp{a b c:Str}{bk:D}(h:Bk p a b c bk st)(sd:Sd p st){k:Str}(hk:k=a∨k=b∨k=c):∃ z st',dJ 4 [bk, .s k] st=some (z,st')∧TmD 2 3 z∧Av p st st':=by
 have hA:∀ (n:Nat) (st:Sto),Bk p a b c bk st→Sd p st→∃ z st',dJ (n+1) [bk, .s a] st=some (z,st')∧TmD 1 1 z∧Av p st st':=by
  intro n st h sd
  obtain⟨R,F,Z,K,G,W,Lb,Lc,fb,fc,cl,f0,n1,n2,k2,rfl,n3,n4,n5,n6,n7,h1,h2,h3,h4,h5,h6⟩:=h.ex
  refine⟨.t [.s "call", .s f0, .t []],st,?_,rE (k:=0) (s:=0) (n:=0) (.inr rfl) (by simp) (by simp), .refl sd⟩
  rw[dJ]
  simp[iY,fF h5,fF h4,sizeLine_eq]
 have hB:∀ (n:Nat) (st:Sto),Bk p a b c bk st→Sd p st→∃ z st',dJ (n+1) [bk, .s b] st=some (z,st')∧TmD 1 1 z∧Av p st st':=by
  intro n st h sd
  by_cases hba:b=a
  ·rw[hba]
   rw[hba] at h
   obtain⟨z,st',g1,g2,g3⟩:=by
    have:=hA n st
    rw[hba] at this
    exact this h sd
   exact⟨z,st',g1,g2,g3⟩
  obtain⟨R,F,Z,K,G,W,Lb,Lc,fb,fc,cl,f0,n1,n2,k2,rfl,n3,n4,n5,n6,n7,h1,h2,h3,h4,h5,h6⟩:=h.ex
  have hx:ixD (.r F) (.s b) st=some (.r Lb,st):=pN h1 rfl vT
  have hco:eCo [0] (iS (eV 3)) bd1 ((fun _=>L2.ret true)) (eCl (dJ n) (aC (eV 1) (aC (eV 0) (aN)))) [some (.t [.r R, .r F, .r Z, .r K, .r G, .r W]),some (.s b),some (.s n1),some (.t [])] st=some (.r st.length,st++[C.l []]):=by
   simp[sizeLine_eq]
   rw[compD]
   simp
  have ht:=iO (aU st (C.l []))
  refine⟨.t [.s "form", .s n1, .t []],st++[C.l []],?_,rE (k:=0) (s:=0) (n:=0) (.inl rfl) (by simp) (by simp),(Av.refl sd).ext (Ext.app _ _)⟩
  rw[dJ]
  simp[-fI,iY,fF h5,hx,fF h2,sizeLine_eq,hco,ht,beqS,hba]
 rcases hk with rfl|rfl|rfl
 ·obtain⟨z,st',g1,g2,g3⟩:=hA 3 st h sd
  exact⟨z,st',g1,g2.mono (by omega) (by omega),g3⟩
 ·obtain⟨z,st',g1,g2,g3⟩:=hB 3 st h sd
  exact⟨z,st',g1,g2.mono (by omega) (by omega),g3⟩
 ·by_cases hca:k=a
  ·rw[hca] at h hA ⊢
   obtain⟨z,st',g1,g2,g3⟩:=hA 3 st h sd
   exact⟨z,st',g1,g2.mono (by omega) (by omega),g3⟩
  have hbk:=h
  obtain⟨R,F,Z,K,G,W,Lb,Lc,fb,fc,cl,f0,n1,n2,k2,rfl,n3,n4,n5,n6,n7,h1,h2,h3,h4,h5,h6,h7,h8,hk2,h9⟩:=h.ex
  have hx:ixD (.r F) (.s k) st=some (.r Lc,st):=pN h1 rfl (sY h.ne)
  have hlt:(k2.map D.s).length<sizeLine:=by rw[sizeLine_eq];rcases hk2 with rfl|rfl<;>simp
  obtain⟨zs,st1,g1,g2,g3,g4⟩:=kH (c:=fun _=>True) (te:=eCl (dJ 3) (aC (eV 1) (aC (eV 0) (aN)))) (cap:=[some (.t [.r R, .r F, .r Z, .r K, .r G, .r W])]) (I:=fun s=>Av p st s) (P:=TmD 1 1) (k2.map D.s) [] st (by
   intro x hx s hs
   have hbs:=hbk.kp hs.kp
   rcases hk2 with rfl|rfl
   ·cases hx
   ·simp at hx
    rcases hx with rfl|rfl
    ·obtain⟨z,s',q1,q2,q3⟩:=hA 2 s hbs hs.sd
     exact⟨z,s',by simp[q1],q2,hs.trans q3⟩
    ·obtain⟨z,s',q1,q2,q3⟩:=hB 2 s hbs hs.sd
     exact⟨z,s',by simp[q1],q2,hs.trans q3⟩) (fun _ _=>trivial) (.refl sd)
  have hzl:zs.length≤2:=by rw[g4];rcases hk2 with rfl|rfl<;>simp
  have hco:eCo [0] (iS (eV 3)) bd1 ((fun _=>L2.ret true)) (eCl (dJ 3) (aC (eV 1) (aC (eV 0) (aN)))) [some (.t [.r R, .r F, .r Z, .r K, .r G, .r W]),some (.s k),some (.s n2),some (.t (k2.map D.s))] st=some (.r st1.length,st1++[C.l zs]):=by
   simp only[fI,cB,eU,aG,dC,aO,aX hlt,aI]
   rw[show capD [0] [some (D.t [.r R, .r F, .r Z, .r K, .r G, .r W]),some (.s k),some (.s n2),some (.t (k2.map D.s))]=[some (.t [.r R, .r F, .r Z, .r K, .r G, .r W])] from rfl,g1]
   simp
  have ht:=iO (aU st1 (C.l zs))
  refine⟨.t [.s "form", .s n2, .t zs],st1++[C.l zs],?_,(rE (k:=2) (.inl rfl) g3 hzl).mono (by omega) (by omega),g2.ext (Ext.app _ _)⟩
  rw[dJ]
  simp[-fI,iY,fF h5,hx,fF h3,sizeLine_eq,hco,ht,beqS,hca]
end
end K61
end
section
namespace K61
open PySem L2 PyProof.Rows
section
variable{st:Sto}{p:Nat}
theorem pP{n:Nat}{xs:List D}(h:xs.length=n):bdT n (.t xs) st=some xs:=by
 unfold bdT seqOf
 dsimp only
 rw[if_pos h]
theorem aDq{l:Nat}{xs:List D}(h:st[l]?=some (.l xs)):enumD [.r l] st=some ((enumL xs,fun st=>st[l]?=some (.l xs)),st):=by
 show bnd (getL l) _ st=_
 rw[fW (jY h)]
 rfl
theorem sZ{c:Sto→Prop}{bd:D→Sto→Option (List D)}{tc:En→M Bool}{te:En→M D}{cap:En}{x z:D}{xs acc ds:List D}(hc:c st)(h1:bd x st=some ds)(h2:tc (ds.map some++cap) st=some (true,st))(h3:te (ds.map some++cap) st=some (z,st)):
  compD c bd tc te cap (x::xs) acc st=compD c bd tc te cap xs (acc++[z]) st:=by
 rw[compD,iM hc,h1]
 dsimp only
 rw[fW h2,if_pos rfl,fW h3]
theorem leafF(x:Str):TmD 0 1 (.t [.s "free", .s x]):=⟨.mk "free" (.s x) [],(gR x).symm, .free _ _,by simp[sz,szs]⟩
theorem leafB(n:Int):TmD 0 1 (.t [.s "bound", .i n]):=⟨.mk "bound" (.i n) [],(iT n).symm, .bound _ _,by simp[sz,szs]⟩
structure Ar (p:Nat) (a b c:Str) (bk:D) (T I:Nat) (own:D) (st:Sto):Prop where
 bk:Bk p a b c bk st
 th:T≠p∧∃ ths,st[T]?=some (.l ths)∧ths.length≤100∧∀ x∈ths,∃ n k,x=.t [.s n, .s k]
 inn:I≠p∧∃ ins,st[I]?=some (.l ins)∧ins.length≤100∧∀ x∈ins,∃ k,x=.s k
 own:own=.no∨∃ f ks kk O os,own=.t [.s f, .t (ks.map D.s), .s kk, .r O]∧O≠p∧st[O]?=some (.l os)∧os.length≤100∧(∀ x∈os,∃ n:Int,x=.i n)∧KsOk a b c ks
theorem Ar.kp{a b c:Str}{bk own:D}{T I:Nat}{st st':Sto}(h:Ar p a b c bk T I own st)(k:Kp p st st'):Ar p a b c bk T I own st':=by
 obtain⟨hT,ths,h1,h2⟩:=h.th
 obtain⟨hI,ins,h3,h4⟩:=h.inn
 refine⟨h.bk.kp k,⟨hT,ths,k _ _ hT h1,h2⟩,⟨hI,ins,k _ _ hI h3,h4⟩,?_⟩
 rcases h.own with h|⟨f,ks,kk,O,os,e,hO,h5,h6⟩
 ·exact .inl h
 ·exact .inr ⟨f,ks,kk,O,os,e,hO,k _ _ hO h5,h6⟩
noncomputable abbrev tmF:En→M D:=eCo [2] (iS (eV 3)) (bdT 2) (tCm eqD (eV 1) (eV 2)) (eT (aC (eC (.s "free")) (aC (eV 0) (aN))))
noncomputable abbrev tmB:En→M D:=eCo [2] (iEn (aC (eV 4) (aN))) (bdT 2) (tCm eqD (eV 1) (eV 2)) (eT (aC (eC (.s "bound")) (aC (eV 0) (aN))))
theorem aFB{k:Str}{T:Nat}{o0 o1:Option D}{E:En}{ths:List D}(h1:st[T]?=some (.l ths))(h2:ths.length≤100)(h3:∀ x∈ths,∃ n k,x=.t [.s n, .s k]):
  ∃ zs,tmF (o0::o1::some (.s k)::some (.r T)::E) st=some (.r st.length,st++[C.l zs])∧(∀ z∈zs,TmD 0 1 z)∧zs.length≤100:=by
 obtain⟨zs,st',g1,g2,g3,g4⟩:=jD (c:=fun s=>s[T]?=some (.l ths)) (bd:=bdT 2) (tc:=tCm eqD (eV 1) (eV 2)) (te:=eT (aC (eC (.s "free")) (aC (eV 0) (aN)))) (cap:=[some (.s k)]) (I:=fun s=>s=st) (P:=TmD 0 1) ths [] st (by
  rintro x hx s rfl
  obtain⟨n,kk,rfl⟩:=h3 x hx
  refine⟨[.s n, .s kk],kk==k,pP rfl,by simp,fun _=>⟨_,s,?_,leafF n,rfl⟩⟩
  simp[sizeLine_eq]) (fun s hs=>by rw[hs];exact h1) rfl
 subst g2
 have hlt:ths.length<sizeLine:=by rw[sizeLine_eq];omega
 refine⟨zs,?_,g3,by omega⟩
 simp only[fI,cB,eU,aG,jX h1,aO,aX hlt,aI]
 rw[show capD [2] (o0::o1::some (.s k)::some (.r T)::E)=[some (.s k)] from rfl,g1]
 simp
theorem aDr{k:Str}{I:Nat}{o0 o1 o3:Option D}{E:En}{ins:List D}(h1:st[I]?=some (.l ins))(h2:ins.length≤100)(h3:∀ x∈ins,∃ k,x=.s k):
  ∃ zs,tmB (o0::o1::some (.s k)::o3::some (.r I)::E) st=some (.r st.length,st++[C.l zs])∧(∀ z∈zs,TmD 0 1 z)∧zs.length≤100:=by
 obtain⟨zs,st',g1,g2,g3,g4⟩:=jD (c:=fun s=>s[I]?=some (.l ins)) (bd:=bdT 2) (tc:=tCm eqD (eV 1) (eV 2)) (te:=eT (aC (eC (.s "bound")) (aC (eV 0) (aN)))) (cap:=[some (.s k)]) (I:=fun s=>s=st) (P:=TmD 0 1) (enumL ins) [] st (by
  rintro x hx s rfl
  obtain⟨i,hi⟩:=List.getElem?_of_mem hx
  obtain⟨y,hy,rfl⟩:=nZ hi
  obtain⟨kk,rfl⟩:=h3 y (List.mem_of_getElem? hy)
  refine⟨[.i (i:Nat), .s kk],kk==k,pP rfl,by simp,fun _=>⟨_,s,?_,leafB i,rfl⟩⟩
  simp[sizeLine_eq]) (fun s hs=>by rw[hs];exact h1) rfl
 subst g2
 have hel:(enumL ins).length=ins.length:=by simp[enumL]
 have hlt:(enumL ins).length<sizeLine:=by rw[sizeLine_eq];omega
 refine⟨zs,?_,g3,by omega⟩
 simp only[fI,aBu,bD,fH,aG,aI,aZ,aM,aDq h1,aO,aX hlt]
 rw[show capD [2] (o0::o1::some (.s k)::o3::some (.r I)::E)=[some (.s k)] from rfl,g1]
 simp
def WyOk(a b c:Str)(x:D):Prop:=∃ w n ks,x=.t [.s w, .s n, .t (ks.map D.s)]∧(w="form"∨w="call")∧KsOk a b c ks
noncomputable abbrev tmW1:En→M D:=eCo [] (iS (eG2 (eIx (eV 1) (eC (.i (1)))) (eV 2) (eL (aN)))) (bdT 2) ((fun _=>ret true)) (eT (aC (eC (.s "form")) (aC (eV 0) (aC (eV 1) (aN)))))
noncomputable abbrev tmW2:En→M D:=eCo [2] (iS (eIx (eV 1) (eC (.i (2))))) (bdT 3) (tCm eqD (eV 2) (eV 3)) (eT (aC (eC (.s "call")) (aC (eV 0) (aC (eV 1) (aN)))))
theorem aDs{a b c k:Str}{bk:D}{o0:Option D}{E:En}(h:Bk p a b c bk st)(hk:k=a∨k=b∨k=c):
  ∃ l zs st',tmW1 (o0::some bk::some (.s k)::E) st=some (.r l,st')∧Ext st st'∧st.length≤l∧st'[l]?=some (.l zs)∧(∀ z∈zs,WyOk a b c z)∧zs.length≤20∧(k=b∨k=c→zs≠[]):=by
 obtain⟨R,F,Z,K,G,W,Lb,Lc,fb,fc,cl,f0,n1,n2,k2,rfl,e3,e4,e5,e6,e7,h1,h2,h3,h4,h5,h6,h7,h8,hk2,l1,l2,l3⟩:=h.ex
 have hg:∀ (L:Nat) (fs:List D),valD [(Sum.inr b,D.r Lb),(Sum.inr c,D.r Lc)] (Sum.inr k)=some (.r L)→st[L]?=some (.l fs)→(∀ x∈fs,FmOk a b c x)→fs.length≤11→fs≠[]→
   ∃ l zs st',tmW1 (o0::some (.t [.r R, .r F, .r Z, .r K, .r G, .r W])::some (.s k)::E) st=some (.r l,st')∧Ext st st'∧st.length≤l∧st'[l]?=some (.l zs)∧(∀ z∈zs,WyOk a b c z)∧zs.length≤20∧(k=b∨k=c→zs≠[]):=by
  intro L fs hv hL hfs hlen hne
  have e1:=Ext.app st [C.l []]
  have hF1:=e1 _ _ h1
  have hL1:=e1 _ _ hL
  have hget:get2D (.r F) (.s k) (.r st.length) (st++[C.l []])=some (.r L,st++[C.l []]):=by
   unfold get2D
   dsimp only
   rw[qQ hF1]
   simp only[keyD]
   rw[hv]
   rfl
  have hc:=aBw h1
  cases fs with
  |nil=>exact absurd rfl hne
  |cons f fs=>
   obtain⟨n,ks,rfl,hks⟩:=hfs f (by simp)
   have hhead:=sZ (st:=st++[C.l []]) (c:=fun s=>s[L]?=some (.l (.t [.s n, .t (ks.map D.s)]::fs))) (bd:=bdT 2) (tc:=fun _=>L2.ret true) (te:=eT (aC (eC (.s "form")) (aC (eV 0) (aC (eV 1) (aN))))) (cap:=[]) (x:=.t [.s n, .t (ks.map D.s)]) (xs:=fs) (acc:=[]) (ds:=[.s n, .t (ks.map D.s)]) (z:=.t [.s "form", .s n, .t (ks.map D.s)]) hL1 (pP rfl) rfl (by simp[sizeLine_eq])
   obtain⟨zs,st',g1,g2,g3,g4⟩:=jD (c:=fun s=>s[L]?=some (.l (.t [.s n, .t (ks.map D.s)]::fs))) (bd:=bdT 2) (tc:=fun _=>L2.ret true) (te:=eT (aC (eC (.s "form")) (aC (eV 0) (aC (eV 1) (aN))))) (cap:=[]) (I:=fun s=>s=st++[C.l []]) (P:=WyOk a b c) fs ([]++[.t [.s "form", .s n, .t (ks.map D.s)]]) (st++[C.l []]) (by
    rintro x hx s rfl
    obtain⟨n',ks',rfl,hks'⟩:=hfs x (List.mem_cons_of_mem _ hx)
    exact⟨[.s n', .t (ks'.map D.s)],true,pP rfl,rfl,fun _=>⟨_,_,by simp[sizeLine_eq],⟨"form",n',ks',rfl, .inl rfl,hks'⟩,rfl⟩⟩) (fun s hs=>by rw[hs];exact hL1) rfl
   subst g2
   rw[g1] at hhead
   have hlt:(D.t [.s n, .t (ks.map D.s)]::fs).length<sizeLine:=by rw[sizeLine_eq];omega
   refine⟨(st++[C.l []]).length, .t [.s "form", .s n, .t (ks.map D.s)]::zs,(st++[C.l []])++[C.l (.t [.s "form", .s n, .t (ks.map D.s)]::zs)],?_,e1.trans (Ext.app _ _),by simp,aU _ _,?_,by simp at hlen ⊢;omega,fun _=>by simp⟩
   ·have hl0:([]:List D).length≤sizeLine:=by rw[sizeLine_eq];simp
    have hG:eG2 (eIx (eV 1) (eC (.i (1)))) (eV 2) (eL (aN)) (o0::some (.t [.r R, .r F, .r Z, .r K, .r G, .r W])::some (.s k)::E) st=some (.r L,st++[C.l []]):=by
     show bnd (eIx (eV 1) (eC (.i (1))) _) _ st=_
     simp only[aI,bE,eI,aG,bK,cR,dA,cH,hc,fA,cW,aZ,bA,aX hl0,aS,hget]
    simp only[fI,cB,hG,aG,jX hL1,aO,aX hlt,aI]
    rw[show capD [] (o0::some (.t [.r R, .r F, .r Z, .r K, .r G, .r W])::some (.s k)::E)=[] from rfl,hhead]
    simp
   ·intro z hz
    rcases List.mem_cons.mp hz with rfl|hz
    ·exact⟨"form",n,ks,rfl, .inl rfl,hks⟩
    ·exact g3 z hz
 have fmb:∀ x∈D.t [.s n1, .t []]::fb,FmOk a b c x:=by
  intro x hx
  rcases List.mem_cons.mp hx with rfl|hx
  ·exact⟨n1,[],rfl,by simp,by simp⟩
  ·exact h6 x hx
 have fmc:∀ x∈D.t [.s n2, .t (k2.map D.s)]::fc,FmOk a b c x:=by
  intro x hx
  rcases List.mem_cons.mp hx with rfl|hx
  ·refine⟨n2,k2,rfl,?_,?_⟩
   ·rcases hk2 with rfl|rfl<;>simp
   ·rcases hk2 with rfl|rfl
    ·simp
    ·intro y hy;simp at hy;rcases hy with rfl|rfl<;>simp
  ·exact h7 x hx
 by_cases hb:k=b
 ·subst hb;exact hg Lb _ vT h2 fmb (by simp;omega) (by simp)
 ·by_cases hc':k=c
  ·subst hc';exact hg Lc _ (sY h.ne) h3 fmc (by simp;omega) (by simp)
  ·
   have e1:=Ext.app st [C.l []]
   have hF1:=e1 _ _ h1
   have hnew:=aU st (C.l [])
   have hget:get2D (.r F) (.s k) (.r st.length) (st++[C.l []])=some (.r st.length,st++[C.l []]):=by
    unfold get2D
    dsimp only
    rw[qQ hF1]
    simp only[keyD]
    rw[aGr hb hc']
    rfl
   have hc:=aBw h1
   refine⟨(st++[C.l []]).length,[],(st++[C.l []])++[C.l []],?_,e1.trans (Ext.app _ _),by simp,aU _ _,by simp,by simp,fun z=>?_⟩
   ·have hl0:([]:List D).length≤sizeLine:=by rw[sizeLine_eq];simp
    have hl1:([]:List D).length<sizeLine:=by rw[sizeLine_eq];simp
    have hG:eG2 (eIx (eV 1) (eC (.i (1)))) (eV 2) (eL (aN)) (o0::some (.t [.r R, .r F, .r Z, .r K, .r G, .r W])::some (.s k)::E) st=some (.r st.length,st++[C.l []]):=by
     show bnd (eIx (eV 1) (eC (.i (1))) _) _ st=_
     simp only[aI,bE,eI,aG,bK,cR,dA,cH,hc,fA,cW,aZ,bA,aX hl0,aS,hget]
    simp only[fI,cB,hG,aG,jX hnew,aO,aX hl1,aI]
    rw[compD,iM hnew]
    simp
   ·rcases z with z|z
    ·exact absurd z hb
    ·exact absurd z hc'
theorem aDt{a b c k:Str}{bk:D}{o0:Option D}{E:En}(h:Bk p a b c bk st):
  ∃ zs,tmW2 (o0::some bk::some (.s k)::E) st=some (.r st.length,st++[C.l zs])∧(∀ z∈zs,WyOk a b c z)∧zs.length≤40∧(k=a→zs≠[]):=by
 obtain⟨R,F,Z,K,G,W,Lb,Lc,fb,fc,cl,f0,n1,n2,k2,rfl,e3,e4,e5,e6,e7,h1,h2,h3,h4,h5,h6,h7,h8,hk2,l1,l2,l3⟩:=h.ex
 have step:∀ x∈D.t [.s f0, .t [], .s a]::cl,∃ n ks kk,x=.t [.s n, .t (ks.map D.s), .s kk]∧KsOk a b c ks:=by
  intro x hx
  rcases List.mem_cons.mp hx with rfl|hx
  ·exact⟨f0,[],a,rfl,by simp,by simp⟩
  ·exact h8 x hx
 have hturn:∀ x∈D.t [.s f0, .t [], .s a]::cl,∀ s,s=st→∃ ds bb,bdT 3 x s=some ds∧(tCm eqD (eV 2) (eV 3)) (ds.map some++[some (.s k)]) s=some (bb,s)∧(bb=true→∃ z s',(eT (aC (eC (.s "call")) (aC (eV 0) (aC (eV 1) (aN))))) (ds.map some++[some (.s k)]) s=some (z,s')∧WyOk a b c z∧s'=st):=by
  rintro x hx s rfl
  obtain⟨n,ks,kk,rfl,hks⟩:=step x hx
  exact⟨[.s n, .t (ks.map D.s), .s kk],kk==k,pP rfl,by simp,fun _=>⟨_,s,by simp[sizeLine_eq],⟨"call",n,ks,rfl, .inr rfl,hks⟩,rfl⟩⟩
 have hlt:(D.t [.s f0, .t [], .s a]::cl).length<sizeLine:=by rw[sizeLine_eq];simp;omega
 have fin:∀ zs,compD (fun s=>s[Z]?=some (.l (.t [.s f0, .t [], .s a]::cl))) (bdT 3) (tCm eqD (eV 2) (eV 3)) (eT (aC (eC (.s "call")) (aC (eV 0) (aC (eV 1) (aN))))) [some (.s k)] (.t [.s f0, .t [], .s a]::cl) [] st=some (zs,st)→tmW2 (o0::some (.t [.r R, .r F, .r Z, .r K, .r G, .r W])::some (.s k)::E) st=some (.r st.length,st++[C.l zs]):=by
  intro zs hz
  simp only[fI,cB,bE,eI,aG,aI,bK,cR,dF,cH,jX h4,aO,aX hlt]
  rw[show capD [2] (o0::some (.t [.r R, .r F, .r Z, .r K, .r G, .r W])::some (.s k)::E)=[some (.s k)] from rfl,hz]
  simp
 by_cases hka:k=a
 ·have hhead:=sZ (st:=st) (c:=fun s=>s[Z]?=some (.l (.t [.s f0, .t [], .s a]::cl))) (bd:=bdT 3) (tc:=tCm eqD (eV 2) (eV 3)) (te:=eT (aC (eC (.s "call")) (aC (eV 0) (aC (eV 1) (aN))))) (cap:=[some (.s k)]) (x:=.t [.s f0, .t [], .s a]) (xs:=cl) (acc:=[]) (ds:=[.s f0, .t [], .s a]) (z:=.t [.s "call", .s f0, .t []]) h4 (pP rfl) (by simp[hka]) (by simp[sizeLine_eq])
  obtain⟨zs,st',g1,g2,g3,g4⟩:=jD (c:=fun s=>s[Z]?=some (.l (.t [.s f0, .t [], .s a]::cl))) (bd:=bdT 3) (tc:=tCm eqD (eV 2) (eV 3)) (te:=eT (aC (eC (.s "call")) (aC (eV 0) (aC (eV 1) (aN))))) (cap:=[some (.s k)]) (I:=fun s=>s=st) (P:=WyOk a b c) cl ([]++[.t [.s "call", .s f0, .t []]]) st (fun x hx=>hturn x (List.mem_cons_of_mem _ hx)) (fun s hs=>by rw[hs];exact h4) rfl
  subst g2
  rw[g1] at hhead
  refine⟨_,fin _ hhead,fun z hz=>?_,by simp;omega,fun _=>by simp⟩
  simp at hz
  rcases hz with rfl|hz
  ·exact⟨"call",f0,[],rfl, .inr rfl,by simp,by simp⟩
  ·exact g3 z hz
 ·obtain⟨zs,st',g1,g2,g3,g4⟩:=jD (c:=fun s=>s[Z]?=some (.l (.t [.s f0, .t [], .s a]::cl))) (bd:=bdT 3) (tc:=tCm eqD (eV 2) (eV 3)) (te:=eT (aC (eC (.s "call")) (aC (eV 0) (aC (eV 1) (aN))))) (cap:=[some (.s k)]) (I:=fun s=>s=st) (P:=WyOk a b c) (.t [.s f0, .t [], .s a]::cl) [] st hturn (fun s hs=>by rw[hs];exact h4) rfl
  subst g2
  exact⟨_,fin _ g1,by simpa using g3,by simp at g4 ⊢;omega,fun z=>absurd z hka⟩
end
end K61
end
section
namespace K61
open PySem L2 PyProof.Rows
def tsz:Nat→Nat
 |0=>3
 |n+1=>1+4 * tsz n
theorem xF:∀ n,3≤tsz n
 |0=>Nat.le_refl _
 |n+1=>by rw[tsz];have:=xF n;omega
theorem TmD.pd{n s:Nat}{d:D}(h:TmD n s d)(hn:n≤29):Pd 59 d:=by
 obtain⟨r,rfl,t,_⟩:=h
 exact t.pd.mono (by omega)
theorem xG{α:Type}{xs:List α}{d:Nat}(h:d<xs.length):∃ x,atI xs ((d:Nat):Int)=some x∧x∈xs:=⟨xs[d],jL (by simp[h]),List.getElem_mem h⟩
section
variable{st:Sto}{p:Nat}
theorem Sd.lt{st:Sto}(h:Sd p st):p<st.length:=by
 obtain⟨a,b,q,_⟩:=h
 exact(List.getElem?_eq_some_iff.mp q).1
theorem Sd.ext{st st':Sto}(h:Sd p st)(e:Ext st st'):Sd p st':=by
 obtain⟨a,b,q,r⟩:=h
 exact⟨a,b,e _ _ q,r⟩
theorem pick{E:En}{l i:Nat}{L:List D}(sd:Sd p st)(hl:st[l]?=some (.l L))(hne:L≠[])(hlp:l≠p)(hL:L.length≤900000)(h0:∀ s,eV 0 E s=some (.r p,s))(hi:∀ s,eV i E s=some (.r l,s)):
  ∃ x st',eIx (eV i) (eCl (aF) (aC (eV 0) (aC (eCl lenD (aC (eV i) (aN))) (aN)))) E st=some (x,st')∧x∈L∧Av p st st':=by
 have hpos:0<L.length:=List.length_pos_iff.mpr hne
 obtain⟨d,st1,h1,h2,h3⟩:=fN (n:=L.length) sd hpos (by omega)
 obtain⟨x,h4,h5⟩:=xG h2
 refine⟨x,st1,?_,h5,h3⟩
 simp only[bE,hi,aG,aI,aV,bD,h0,qX hl,aZ,aM,h1,fF (h3.kp _ _ hlp hl),h4,cH]
noncomputable abbrev tmS(self:List D→M D)(it:En→M Its'):En→M D:=eCo [1,4,6,5,0,3] it bd1 ((fun _=>ret true)) (eCl self (aC (eV 5) (aC (eV 1) (aC (eV 0) (aC (eV 6) (aC (eV 2) (aC (eOp subD (eV 4) (eC (.i (1)))) (aC (eV 3) (aN)))))))))
theorem aBO{a b c:Str}{bk own:D}{T I m:Nat}{self:List D→M D}{E:En}{it:En→M Its'}{ks:List Str}(hA:Ar p a b c bk T I own st)(sd:Sd p st)(hks:KsOk a b c ks)
  (hself:∀ (k:Str) (s:Sto),(k=a∨k=b∨k=c)→Ar p a b c bk T I own s→Sd p s→∃ z s',self [.r p,bk, .s k, .r T, .r I, .i (m:Nat),own] s=some (z,s')∧TmD (m+2) (tsz m) z∧Av p s s')
  (hit:it E st=some ((ks.map D.s,fun _=>True),st))(hE:capD [1,4,6,5,0,3] E=[some bk,some (.r I),some own,some (.i ((m+1:Nat):Int)),some (.r p),some (.r T)]):
  ∃ zs st',tmS self it E st=some (.r st'.length,st'++[C.l zs])∧(∀ z∈zs,TmD (m+2) (tsz m) z)∧zs.length=ks.length∧Av p st st':=by
 obtain⟨zs,st1,g1,g2,g3,g4⟩:=kH (c:=fun _=>True) (te:=eCl self (aC (eV 5) (aC (eV 1) (aC (eV 0) (aC (eV 6) (aC (eV 2) (aC (eOp subD (eV 4) (eC (.i (1)))) (aC (eV 3) (aN))))))))) (cap:=[some bk,some (.r I),some own,some (.i ((m+1:Nat):Int)),some (.r p),some (.r T)]) (I:=fun s=>Av p st s) (P:=TmD (m+2) (tsz m)) (ks.map D.s) [] st (by
  intro x hx s hs
  obtain⟨k,hk,rfl⟩:=List.mem_map.mp hx
  obtain⟨z,s',q1,q2,q3⟩:=hself k s (hks.2 k hk) (hA.kp hs.kp) hs.sd
  refine⟨z,s',?_,q2,hs.trans q3⟩
  have e1:((m+1:Nat):Int) - 1=(m:Nat):=by omega
  simp only[aV,bD,fB,aG,aI,eI,eK,fP,fA,bC,fH,bK,cF,e1,eU,aZ,aM,q1]) (fun _ _=>trivial) (.refl sd)
 have hlt:(ks.map D.s).length<sizeLine:=by have:=hks.1;rw[sizeLine_eq];simp;omega
 refine⟨zs,st1,?_,g3,by rw[g4];simp,g2⟩
 simp only[fI,hit,aG,aO,aX hlt,aI,hE,g1]
 simp
noncomputable abbrev ownC:En→M Bool:=tAn (tCm isnotD (eV 6) (eC .no)) (tAn (tCm eqD (eIx (eV 6) (eC (.i (2)))) (eV 2)) (tAn (tCm neD (eIx (eV 6) (eC (.i (3)))) (eL (aN))) (tCm eqD (eV 8) (eC (.i (1))))))
theorem aBP{a b c k:Str}{bk own:D}{T I:Nat}{o0 o1 o3 o4 o5 o7:Option D}{E:En}{v:Int}(hA:Ar p a b c bk T I own st):
  ∃ cb st',ownC (o0::o1::some (.s k)::o3::o4::o5::some own::o7::some (.i v)::E) st=some (cb,st')∧Ext st st'∧(cb=true→∃ f ks kk O os,own=.t [.s f, .t (ks.map D.s), .s kk, .r O]∧O≠p∧st[O]?=some (.l os)∧os≠[]∧os.length≤100∧(∀ x∈os,∃ n:Int,x=.i n)∧KsOk a b c ks):=by
 rcases hA.own with rfl|⟨f,ks,kk,O,os,rfl,hO,h5,h6,h7,h8⟩
 ·exact⟨false,st,by simp[noB],Ext.refl _,by simp⟩
 ·by_cases hkk:kk=k
  ·have e1:=Ext.app st [C.l []]
   have hne:=xA (e1 _ _ h5) (aU st (C.l [])) (fun x hx=>by obtain⟨n,rfl⟩:=h7 x hx;exact .i _) (by simp)
   have hl0:([]:List D).length≤sizeLine:=by rw[sizeLine_eq];simp
   by_cases hos:os=[]
   ·refine⟨false,st++[C.l []],?_,e1,by simp⟩
    rw[decide_eq_true hos] at hne
    simp[noB,hkk,hne,sizeLine_eq]
   ·refine⟨v==1,st++[C.l []],?_,e1,fun _=>⟨f,ks,kk,O,os,rfl,hO,h5,hos,h6,h7,h8⟩⟩
    rw[decide_eq_false hos] at hne
    simp[noB,hkk,hne,sizeLine_eq]
  ·exact⟨false,st,by simp[noB,beqS,hkk],Ext.refl _,by simp⟩
theorem tB{a b c:Str}{bk own:D}{T I:Nat}{self:List D→M D}(room:Nat)(k:Str)(st:Sto)(hroom:room≤100)(hk:k=a∨k=b∨k=c)(hA:Ar p a b c bk T I own st)(sd:Sd p st)
  (hself:∀ m,room=m+1→∀ (k:Str) (s:Sto),(k=a∨k=b∨k=c)→Ar p a b c bk T I own s→Sd p s→∃ z s',self [.r p,bk, .s k, .r T, .r I, .i (m:Nat),own] s=some (z,s')∧TmD (m+2) (tsz m) z∧Av p s s'):
  ∃ z st',runF 15 7 (jS self) [.r p,bk, .s k, .r T, .r I, .i (room:Nat),own] st=some (z,st')∧TmD (room+2) (tsz room) z∧Av p st st':=by
 obtain⟨hT,ths,hT1,hT2,hT3⟩:=hA.th
 obtain⟨hI,ins,hI1,hI2,hI3⟩:=hA.inn
 have hts:=xF room
 have hplt:=sd.lt
 obtain⟨zs1,hF,hz1,hl1⟩:=aFB (k:=k) (o0:=some (.r p)) (o1:=some bk) (E:=[some (.r I),some (.i (room:Nat)),some own,none,none,none,none,none,none,none,none]) hT1 hT2 hT3
 have e1:=Ext.app st [C.l zs1]
 have hn1:=aU st (C.l zs1)
 have sd1:=sd.ext e1
 generalize st++[C.l zs1]=st1 at hF e1 hn1 sd1
 obtain⟨zs2,hB,hz2,hl2⟩:=aDr (st:=st1) (k:=k) (o0:=some (.r p)) (o1:=some bk) (o3:=some (.r T)) (E:=[some (.i (room:Nat)),some own,some (.r st.length),none,none,none,none,none,none,none]) (e1 _ _ hI1) hI2 hI3
 have e2:=Ext.app st1 [C.l zs2]
 have hn2:=aU st1 (C.l zs2)
 have hn1':=e2 _ _ hn1
 generalize hst2:st1++[C.l zs2]=st2 at hB e2 hn2 hn1'
 have hadd:=lR hn1' hn2 (by rw[sizeLine_eq];omega)
 have e3:=Ext.app st2 [C.l (zs1++zs2)]
 have hn3:=aU st2 (C.l (zs1++zs2))
 have hLt:∀ z∈zs1++zs2,TmD 0 1 z:=fun z hz=>(List.mem_append.mp hz).elim (hz1 z) (hz2 z)
 have hLl:(zs1++zs2).length≤200:=by simp;omega
 generalize zs1++zs2=L at hadd e3 hn3 hLt hLl
 have e13:=(e1.trans e2).trans e3
 have hl3p:st2.length≠p:=by have:=(e1.trans e2).len;omega
 have sd3:=sd.ext e13
 generalize hst3:st2++[C.l L]=st3 at hadd e3 hn3 e13 sd3
 generalize hlv:st2.length=lv at hadd hn3 hl3p
 obtain⟨d8,st4,hnx,hd8,av4⟩:=fN (n:=4) sd3 (by omega) (by omega)
 have av04:Av p st st4:=((Av.refl sd).ext e13).trans av4
 have hlv4:=av4.kp _ _ hl3p hn3
 have e5:=Ext.app st4 [C.l []]
 have hn5:=aU st4 (C.l [])
 have hne:=xA (e5 _ _ hlv4) hn5 (fun x hx=>(hLt x hx).pd (by omega)) (by simp)
 have av05:=av04.ext e5
 have hlv5:=e5 _ _ hlv4
 generalize hst5:st4++[C.l []]=st5 at e5 hn5 hne av05 hlv5
 have hA5:=hA.kp av05.kp
 have hl0:([]:List D).length≤sizeLine:=by rw[sizeLine_eq];simp
 have hc1:∃ cb,tAn (tCm neD (eV 7) (eL (aN))) (tOo (tCm eqD (eV 5) (eC (.i (0)))) (tCm eqD (eV 8) (eC (.i (0))))) [some (.r p),some bk,some (.s k),some (.r T),some (.r I),some (.i (room:Nat)),some own,some (.r lv),some (.i (d8:Nat)),none,none,none,none,none,none] st4=some (cb,st5)∧(cb=true→L≠[]):=by
  by_cases hL:L=[]
  ·refine⟨false,?_,by simp⟩
   rw[decide_eq_true hL] at hne
   simp only[bT,bM,bC,fO,aG,aI,cW,aZ,bA,aX hl0,aS,hst5,hne,bN,Bool.not_true,aT,aM]
  ·rw[decide_eq_false hL] at hne
   cases h0:((room:Int)==0) with
   |true=>
    refine⟨true,?_,fun _=>hL⟩
    simp only[bT,bM,bC,fO,aG,aI,cW,aZ,bA,aX hl0,aS,hst5,hne,bN,Bool.not_false,bB,cD,fB,bK,cZ,h0,aM]
   |false=>
    refine⟨((d8:Int)==0),?_,fun _=>hL⟩
    simp only[bT,bM,bC,fO,aG,aI,cW,aZ,bA,aX hl0,aS,hst5,hne,bN,Bool.not_false,bB,aT,cD,fB,bK,cZ,h0,fR]
 obtain⟨cb,hc1,hcb⟩:=hc1
 have hnx':aF [.r p, .i 4] st3=some (.i (d8:Nat),st4):=hnx
 have start:∀ r,f3 (q3 (b3 (some (cb,st5)) fun b=>c3 b (sR (eIx (eV 7) (eCl (aF) (aC (eV 0) (aC (eCl lenD (aC (eV 7) (aN))) (aN))))) [some (.r p),some bk,some (.s k),some (.r T),some (.r I),some (.i (room:Nat)),some own,some (.r lv),some (.i (d8:Nat)),none,none,none,none,none,none]) (sN [some (.r p),some bk,some (.s k),some (.r T),some (.r I),some (.i (room:Nat)),some own,some (.r lv),some (.i (d8:Nat)),none,none,none,none,none,none]))
   (seqS (sI (tCm eqD (eV 5) (eC (.i (0)))) (sR (eCl (dJ 4) (aC (eV 1) (aC (eV 2) (aN))))) (sN))
   (seqS (sI ownC (seqS (sA (eT (aC (eC (.s "bound")) (aC (eIx (eIx (eV 6) (eC (.i (3)))) (eCl (aF) (aC (eV 0) (aC (eCl lenD (aC (eIx (eV 6) (eC (.i (3)))) (aN))) (aN))))) (aN)))) (gN 9))
   (seqS (sA (tmS self (iS (eSl (eIx (eV 6) (eC (.i (1)))) (oS (eC (.i (1)))) (oN)))) (gN 10))
   (sR (eT (aC (eC (.s "call")) (aC (eIx (eV 6) (eC (.i (0)))) (aC (eOp addD (eT (aC (eV 9) (aN))) (eCl tupD (aC (eV 10) (aN)))) (aN)))))))) (sN))
   (seqS (sA tmW1 (gN 11))
   (seqS (sA (eOp addD (eV 11) tmW2) (gN 11))
   (seqS (sA (eIx (eV 11) (eCl (aF) (aC (eV 0) (aC (eCl lenD (aC (eV 11) (aN))) (aN))))) (gT 3 (gsC (gN 12) (gsC (gN 13) (gsC (gN 14) (gsN))))))
   (sR (eT (aC (eV 12) (aC (eV 13) (aC (eCl tupD (aC (tmS self (iS (eV 14))) (aN))) (aN))))))))))))=r→runF 15 7 (jS self) [.r p,bk, .s k, .r T, .r I, .i (room:Nat),own] st=r:=by
  intro r hr
  rw[eZ (p:=7) (by rfl),← hr]
  simp only[jS,List.map_cons,List.map_nil,List.cons_append,List.nil_append,List.replicate,aW,cE,hF,aG,aI,bW,aM,List.set_cons_succ,List.set_cons_zero,cL,bC,fO,hB,hadd,aV,bD,eK,bK,aZ,hnx',cX,hc1]
 cases cb with
 |true=>
  obtain⟨x,st6,g1,g2,g3⟩:=pick (E:=[some (.r p),some bk,some (.s k),some (.r T),some (.r I),some (.i (room:Nat)),some own,some (.r lv),some (.i (d8:Nat)),none,none,none,none,none,none]) (i:=7) av05.sd hlv5 (hcb rfl) hl3p (by omega) (fun _=>rfl) (fun _=>rfl)
  refine⟨x,st6,start _ ?_,(hLt x g2).mono (by omega) (by omega),av05.trans g3⟩
  simp only[aG,bB,cQ,g1,aM,dG,cP]
 |false=>
  by_cases hr0:room=0
  ·subst hr0
   obtain⟨z,st6,g1,g2,g3⟩:=aDp hA5.bk av05.sd hk
   refine⟨z,st6,start _ ?_,g2.mono (by omega) (by omega),av05.trans g3⟩
   simp only[aG,aT,dD,cL,aW,cX,bM,bC,fB,aI,bK,cZ,bN,show(((0:Nat):Int)==0)=true from rfl,bB,cQ,aV,bD,eI,fA,aZ,aM,g1,dG,cP]
  ·obtain⟨m,rfl⟩:∃ m,room=m+1:=⟨room - 1,by omega⟩
   have hself':=hself m rfl
   have hrz:(((m+1:Nat):Int)==0)=false:=by simp;omega
   obtain⟨cb2,st6,hc2,e6,hcb2⟩:=aBP (k:=k) (o0:=some (.r p)) (o1:=some bk) (o3:=some (.r T)) (o4:=some (.r I)) (o5:=some (.i ((m+1:Nat):Int))) (o7:=some (.r lv)) (E:=[none,none,none,none,none,none]) (v:=(d8:Nat)) hA5
   have av06:=av05.ext e6
   have hA6:=hA.kp av06.kp
   cases cb2 with
   |true=>
    obtain⟨f,ks,kk,O,os,rfl,hO,hO1,hos,hol,hoi,hks⟩:=hcb2 rfl
    have hO6:=e6 _ _ hO1
    have hpos:0<os.length:=List.length_pos_iff.mpr hos
    obtain⟨dd,st7,hn7,hd7,av7⟩:=fN (n:=os.length) av06.sd hpos (by omega)
    obtain⟨x,hx1,hx2⟩:=xG hd7
    obtain⟨nn,rfl⟩:=hoi x hx2
    have hO7:=av7.kp _ _ hO hO6
    have av07:=av06.trans av7
    have hA7:=hA.kp av07.kp
    have hcut:L2.cutD (ks.map D.s) (some 1) none=(ks.drop 1).map D.s:=by
     by_cases hk0:ks=[]
     ·subst hk0;rfl
     ·have h1:1≤(ks.map D.s).length:=by have:=List.length_pos_iff.mpr hk0;rw[List.length_map];omega
      have h2:=mK (xs:=ks.map D.s) (k:=1) h1
      rw[← List.map_drop] at h2
      exact h2
    have hks':KsOk a b c (ks.drop 1):=⟨by have:=hks.1;simp;omega,fun y hy=>hks.2 y (List.mem_of_mem_drop hy)⟩
    obtain⟨zs,st8,g1,g2,g3,g4⟩:=aBO (st:=st7) (self:=self) (m:=m) (it:=iS (eSl (eIx (eV 6) (eC (.i (1)))) (oS (eC (.i (1)))) (oN))) (ks:=ks.drop 1) (E:=[some (.r p),some bk,some (.s k),some (.r T),some (.r I),some (.i ((m+1:Nat):Int)),some (.t [.s f, .t (ks.map D.s), .s kk, .r O]),some (.r lv),some (.i (d8:Nat)),some (.t [.s "bound", .i nn]),none,none,none,none,none]) hA7 av07.sd hks' hself'
     (by simp only[cB,bY,bE,fP,aG,aI,bK,cR,dA,cH,dH,bX,aM,dM,dP,hcut,dC]) rfl
    have ht:=iO (aU st8 (C.l zs))
    have hzl:zs.length≤3:=by have:=hks.1;rw[g3];simp;omega
    refine⟨.t [.s "call", .s f, .t (.t [.s "bound", .i nn]::zs)],st8++[C.l zs],start _ ?_,?_,(av07.trans g4).ext (Ext.app _ _)⟩
    ·have hl2:[D.s "bound",D.i nn].length≤sizeLine:=by rw[sizeLine_eq];simp
     have hl3:[D.t [.s "bound", .i nn]].length≤sizeLine:=by rw[sizeLine_eq];simp
     have hl4:[D.t [.s "bound", .i nn]].length+zs.length≤sizeLine:=by rw[sizeLine_eq];simp;omega
     have hl5:[D.s "call", .s f, .t ([D.t [.s "bound", .i nn]]++zs)].length≤sizeLine:=by rw[sizeLine_eq];simp
     simp only[aG,aT,dD,cL,aW,cX,bM,bC,fB,aI,bK,cZ,bN,hrz,hc2,bB,cE,cY,bD,bE,fP,cR,dN,cH,aV,eK,qX hO6,aZ,aM,hn7,fF hO7,hx1,aO,aX hl2,bW,List.set_cons_succ,List.set_cons_zero,g1,cQ,dE,fT,aX hl3,dS,ht,bZ,aX hl4,aX hl5,dG,cP]
     rfl
    ·exact(rE (k:=4) (s:=tsz m) (n:=m+2) (.inr rfl) (fun z hz=>by
      rcases List.mem_cons.mp hz with rfl|hz
      ·have:=xF m;exact(leafB nn).mono (by omega) (by omega)
      ·exact g2 z hz) (by simp;omega)).mono (by omega) (by rw[tsz];omega)
   |false=>
    obtain⟨l7,ws1,st7,g1,e7,hl7,hw7,hwo,hwl,hwn⟩:=aDs (st:=st6) (o0:=some (.r p)) (E:=[some (.r T),some (.r I),some (.i ((m+1:Nat):Int)),some own,some (.r lv),some (.i (d8:Nat)),none,none,none,none,none,none]) hA6.bk hk
    have av07:=av06.ext e7
    have hA7:=hA.kp av07.kp
    obtain⟨ws2,g2,hwo2,hwl2,hwn2⟩:=aDt (st:=st7) (k:=k) (o0:=some (.r p)) (E:=[some (.r T),some (.r I),some (.i ((m+1:Nat):Int)),some own,some (.r lv),some (.i (d8:Nat)),none,none,some (.r l7),none,none,none]) hA7.bk
    have e8:=Ext.app st7 [C.l ws2]
    have hn8:=aU st7 (C.l ws2)
    have hw8:=e8 _ _ hw7
    have av08:=av07.ext e8
    generalize hst8:st7++[C.l ws2]=st8 at g2 e8 hn8 hw8 av08
    have hadd8:=lR hw8 hn8 (by rw[sizeLine_eq];omega)
    have e9:=Ext.app st8 [C.l (ws1++ws2)]
    have hn9:=aU st8 (C.l (ws1++ws2))
    have av09:=av08.ext e9
    have hl8p:st8.length≠p:=by
     have h1:=av08.len hplt
     omega
    have hwsn:ws1++ws2≠[]:=by
     rcases hk with h|h
     ·have:=hwn2 h;simp[this]
     ·have:=hwn h;simp[this]
    generalize hst9:st8++[C.l (ws1++ws2)]=st9 at hadd8 e9 hn9 av09
    generalize hlw:st8.length=lw at hadd8 hn9 hl8p
    obtain⟨x,st10,g3,g4,g5⟩:=pick (E:=[some (.r p),some bk,some (.s k),some (.r T),some (.r I),some (.i ((m+1:Nat):Int)),some own,some (.r lv),some (.i (d8:Nat)),none,none,some (.r lw),none,none,none]) (i:=11) av09.sd hn9 hwsn hl8p (by simp;omega) (fun _=>rfl) (fun _=>rfl)
    have hxo:WyOk a b c x:=(List.mem_append.mp g4).elim (hwo x) (hwo2 x)
    obtain⟨w,nn,ks,rfl,hw,hks⟩:=hxo
    have av010:=av09.trans g5
    have hA10:=hA.kp av010.kp
    obtain⟨zs,st11,q1,q2,q3',q4⟩:=aBO (st:=st10) (self:=self) (m:=m) (it:=iS (eV 14)) (ks:=ks) (E:=[some (.r p),some bk,some (.s k),some (.r T),some (.r I),some (.i ((m+1:Nat):Int)),some own,some (.r lv),some (.i (d8:Nat)),none,none,some (.r lw),some (.s w),some (.s nn),some (.t (ks.map D.s))]) hA10 av010.sd hks hself'
     (by simp only[cB,dY,aG,dC]) rfl
    have ht:=iO (aU st11 (C.l zs))
    refine⟨.t [.s w, .s nn, .t zs],st11++[C.l zs],start _ ?_,?_,(av010.trans q4).ext (Ext.app _ _)⟩
    ·have hl5:[D.s w, .s nn, .t zs].length≤sizeLine:=by rw[sizeLine_eq];simp
     simp only[aG,aT,dD,cL,aW,cX,bM,bC,fB,aI,bK,cZ,bN,hrz,hc2,cE,g1,bW,aM,List.set_cons_succ,List.set_cons_zero,dU,g2,hadd8,g3,aCW (xs:=[D.s w, .s nn, .t (ks.map D.s)]) (n:=3) rfl,qW,qV,cQ,cY,bD,dW,dX,aV,q1,aZ,ht,aO,aX hl5,dG,cP]
    ·exact(rE (k:=4) (s:=tsz m) (n:=m+2) hw q2 (by rw[q3'];exact hks.1)).mono (by omega) (by rw[tsz];omega)
theorem rF{a b c:Str}{bk own:D}{T I:Nat}:∀ (n room:Nat) (k:Str) (st:Sto),room≤n→n≤100→(k=a∨k=b∨k=c)→Ar p a b c bk T I own st→Sd p st→
  ∃ z st',cG (n+1) [.r p,bk, .s k, .r T, .r I, .i (room:Nat),own] st=some (z,st')∧TmD (room+2) (tsz room) z∧Av p st st':=by
 intro n
 induction n with
 |zero=>
  intro room k st hroom hn hk hA sd
  rw[cG]
  exact tB room k st (by omega) hk hA sd fun m hm=>by omega
 |succ n ih=>
  intro room k st hroom hn hk hA sd
  rw[cG]
  exact tB room k st (by omega) hk hA sd fun m hm k s hk hA sd=>ih m k s (by omega) (by omega) hk hA sd
end
end K61
end
section
namespace K61
open PySem L2 PyProof.Rows
theorem aAj{st:Sto}:inD (.s "free") (.t [D.s "free",D.s "bound",D.s "false"]) st=some (.b true,st):=by
 show some (D.b (inV (.str "free") [.str "free", .str "bound", .str "false"]),st)=_
 rw[show inV (.str "free") [.str "free", .str "bound", .str "false"]=true by decide +kernel]
theorem xH{st:Sto}:inD (.s "bound") (.t [D.s "free",D.s "bound",D.s "false"]) st=some (.b true,st):=by
 show some (D.b (inV (.str "bound") [.str "free", .str "bound", .str "false"]),st)=_
 rw[show inV (.str "bound") [.str "free", .str "bound", .str "false"]=true by decide +kernel]
theorem xI{st:Sto}:inD (.s "false") (.t [D.s "free",D.s "bound",D.s "false"]) st=some (.b true,st):=by
 show some (D.b (inV (.str "false") [.str "free", .str "bound", .str "false"]),st)=_
 rw[show inV (.str "false") [.str "free", .str "bound", .str "false"]=true by decide +kernel]
theorem aAk{st:Sto}:inD (.s "form") (.t [D.s "free",D.s "bound",D.s "false"]) st=some (.b false,st):=by
 show some (D.b (inV (.str "form") [.str "free", .str "bound", .str "false"]),st)=_
 rw[show inV (.str "form") [.str "free", .str "bound", .str "false"]=false by decide +kernel]
theorem aAl{st:Sto}:inD (.s "call") (.t [D.s "free",D.s "bound",D.s "false"]) st=some (.b false,st):=by
 show some (D.b (inV (.str "call") [.str "free", .str "bound", .str "false"]),st)=_
 rw[show inV (.str "call") [.str "free", .str "bound", .str "false"]=false by decide +kernel]
theorem aAm{st:Sto}:inD (.s "atom") (.t [D.s "free",D.s "bound",D.s "false"]) st=some (.b false,st):=by
 show some (D.b (inV (.str "atom") [.str "free", .str "bound", .str "false"]),st)=_
 rw[show inV (.str "atom") [.str "free", .str "bound", .str "false"]=false by decide +kernel]
theorem aBQ{st:Sto}:inD (.s "all") (.t [D.s "free",D.s "bound",D.s "false"]) st=some (.b false,st):=by
 show some (D.b (inV (.str "all") [.str "free", .str "bound", .str "false"]),st)=_
 rw[show inV (.str "all") [.str "free", .str "bound", .str "false"]=false by decide +kernel]
theorem aAn{st:Sto}:inD (.s "some") (.t [D.s "free",D.s "bound",D.s "false"]) st=some (.b false,st):=by
 show some (D.b (inV (.str "some") [.str "free", .str "bound", .str "false"]),st)=_
 rw[show inV (.str "some") [.str "free", .str "bound", .str "false"]=false by decide +kernel]
theorem aAo{st:Sto}:inD (.s "same") (.t [D.s "free",D.s "bound",D.s "false"]) st=some (.b false,st):=by
 show some (D.b (inV (.str "same") [.str "free", .str "bound", .str "false"]),st)=_
 rw[show inV (.str "same") [.str "free", .str "bound", .str "false"]=false by decide +kernel]
theorem aBR{st:Sto}:inD (.s "and") (.t [D.s "free",D.s "bound",D.s "false"]) st=some (.b false,st):=by
 show some (D.b (inV (.str "and") [.str "free", .str "bound", .str "false"]),st)=_
 rw[show inV (.str "and") [.str "free", .str "bound", .str "false"]=false by decide +kernel]
theorem aDu{st:Sto}:inD (.s "or") (.t [D.s "free",D.s "bound",D.s "false"]) st=some (.b false,st):=by
 show some (D.b (inV (.str "or") [.str "free", .str "bound", .str "false"]),st)=_
 rw[show inV (.str "or") [.str "free", .str "bound", .str "false"]=false by decide +kernel]
theorem aDv{st:Sto}:inD (.s "if") (.t [D.s "free",D.s "bound",D.s "false"]) st=some (.b false,st):=by
 show some (D.b (inV (.str "if") [.str "free", .str "bound", .str "false"]),st)=_
 rw[show inV (.str "if") [.str "free", .str "bound", .str "false"]=false by decide +kernel]
theorem aAp{st:Sto}:inD (.s "form") (.t [D.s "form",D.s "call",D.s "atom"]) st=some (.b true,st):=by
 show some (D.b (inV (.str "form") [.str "form", .str "call", .str "atom"]),st)=_
 rw[show inV (.str "form") [.str "form", .str "call", .str "atom"]=true by decide +kernel]
theorem aAq{st:Sto}:inD (.s "call") (.t [D.s "form",D.s "call",D.s "atom"]) st=some (.b true,st):=by
 show some (D.b (inV (.str "call") [.str "form", .str "call", .str "atom"]),st)=_
 rw[show inV (.str "call") [.str "form", .str "call", .str "atom"]=true by decide +kernel]
theorem aAr{st:Sto}:inD (.s "atom") (.t [D.s "form",D.s "call",D.s "atom"]) st=some (.b true,st):=by
 show some (D.b (inV (.str "atom") [.str "form", .str "call", .str "atom"]),st)=_
 rw[show inV (.str "atom") [.str "form", .str "call", .str "atom"]=true by decide +kernel]
theorem aBS{st:Sto}:inD (.s "all") (.t [D.s "form",D.s "call",D.s "atom"]) st=some (.b false,st):=by
 show some (D.b (inV (.str "all") [.str "form", .str "call", .str "atom"]),st)=_
 rw[show inV (.str "all") [.str "form", .str "call", .str "atom"]=false by decide +kernel]
theorem aAs{st:Sto}:inD (.s "some") (.t [D.s "form",D.s "call",D.s "atom"]) st=some (.b false,st):=by
 show some (D.b (inV (.str "some") [.str "form", .str "call", .str "atom"]),st)=_
 rw[show inV (.str "some") [.str "form", .str "call", .str "atom"]=false by decide +kernel]
theorem aAt{st:Sto}:inD (.s "same") (.t [D.s "form",D.s "call",D.s "atom"]) st=some (.b false,st):=by
 show some (D.b (inV (.str "same") [.str "form", .str "call", .str "atom"]),st)=_
 rw[show inV (.str "same") [.str "form", .str "call", .str "atom"]=false by decide +kernel]
theorem aBT{st:Sto}:inD (.s "and") (.t [D.s "form",D.s "call",D.s "atom"]) st=some (.b false,st):=by
 show some (D.b (inV (.str "and") [.str "form", .str "call", .str "atom"]),st)=_
 rw[show inV (.str "and") [.str "form", .str "call", .str "atom"]=false by decide +kernel]
theorem aDw{st:Sto}:inD (.s "or") (.t [D.s "form",D.s "call",D.s "atom"]) st=some (.b false,st):=by
 show some (D.b (inV (.str "or") [.str "form", .str "call", .str "atom"]),st)=_
 rw[show inV (.str "or") [.str "form", .str "call", .str "atom"]=false by decide +kernel]
theorem aDx{st:Sto}:inD (.s "if") (.t [D.s "form",D.s "call",D.s "atom"]) st=some (.b false,st):=by
 show some (D.b (inV (.str "if") [.str "form", .str "call", .str "atom"]),st)=_
 rw[show inV (.str "if") [.str "form", .str "call", .str "atom"]=false by decide +kernel]
theorem aBU{st:Sto}:inD (.s "all") (.t [D.s "all",D.s "some"]) st=some (.b true,st):=by
 show some (D.b (inV (.str "all") [.str "all", .str "some"]),st)=_
 rw[show inV (.str "all") [.str "all", .str "some"]=true by decide +kernel]
theorem aAu{st:Sto}:inD (.s "some") (.t [D.s "all",D.s "some"]) st=some (.b true,st):=by
 show some (D.b (inV (.str "some") [.str "all", .str "some"]),st)=_
 rw[show inV (.str "some") [.str "all", .str "some"]=true by decide +kernel]
theorem aAv{st:Sto}:inD (.s "same") (.t [D.s "all",D.s "some"]) st=some (.b false,st):=by
 show some (D.b (inV (.str "same") [.str "all", .str "some"]),st)=_
 rw[show inV (.str "same") [.str "all", .str "some"]=false by decide +kernel]
theorem aBV{st:Sto}:inD (.s "and") (.t [D.s "all",D.s "some"]) st=some (.b false,st):=by
 show some (D.b (inV (.str "and") [.str "all", .str "some"]),st)=_
 rw[show inV (.str "and") [.str "all", .str "some"]=false by decide +kernel]
theorem aDy{st:Sto}:inD (.s "or") (.t [D.s "all",D.s "some"]) st=some (.b false,st):=by
 show some (D.b (inV (.str "or") [.str "all", .str "some"]),st)=_
 rw[show inV (.str "or") [.str "all", .str "some"]=false by decide +kernel]
theorem aDz{st:Sto}:inD (.s "if") (.t [D.s "all",D.s "some"]) st=some (.b false,st):=by
 show some (D.b (inV (.str "if") [.str "all", .str "some"]),st)=_
 rw[show inV (.str "if") [.str "all", .str "some"]=false by decide +kernel]
section
variable{st:Sto}
theorem comp_map{α:Type}{c:Sto→Prop}{te:En→M D}{cap:En}{I:Sto→Prop}{f g:α→D}:∀ (ps:List α) (acc:List D) (st:Sto),
  (∀ p∈ps,∀ st,I st→∃ st',te (some (f p)::cap) st=some (g p,st')∧I st')→(∀ st,I st→c st)→I st→
  ∃ st',compD c bd1 (fun _=>L2.ret true) te cap (ps.map f) acc st=some (acc++ps.map g,st')∧I st'
 |[],acc,st,_,hc,hI=>⟨st,by rw[List.map_nil,compD,iM (hc st hI)];simp,hI⟩
 |x::xs,acc,st,h,hc,hI=>by
  obtain⟨st1,h4,h6⟩:=h x (by simp) st hI
  obtain⟨st',g1,g2⟩:=comp_map xs (acc++[g x]) st1 (fun y hy=>h y (List.mem_cons_of_mem _ hy)) hc h6
  refine⟨st',?_,g2⟩
  rw[List.map_cons,compD,iM (hc st hI)]
  simp only[bd1,aI,aM,aG,if_pos]
  show b3 (te (some (f x)::cap) st) _=_
  rw[h4,aG,g1]
  simp
abbrev fre(x:Str):RT:=.mk "free" (.s x) []
theorem rG(t u:RT):∀ ps:List RT,fins t u ps=ps.map (fin t u)
 |[]=>by rw[fins];rfl
 |p::ps=>by rw[fins,rG t u ps];rfl
mutual
theorem uI(t u:RT):∀ r:RT,sz (fin t u r)≤sz r * sz u
 | .mk w n ps=>by
  have h1:=xC u
  rw[fin]
  split
  ·have:=xC (RT.mk w n ps)
   exact Nat.le_mul_of_pos_left _ this
  ·have:=yT t u ps
   rw[sz,sz,Nat.add_mul]
   omega
theorem yT(t u:RT):∀ ps:List RT,szs (fins t u ps)≤szs ps * sz u
 |[]=>by rw[fins,szs];omega
 |p::ps=>by
  have h1:=uI t u p
  have h2:=yT t u ps
  rw[fins,szs,szs,Nat.add_mul]
  omega
end
theorem vU{x:Str}{t:RT}{m:Nat}{ps:List RT}{E:En}{it:En→M Its'}(hl:ps.length≤10000000)
  (hself:∀ r∈ps,∀ (st:Sto),∃ st',bQ m [enD r, .s x,enD t] st=some (enD (fin (fre x) t r),st')∧Ext st st')
  (hit:it E st=some ((enDs ps,fun _=>True),st))(hE:capD [2,1] E=[some (enD t),some (.s x)]):
  ∃ st',eCo [2,1] it bd1 ((fun _=>L2.ret true)) (eCl (bQ m) (aC (eV 0) (aC (eV 2) (aC (eV 1) (aN))))) E st=some (.r st'.length,st'++[C.l (enDs (fins (fre x) t ps))])∧Ext st st':=by
 obtain⟨st1,g1,g2⟩:=comp_map (c:=fun _=>True) (te:=eCl (bQ m) (aC (eV 0) (aC (eV 2) (aC (eV 1) (aN))))) (cap:=[some (enD t),some (.s x)]) (I:=fun s=>Ext st s) (f:=enD) (g:=fun p=>enD (fin (fre x) t p)) ps [] st (by
  intro p hp s hs
  obtain⟨s',q1,q2⟩:=hself p hp s
  refine⟨s',?_,hs.trans q2⟩
  simp only[aV,bD,eK,aG,aI,fA,eI,aZ,aM,q1]) (fun _ _=>trivial) (Ext.refl _)
 have hlt:(enDs ps).length<sizeLine:=by rw[cK,sizeLine_eq];omega
 refine⟨st1,?_,g2⟩
 rw[← eJ] at g1
 simp only[fI,hit,aG,aO,aX hlt,aI,hE,g1,List.nil_append,aS]
 rw[rG,eJ,List.map_map]
 rfl
theorem oB{x:Str}{t:RT}:∀ (n:Nat) (r:RT) (st:Sto),n≤20→Tm n r→sz r≤10000000→∀ k,n<k→∃ st',bQ k [enD r, .s x,enD t] st=some (enD (fin (fre x) t r),st')∧Ext st st':=by
 intro n
 induction n with
 |zero=>
  intro r st hn h hs k hk
  obtain⟨k,rfl⟩:∃ j,k=j+1:=⟨k - 1,by omega⟩
  refine⟨st,?_,Ext.refl _⟩
  have he:=mJ (st:=st) h (Tm.free 0 x) (by omega) (by omega)
  rw[gR] at he
  rw[bQ]
  cases h with
  |free _ y=>
   by_cases hy:RT.mk "free" (.s y) []=fre x
   ·rw[decide_eq_true hy] at he
    rw[fin,if_pos hy]
    simp[dR,he,sizeLine_eq]
   ·rw[decide_eq_false hy] at he
    rw[fin,if_neg hy,fins]
    simp only[gR] at he ⊢
    simp[dR,he,sizeLine_eq,aAj]
  |bound _ y=>
   have hy:¬ RT.mk "bound" (.i y) []=fre x:=by simp
   rw[decide_eq_false hy] at he
   rw[fin,if_neg hy,fins]
   simp only[iT] at he ⊢
   simp[dR,he,sizeLine_eq,xH]
 |succ n ih=>
  intro r st hn h hs k hk
  obtain⟨k,rfl⟩:∃ j,k=j+1:=⟨k - 1,by omega⟩
  have he:=mJ (st:=st) h (Tm.free 0 x) (by omega) (by omega)
  rw[gR] at he
  cases h with
  |free _ y=>exact ih _ st (by omega) (.free _ y) hs (k+1) (by omega)
  |bound _ y=>exact ih _ st (by omega) (.bound _ y) hs (k+1) (by omega)
  |@app _ w y ps hw hps=>
   have hy:¬ RT.mk w (.s y) ps=fre x:=by
    intro z
    injection z with z1
    revert z1
    rcases hw with rfl|rfl<;>decide +kernel
   rw[decide_eq_false hy] at he
   rw[fL (pF hw)] at he ⊢
   rw[sz] at hs
   have hls:=iA ps
   obtain⟨st1,h1,e1⟩:=vU (st:=st) (x:=x) (t:=t) (m:=k) (ps:=ps) (E:=[some (.t [.s w, .s y, .t (enDs ps)]),some (.s x),some (enD t)]) (it:=iS (eIx (eV 0) (eC (.i (2))))) (by omega)
    (fun r hr s=>ih r s (by omega) (hps r hr) (by have:=mF hr;omega) k (by omega))
    (by simp) rfl
   have ht:=iO (aU st1 (C.l (enDs (fins (fre x) t ps))))
   refine⟨_,?_,e1.trans (Ext.app st1 [C.l (enDs (fins (fre x) t ps))])⟩
   rw[bQ,fin,if_neg hy,fL (pF hw)]
   rcases hw with rfl|rfl<;>simp[-fI,dR,he,sizeLine_eq,aAk,aAl,aAp,aAq,h1,ht]
theorem aBW{x:Str}{t:RT}{m:Nat}(hm:m≤8):∀ (d:Nat) (r:RT) (st:Sto),d≤5→Sm m d r→sz r≤10000000→∀ k,d+m+1<k→∃ st',bQ k [enD r, .s x,enD t] st=some (enD (fin (fre x) t r),st')∧Ext st st':=by
 have base:∀ (d:Nat) (r:RT) (st:Sto),d≤5→Sm m 0 r→sz r≤10000000→∀ k,d+m+1<k→∃ st',bQ k [enD r, .s x,enD t] st=some (enD (fin (fre x) t r),st')∧Ext st st':=by
  intro d r st hd h hs k hk
  obtain⟨k,rfl⟩:∃ j,k=j+1:=⟨k - 1,by omega⟩
  have hy:=h.ne (Tm.free 0 x)
  have he:eqD (enD r) (.t [.s "free", .s x]) st=some (.b false,st):=by
   rw[← gR,mQ (h.pd.mono (by omega)) ((Tm.free 0 x).pd.mono (by omega)),decide_eq_false fun z=>hy (qC h.wf (Tm.free 0 x).wf z)]
  rw[mG hy,bQ]
  cases h with
  |fls=>refine⟨st,?_,Ext.refl _⟩;rw[jC] at he ⊢;simp[dR,he,sizeLine_eq,xI,RT.ps,RT.w,RT.n,fins,jC]
  |@same _ p q hp hq=>
   rw[sz2] at hs
   obtain⟨st1,h1,e1⟩:=oB (x:=x) (t:=t) m p st (by omega) hp (by omega) k (by omega)
   obtain⟨st2,h2,e2⟩:=oB (x:=x) (t:=t) m q st1 (by omega) hq (by omega) k (by omega)
   refine⟨st2,?_,e1.trans e2⟩
   rw[eM jO] at he ⊢
   simp[dR,he,sizeLine_eq,aAo,aAt,aAv,h1,h2,RT.ps,RT.w,RT.n,fins,eM jO]
  |@atom _ y ps hps=>
   rw[sz] at hs
   have hls:=iA ps
   obtain⟨st1,h1,e1⟩:=vU (st:=st) (x:=x) (t:=t) (m:=k) (ps:=ps) (E:=[some (.t [.s "atom", .s y, .t (enDs ps)]),some (.s x),some (enD t)]) (it:=iS (eIx (eV 0) (eC (.i (2))))) (by omega)
    (fun r hr s=>oB m r s (by omega) (hps r hr) (by have:=mF hr;omega) k (by omega))
    (by simp) rfl
   have ht:=iO (aU st1 (C.l (enDs (fins (fre x) t ps))))
   refine⟨_,?_,e1.trans (Ext.app st1 [C.l (enDs (fins (fre x) t ps))])⟩
   rw[fL kC] at he ⊢
   simp[-fI,dR,he,sizeLine_eq,aAm,aAr,h1,ht,RT.ps,RT.w,RT.n,fL kC]
 intro d
 induction d with
 |zero=>intro r st hd h hs k hk;exact base 0 r st hd h hs k hk
 |succ d ih=>
  intro r st hd h hs k hk
  have hy:=h.ne (Tm.free 0 x)
  have he:eqD (enD r) (.t [.s "free", .s x]) st=some (.b false,st):=by
   rw[← gR,mQ (h.pd.mono (by omega)) ((Tm.free 0 x).pd.mono (by omega)),decide_eq_false fun z=>hy (qC h.wf (Tm.free 0 x).wf z)]
  cases h with
  |fls=>exact base (d+1) _ st hd (.fls 0) hs k hk
  |same _ hp hq=>exact base (d+1) _ st hd (.same 0 hp hq) hs k hk
  |atom _ y hp=>exact base (d+1) _ st hd (.atom 0 y hp) hs k hk
  |@bnd _ w y p hw hp=>
   obtain⟨k,rfl⟩:∃ j,k=j+1:=⟨k - 1,by omega⟩
   rw[sz1] at hs
   obtain⟨st1,h1,e1⟩:=ih p st (by omega) hp (by omega) k (by omega)
   refine⟨st1,?_,e1⟩
   rw[mG hy,bQ]
   have hq:=hJ (x:=y) (p:=fin (fre x) t p) (mH hw)
   rw[hJ (mH hw)] at he ⊢
   rcases hw with rfl|rfl<;>simp[dR,he,sizeLine_eq,aBQ,aBS,aBU,aAn,aAs,aAu,h1,RT.ps,RT.w,RT.n,fins,hq]
  |@con _ w p q hw hp hq=>
   obtain⟨k,rfl⟩:∃ j,k=j+1:=⟨k - 1,by omega⟩
   rw[sz2] at hs
   obtain⟨st1,h1,e1⟩:=ih p st (by omega) hp (by omega) k (by omega)
   obtain⟨st2,h2,e2⟩:=ih q st1 (by omega) hq (by omega) k (by omega)
   refine⟨st2,?_,e1.trans e2⟩
   rw[mG hy,bQ]
   have hq:=eM (p:=fin (fre x) t p) (q:=fin (fre x) t q) (kQ hw)
   rw[eM (kQ hw)] at he ⊢
   rcases hw with rfl|rfl|rfl<;>simp[dR,he,sizeLine_eq,aBR,aBT,aBV,aDu,aDw,aDy,aDv,aDx,aDz,h1,h2,RT.ps,RT.w,RT.n,fins,hq]
theorem tD{α:Type}(f:α→Int):∀ ps:List α,intsD (ps.map fun p=>D.i (f p))=some (ps.map f)
 |[]=>rfl
 |p::ps=>by rw[List.map_cons,intsD,tD f ps];rfl
theorem xJ{α:Type}{f:α→Int}{ps:List α}{l:Nat}(h:st[l]?=some (.l (ps.map fun p=>D.i (f p)))):sumD [.r l] st=some (.i (ps.map f).sum,st):=by
 show bnd (getL l) _ st=_
 rw[fW (jY h),tD]
 rfl
theorem uJ:∀ (n:Nat) (r:RT) (st:Sto),Tm n r→sz r≤10000000→∀ k,n<k→∃ st',cU k [enD r] st=some (.i (sz r:Nat),st')∧Ext st st':=by
 have gen:∀ (n:Nat) (r:RT) (st:Sto) (k:Nat),Tm n r→sz r≤10000000→(∀ p∈r.ps,∀ st:Sto,∃ st',cU k [enD p] st=some (.i (sz p:Nat),st')∧Ext st st')→∃ st',cU (k+1) [enD r] st=some (.i (sz r:Nat),st')∧Ext st st':=by
  intro n r st k h hs hself
  rw[mX] at hs
  have hls:=iA r.ps
  obtain⟨st1,g1,g2⟩:=comp_map (c:=fun _=>True) (te:=eCl (cU k) (aC (eV 0) (aN))) (cap:=[]) (I:=fun s=>Ext st s) (f:=enD) (g:=fun p=>D.i (sz p:Nat)) r.ps [] st (by
   intro p hp s hs
   obtain⟨s',q1,q2⟩:=hself p hp s
   refine⟨s',?_,hs.trans q2⟩
   simp only[aV,bD,eK,aG,aI,aZ,aM,q1]) (fun _ _=>trivial) (Ext.refl _)
  have hlt:(r.ps.map enD).length<sizeLine:=by rw[List.length_map,sizeLine_eq];omega
  have hsum:=xJ (f:=fun p=>((sz p:Nat):Int)) (ps:=r.ps) (aU st1 (C.l (r.ps.map fun p=>D.i (sz p:Nat))))
  refine⟨_,?_,g2.trans (Ext.app st1 [C.l (r.ps.map fun p=>D.i (sz p:Nat))])⟩
  rw[uE] at hsum
  rw[cU,eZ (p:=1) rfl,lP]
  simp only[List.map_cons,List.map_nil,List.cons_append,List.nil_append,Nat.sub_self,List.replicate,cQ,bC,bK,aG,aI,aV,bD,fI,cB,eK,aZ,aM,xB h,eJ,dC,aO,aX hlt]
  rw[show capD [] [some (enD r)]=[] from rfl,g1]
  simp only[aG,aI,aZ,aM,List.nil_append,aS,hsum,bV,cP]
  rw[mX,show(1:Int)+((szs r.ps:Nat):Int)=((1+szs r.ps:Nat):Int) by omega]
 intro n
 induction n with
 |zero=>
  intro r st h hs k hk
  obtain⟨k,rfl⟩:∃ j,k=j+1:=⟨k - 1,by omega⟩
  refine gen 0 r st k h hs fun p hp=>?_
  cases h with
  |free=>cases hp
  |bound=>cases hp
 |succ n ih=>
  intro r st h hs k hk
  obtain⟨k,rfl⟩:∃ j,k=j+1:=⟨k - 1,by omega⟩
  refine gen (n+1) r st k h hs fun p hp s=>?_
  have hz:=mF hp
  rw[mX] at hs
  cases h with
  |free=>cases hp
  |bound=>cases hp
  |app hw hps=>exact ih p s (hps p hp) (by omega) k (by omega)
theorem aBX{f g:RT→Nat}:∀ ps:List RT,(∀ p∈ps,f p≤g p)→0≤(ps.map fun p=>((f p:Nat):Int)).sum∧(ps.map fun p=>((f p:Nat):Int)).sum≤(ps.map fun p=>((g p:Nat):Int)).sum
 |[],_=>by simp
 |p::ps,h=>by
  have h1:=h p (by simp)
  have h2:=aBX ps fun q hq=>h q (List.mem_cons_of_mem _ hq)
  simp only[List.map_cons,List.sum_cons]
  omega
theorem vV{r t:RT}{n m:Nat}(hr:Sm n 5 r)(hs:sz r≤3000000)(ht:Tm m t)(hn:n≤8)(hm:m≤8):∃ v st',gJ [enD r,enD t] st=some (.i v,st')∧Ext st st'∧0≤v∧v≤3000000:=by
 obtain⟨l,st1,h1,e1,hl1,hc1⟩:=uG (m:=n) 5 r st hr (by omega)
 have htz:=lH r
 have hls:=iA (terms r)
 obtain⟨st2,g1,g2⟩:=comp_map (c:=fun s=>s[l]?=some (.l (enDs (terms r)))) (te:=eCl lenD (aC (eCl (cS 14) (aC (eV 0) (aC (eV 1) (aC (eT (aN)) (aN))))) (aN))) (cap:=[some (enD t)]) (I:=fun s=>Ext st1 s) (f:=enD) (g:=fun p=>D.i ((pw t p).length:Nat)) (terms r) [] st1 (by
   intro p hp s hs'
   have hz:=mF hp
   obtain⟨l2,s',q1,q2,q3,q4⟩:=yO (t:=t) ht (by omega) 13 (by omega) p [] s ((hr.tm p hp).mono (by omega)) (by simp;omega)
   refine⟨s',?_,hs'.trans q2⟩
   have hlen:=qX q4
   rw[List.length_map] at hlen
   have q1':cS 14 [enD p,enD t, .t []] s=some (.r l2,s'):=q1
   have hl0:([]:List D).length≤sizeLine:=by rw[sizeLine_eq];simp
   simp only[aV,bD,eK,aG,aI,eI,cY,aZ,aO,aX hl0,aM,q1',hlen]) (fun s hs=>hs _ _ hc1) (Ext.refl _)
 have hlt:(enDs (terms r)).length<sizeLine:=by rw[cK,sizeLine_eq];omega
 have hsum:=xJ (f:=fun p=>(((pw t p).length:Nat):Int)) (ps:=terms r) (aU st2 (C.l ((terms r).map fun p=>D.i ((pw t p).length:Nat))))
 have hb:=aBX (f:=fun p=>(pw t p).length) (g:=sz) (terms r) fun p _=>pE t p
 rw[uE] at hb
 refine⟨_,_,?_,(e1.trans g2).trans (Ext.app st2 [C.l ((terms r).map fun p=>D.i ((pw t p).length:Nat))]),hb.1,by omega⟩
 rw[← eJ] at g1
 rw[gJ,eZ (p:=2) rfl,kW]
 simp only[List.map_cons,List.map_nil,List.cons_append,List.nil_append,Nat.sub_self,List.replicate,cQ,aG,aI,aV,bD,fI,cB,eK,aZ,aM,h1,jX hc1,aO,aX hlt]
 rw[show capD [1] [some (enD r),some (enD t)]=[some (enD t)] from rfl,g1]
 simp only[aG,aI,aZ,aM,List.nil_append,aS,hsum,cP]
end
end K61
end
section
namespace K61
open PySem L2 PyProof.Rows
section
variable{st:Sto}{p:Nat}{α:Type}{m:M α}
theorem fY:n3 (([]:List D).length≤sizeLine) m st=m st:=aX (by rw[sizeLine_eq];simp)
theorem fZ{x:D}:n3 ([x].length≤sizeLine) m st=m st:=aX (by rw[sizeLine_eq];simp)
theorem fU{x y:D}:n3 ([x,y].length≤sizeLine) m st=m st:=aX (by rw[sizeLine_eq];simp)
theorem gA{x y z:D}:n3 ([x,y,z].length≤sizeLine) m st=m st:=aX (by rw[sizeLine_eq];simp)
theorem gB{x y z w:D}:n3 ([x,y,z,w].length≤sizeLine) m st=m st:=aX (by rw[sizeLine_eq];simp)
theorem gC{x y z w v:D}:n3 ([x,y,z,w,v].length≤sizeLine) m st=m st:=aX (by rw[sizeLine_eq];simp)
end
section
variable{st:Sto}{p:Nat}
theorem aBY{n:Nat}(h:n≤2):tsz n≤53:=by
 rcases n with _|_|_|n
 ·decide
 ·decide
 ·decide
 ·omega
structure Wd (p:Nat) (a b c:Str) (bk:D) (st:Sto):Prop where
 ex:∃ (R F Z K G W:Nat) (ws:List D),bk=.t [.r R, .r F, .r Z, .r K, .r G, .r W]∧W≠p∧st[W]?=some (.l ws)∧ws≠[]∧ws.length≤100∧∀ x∈ws,FmOk a b c x
theorem Wd.kp{a b c:Str}{bk:D}{st st':Sto}(h:Wd p a b c bk st)(k:Kp p st st'):Wd p a b c bk st':=by
 obtain⟨R,F,Z,K,G,W,ws,e,n,h1,h2⟩:=h.ex
 exact⟨R,F,Z,K,G,W,ws,e,n,k _ _ n h1,h2⟩
def Th(p T:Nat)(st:Sto):Prop:=T≠p∧∃ ths,st[T]?=some (.l ths)∧ths.length≤100∧∀ x∈ths,∃ n k,x=D.t [.s n, .s k]
def In(p I j:Nat)(st:Sto):Prop:=I≠p∧∃ ins,st[I]?=some (.l ins)∧ins.length≤j∧∀ x∈ins,∃ k,x=D.s k
theorem Th.kp{T:Nat}{st st':Sto}(h:Th p T st)(k:Kp p st st'):Th p T st':=by
 obtain⟨n,x,e,r⟩:=h
 exact⟨n,x,k _ _ n e,r⟩
theorem In.kp{I j:Nat}{st st':Sto}(h:In p I j st)(k:Kp p st st'):In p I j st':=by
 obtain⟨n,x,e,r⟩:=h
 exact⟨n,x,k _ _ n e,r⟩
theorem tE{a b c:Str}{bk:D}{T I j:Nat}(hb:Bk p a b c bk st)(hT:Th p T st)(hI:In p I j st)(hj:j≤100):Ar p a b c bk T I .no st:=by
 obtain⟨n,x,e,l,r⟩:=hI
 exact⟨hb,hT,⟨n,x,e,by omega,r⟩, .inl rfl⟩
theorem atK{a b c:Str}{d:Nat}(h:d<3):∃ k,atI [D.s a, .s b, .s c] ((d:Nat):Int)=some (.s k)∧(k=a∨k=b∨k=c):=by
 rcases d with _|_|_|d
 ·exact⟨a,dE, .inl rfl⟩
 ·exact⟨b,dA, .inr (.inl rfl)⟩
 ·exact⟨c,dF, .inr (.inr rfl)⟩
 ·omega
theorem pickK{a b c:Str}{bk:D}{E:En}{i j:Nat}(hb:Bk p a b c bk st)(sd:Sd p st)(hi:∀ s,eV i E s=some (bk,s))(hj:∀ s,eV j E s=some (.r p,s)):
  ∃ k st',eIx (eIx (eV i) (eC (.i (3)))) (eCl (aF) (aC (eV j) (aC (eC (.i (3))) (aN)))) E st=some (.s k,st')∧(k=a∨k=b∨k=c)∧Av p st st':=by
 obtain⟨d,st1,h1,hd,av⟩:=fN (n:=3) sd (by omega) (by omega)
 obtain⟨R,F,Z,K,G,W,Lb,Lc,fb,fc,cl,f0,n1,n2,k2,rfl,n3,n4,n5,n6,n7,g1,g2,g3,g4,g5,g6⟩:=hb.ex
 obtain⟨k,q1,q2⟩:=atK (a:=a) (b:=b) (c:=c) hd
 have h1':aF [.r p, .i 3] st=some (.i (d:Nat),st1):=h1
 exact⟨k,st1,by simp only[bE,hi,aG,aI,bK,cR,dN,cH,aV,bD,hj,aZ,aM,h1',fF (av.kp _ _ n5 g5),q1],q2,av⟩
def ssz:Nat→Nat
 |0=>213
 |n+1=>1+2 * ssz n
theorem aBZ:∀ n,213≤ssz n
 |0=>Nat.le_refl _
 |n+1=>by rw[ssz];have:=aBZ n;omega
def SmD(n s:Nat)(d:D):Prop:=∃ r,d=enD r∧Sm 4 n r∧sz r≤s∧∀ c∈terms r,sz c≤53
theorem yU(room:Nat):(if((room:Nat):Int)<2 then((room:Nat):Int) else 2)=((min 2 room:Nat):Int):=by split<;>omega
theorem pG{a b c k:Str}{bk:D}{T I:Nat}{room:Nat}(hk:k=a∨k=b∨k=c)(hA:Ar p a b c bk T I .no st)(sd:Sd p st):
  ∃ z st',cG 5 [.r p,bk, .s k, .r T, .r I, .i ((min 2 room:Nat):Int), .no] st=some (z,st')∧TmD 4 53 z∧Av p st st':=by
 obtain⟨z,st',h1,h2,h3⟩:=rF (p:=p) 4 (min 2 room) k st (by omega) (by omega) hk hA sd
 exact⟨z,st',h1,h2.mono (by omega) (aBY (by omega)),h3⟩
noncomputable abbrev saC:En→M D:=eCo [1,3,4,0,2] (iS (eV 7)) bd1 ((fun _=>L2.ret true)) (eCl (cG 5) (aC (eV 4) (aC (eV 1) (aC (eV 0) (aC (eV 5) (aC (eV 2) (aC (eCl min2D (aC (eC (.i (2))) (aC (eV 3) (aN)))) (aC (eC .no) (aN)))))))))
theorem aAw{a b c:Str}{bk:D}{T I:Nat}{room:Nat}{E:En}{ks:List Str}(hA:Ar p a b c bk T I .no st)(sd:Sd p st)(hks:KsOk a b c ks)
  (h7:eV 7 E st=some (.t (ks.map D.s),st))(hE:capD [1,3,4,0,2] E=[some bk,some (.r I),some (.i (room:Nat)),some (.r p),some (.r T)]):
  ∃ zs st',saC E st=some (.r st'.length,st'++[C.l zs])∧(∀ z∈zs,TmD 4 53 z)∧zs.length=ks.length∧Av p st st':=by
 obtain⟨zs,st1,g1,g2,g3,g4⟩:=kH (c:=fun _=>True) (te:=eCl (cG 5) (aC (eV 4) (aC (eV 1) (aC (eV 0) (aC (eV 5) (aC (eV 2) (aC (eCl min2D (aC (eC (.i (2))) (aC (eV 3) (aN)))) (aC (eC .no) (aN))))))))) (cap:=[some bk,some (.r I),some (.i (room:Nat)),some (.r p),some (.r T)]) (I:=fun s=>Av p st s) (P:=TmD 4 53) (ks.map D.s) [] st (by
  intro x hx s hs
  obtain⟨k,hk,rfl⟩:=List.mem_map.mp hx
  obtain⟨z,s',q1,q2,q3⟩:=pG (room:=room) (hks.2 k hk) (hA.kp hs.kp) hs.sd
  refine⟨z,s',?_,q2,hs.trans q3⟩
  simp only[aV,bD,fH,aG,aI,eI,eK,fB,fA,bK,eU,aZ,aM,bJ,yU,q1]) (fun _ _=>trivial) (.refl sd)
 have hlt:(ks.map D.s).length<sizeLine:=by have:=hks.1;rw[sizeLine_eq];simp;omega
 refine⟨zs,st1,?_,g3,by rw[g4];simp,g2⟩
 simp only[fI,cB,h7,aG,dC,aO,aX hlt,aI,hE,g1]
 simp
theorem tF{a b c:Str}{bk:D}{T I:Nat}{self:List D→M D}(room:Nat)(st:Sto)(hroom:room≤50)(hB:Bk p a b c bk st)(hW:Wd p a b c bk st)(hT:Th p T st)(hI:In p I (100 - room) st)(sd:Sd p st)
  (hself:∀ m,room=m+1→∀ (I:Nat) (s:Sto),Bk p a b c bk s→Wd p a b c bk s→Th p T s→In p I (100 - m) s→Sd p s→∃ z s',self [.r p,bk, .r T, .r I, .i (m:Nat)] s=some (z,s')∧SmD m (ssz m) z∧Av p s s'):
  ∃ z st',runF 11 5 (gU self) [.r p,bk, .r T, .r I, .i (room:Nat)] st=some (z,st')∧SmD room (ssz room) z∧Av p st st':=by
 have hss:=aBZ room
 obtain⟨d,st1,hnx,hd,av1⟩:=fN (n:=8) sd (by omega) (by omega)
 have hnx':aF [.r p, .i 8] st=some (.i (d:Nat),st1):=hnx
 by_cases d0:d=0
 ·subst d0
  refine⟨.t [.s "false"],st1,?_,⟨_,jC.symm, .fls _,by rw[sz,szs];omega,by rw[kF];simp⟩,av1⟩
  rw[eZ (p:=5) rfl,gU]
  simp only[List.map_cons,List.map_nil,List.cons_append,List.nil_append,List.replicate,Nat.sub_self,aW,cE,cX,cQ,dD,dI,aG,aI,bW,aM,List.set_cons_succ,List.set_cons_zero,cL,dG,cP,bC,cA,aV,bD,aZ,bK,eK,eI,fA,eU,fH,fB,fP,fO,fR,fT,dS,dU,dW,dX,dY,cY,cW,bE,bM,bT,cD,bN,bB,aT,aO,bA,aS,cR,cH,dE,dA,dF,dN,eD,eE,cZ,eB,dZ,eA,dO,cF,bV,bZ,cI,bU,bY,dH,dM,bX,dP,cB,dC,bI,cJ,bJ,fY,fZ,fU,gA,gB,gC,hnx',show(((0:Nat):Int)==0)=true from rfl]
 have c0:(((d:Nat):Int)==0)=false:=by simp;omega
 by_cases d1:d=1
 ·subst d1
  obtain⟨R,F,Z,K,G,W,ws,rfl,hWp,hW1,hWn,hWl,hWo⟩:=(hW.kp av1.kp).ex
  have hpos:0<ws.length:=List.length_pos_iff.mpr hWn
  obtain⟨d2,st2,hn2,hd2,av2⟩:=fN (n:=ws.length) av1.sd hpos (by omega)
  obtain⟨x,hx1,hx2⟩:=xG hd2
  obtain⟨w,ks,rfl,hks⟩:=hWo x hx2
  have av02:=av1.trans av2
  obtain⟨zs,st3,g1,g2,g3,g4⟩:=aAw (st:=st2) (room:=room) (E:=[some (.r p),some (.t [.r R, .r F, .r Z, .r K, .r G, .r W]),some (.r T),some (.r I),some (.i (room:Nat)),some (.i (1:Nat)),some (.s w),some (.t (ks.map D.s)),none,none,none]) (tE (hB.kp av02.kp) (hT.kp av02.kp) (hI.kp av02.kp) (by omega)) av02.sd hks rfl rfl
  have ht:=iO (aU st3 (C.l zs))
  obtain⟨ps,rfl,h1,h2⟩:=xE g2
  have hl4:=hks.1
  have hpl:ps.length≤4:=by rw[← cK,g3];exact hl4
  refine⟨.t [.s "atom", .s w, .t (enDs ps)],st3++[C.l (enDs ps)],?_,⟨.mk "atom" (.s w) ps,(fL kC).symm, .atom _ _ h1,?_,?_⟩,(av02.trans g4).ext (Ext.app _ _)⟩
  ·rw[eZ (p:=5) rfl,gU]
   simp only[List.map_cons,List.map_nil,List.cons_append,List.nil_append,List.replicate,Nat.sub_self,aW,cE,cX,cQ,dD,dI,aG,aI,bW,aM,List.set_cons_succ,List.set_cons_zero,cL,dG,cP,bC,cA,aV,bD,aZ,bK,eK,eI,fA,eU,fH,fB,fP,fO,fR,fT,dS,dU,dW,dX,dY,cY,cW,bE,bM,bT,cD,bN,bB,aT,aO,bA,aS,cR,cH,dE,dA,dF,dN,eD,eE,cZ,eB,dZ,eA,dO,cF,bV,bZ,cI,bU,bY,dH,dM,bX,dP,cB,dC,bI,cJ,bJ,fY,fZ,fU,gA,gB,gC,hnx',show(((1:Nat):Int)==0)=false from rfl,show(((1:Nat):Int)==1)=true from rfl,qX hW1,hn2,fF (av2.kp _ _ hWp hW1),hx1,aCW (xs:=[D.s w, .t (ks.map D.s)]) (n:=2) rfl,qW,qV,g1,ht]
  ·rw[sz]
   have:(enDs ps).length * 53≤4 * 53:=Nat.mul_le_mul_right _ (by rw[cK];exact hpl)
   omega
  ·rw[jJ]
   intro y hy
   obtain⟨r,e,_,q⟩:=g2 (enD y) (by rw[eJ];exact List.mem_map.mpr ⟨y,hy,rfl⟩)
   have:y=r:=qC (h1 y hy).wf (by assumption:Tm 4 r).wf e
   rw[this];exact q
 have c1:(((d:Nat):Int)==1)=false:=by simp;omega
 obtain⟨k,st2,hpk,hk,av2⟩:=pickK (st:=st1) (E:=[some (.r p),some bk,some (.r T),some (.r I),some (.i (room:Nat)),some (.i (d:Nat)),none,none,none,none,none]) (i:=1) (j:=0) (hB.kp av1.kp) av1.sd (fun _=>rfl) (fun _=>rfl)
 simp only[bE,eK,eI,aG,aI,bK,cR,dN,cH,aV,bD,aZ,aM] at hpk
 have av02:=av1.trans av2
 by_cases d4:d<4∨room=0
 ·have hcc:((decide (((d:Nat):Int)<4)) || (((room:Nat):Int)==0))=true:=by
   rcases d4 with h|h
   ·simp;omega
   ·subst h;simp
  obtain⟨z1,st3,g1,g2,g3⟩:=pG (st:=st2) (room:=room) hk (tE (hB.kp av02.kp) (hT.kp av02.kp) (hI.kp av02.kp) (by omega)) av02.sd
  have av03:=av02.trans g3
  obtain⟨z2,st4,g4,g5,g6⟩:=pG (st:=st3) (room:=room) hk (tE (hB.kp av03.kp) (hT.kp av03.kp) (hI.kp av03.kp) (by omega)) av03.sd
  obtain⟨r1,rfl,t1,s1⟩:=g2
  obtain⟨r2,rfl,t2,s2⟩:=g5
  refine⟨.t [.s "same",enD r1,enD r2],st4,?_,⟨.mk "same" .no [r1,r2],(eM jO).symm, .same _ t1 t2,by rw[sz2];omega,by rw[iQ];intro y hy;simp at hy;rcases hy with rfl|rfl<;>assumption⟩,av03.trans g6⟩
  rw[eZ (p:=5) rfl,gU]
  rcases d4 with h|h
  ·have c4:decide (((d:Nat):Int)<4)=true:=by simp;omega
   simp only[List.map_cons,List.map_nil,List.cons_append,List.nil_append,List.replicate,Nat.sub_self,aW,cE,cX,cQ,dD,dI,aG,aI,bW,aM,List.set_cons_succ,List.set_cons_zero,cL,dG,cP,bC,cA,aV,bD,aZ,bK,eK,eI,fA,eU,fH,fB,fP,fO,fR,fT,dS,dU,dW,dX,dY,cY,cW,bE,bM,bT,cD,bN,bB,aT,aO,bA,aS,cR,cH,dE,dA,dF,dN,eD,eE,cZ,eB,dZ,eA,dO,cF,bV,bZ,cI,bU,bY,dH,dM,bX,dP,cB,dC,bI,cJ,bJ,fY,fZ,fU,gA,gB,gC,hnx',c0,c1,hpk,c4,yU,g1,g4]
  ·subst h
   by_cases h4:((d:Nat):Int)<4
   ·simp only[List.map_cons,List.map_nil,List.cons_append,List.nil_append,List.replicate,Nat.sub_self,aW,cE,cX,cQ,dD,dI,aG,aI,bW,aM,List.set_cons_succ,List.set_cons_zero,cL,dG,cP,bC,cA,aV,bD,aZ,bK,eK,eI,fA,eU,fH,fB,fP,fO,fR,fT,dS,dU,dW,dX,dY,cY,cW,bE,bM,bT,cD,bN,bB,aT,aO,bA,aS,cR,cH,dE,dA,dF,dN,eD,eE,cZ,eB,dZ,eA,dO,cF,bV,bZ,cI,bU,bY,dH,dM,bX,dP,cB,dC,bI,cJ,bJ,fY,fZ,fU,gA,gB,gC,hnx',c0,c1,hpk,decide_eq_true h4,yU,g1,g4]
   ·simp only[List.map_cons,List.map_nil,List.cons_append,List.nil_append,List.replicate,Nat.sub_self,aW,cE,cX,cQ,dD,dI,aG,aI,bW,aM,List.set_cons_succ,List.set_cons_zero,cL,dG,cP,bC,cA,aV,bD,aZ,bK,eK,eI,fA,eU,fH,fB,fP,fO,fR,fT,dS,dU,dW,dX,dY,cY,cW,bE,bM,bT,cD,bN,bB,aT,aO,bA,aS,cR,cH,dE,dA,dF,dN,eD,eE,cZ,eB,dZ,eA,dO,cF,bV,bZ,cI,bU,bY,dH,dM,bX,dP,cB,dC,bI,cJ,bJ,fY,fZ,fU,gA,gB,gC,hnx',c0,c1,hpk,decide_eq_false h4,show(((0:Nat):Int)==0)=true from rfl,yU,g1,g4]
 have c4:decide (((d:Nat):Int)<4)=false:=by simp;omega
 have cr:(((room:Nat):Int)==0)=false:=by simp;omega
 obtain⟨m,rfl⟩:∃ m,room=m+1:=⟨room - 1,by omega⟩
 have em:((m+1:Nat):Int) - 1=(m:Nat):=by omega
 by_cases d6:d<6
 ·have c6:decide (((d:Nat):Int)<6)=true:=by simp;omega
  obtain⟨hIp,ins,hI1,hI2,hI3⟩:=hI.kp av02.kp
  have e3:=Ext.app st2 [C.l [.s "all", .s "some"]]
  have hn3:=aU st2 (C.l [.s "all", .s "some"])
  obtain⟨w,hw1,hw2⟩:∃ w:Str,atI [D.s "all", .s "some"] (((d:Nat):Int) - 4)=some (.s w)∧(w="all"∨w="some"):=by
   obtain rfl|rfl:d=4∨d=5:=by omega
   ·exact⟨_,dE, .inl rfl⟩
   ·exact⟨_,dA, .inr rfl⟩
  have av3:=av02.ext e3
  generalize hst3:st2++[C.l [.s "all", .s "some"]]=st3 at e3 hn3 av3
  generalize hl3:st2.length=l3 at hn3
  have e4:=Ext.app st3 [C.l [.s k]]
  have hn4:=aU st3 (C.l [.s k])
  have av4:=av3.ext e4
  have hI4:=e4 _ _ (e3 _ _ hI1)
  have hlen4:=e4.len
  generalize hst4:st3++[C.l [.s k]]=st4 at e4 hn4 av4 hI4 hlen4
  generalize hl4:st3.length=l4 at hn4 hlen4
  have hadd:=lR hn4 hI4 (by rw[sizeLine_eq];simp;omega)
  have e5:=Ext.app st4 [C.l ([.s k]++ins)]
  have hn5:=aU st4 (C.l ([.s k]++ins))
  have av5:=av4.ext e5
  have hp5:st4.length≠p:=by have:=av4.sd.lt;omega
  generalize hst5:st4++[C.l ([.s k]++ins)]=st5 at e5 hn5 av5 hadd
  generalize hl5:st4.length=l5 at hn5 hadd hp5
  obtain⟨z,st6,g1,g2,g3⟩:=hself m rfl l5 st5 (hB.kp av5.kp) (hW.kp av5.kp) (hT.kp av5.kp) ⟨hp5,_,hn5,by simp;omega,fun x hx=>by
   simp at hx
   rcases hx with rfl|hx
   ·exact⟨_,rfl⟩
   ·exact hI3 x hx⟩ av5.sd
  obtain⟨r,rfl,t1,s1,s2⟩:=g2
  refine⟨.t [.s w, .s k,enD r],st6,?_,⟨.mk w (.s k) [r],(hJ (mH hw2)).symm, .bnd hw2 t1,by rw[sz1,ssz];omega,by rw[lF hw2];exact s2⟩,av5.trans g3⟩
  rw[eZ (p:=5) rfl,gU]
  simp only[List.map_cons,List.map_nil,List.cons_append,List.nil_append,List.replicate,Nat.sub_self,aW,cE,cX,cQ,dD,dI,aG,aI,bW,aM,List.set_cons_succ,List.set_cons_zero,cL,dG,cP,bC,cA,aV,bD,aZ,bK,eK,eI,fA,eU,fH,fB,fP,fO,fR,fT,dS,dU,dW,dX,dY,cY,cW,bE,bM,bT,cD,bN,bB,aT,aO,bA,aS,cR,cH,dE,dA,dF,dN,eD,eE,cZ,eB,dZ,eA,dO,cF,bV,bZ,cI,bU,bY,dH,dM,bX,dP,cB,dC,bI,cJ,bJ,fY,fZ,fU,gA,gB,gC,hnx',c0,c1,hpk,c4,cr,c6,hst3,fF hn3,hl3,hw1,hst4,hl4,hadd,em,g1]
 have c6:decide (((d:Nat):Int)<6)=false:=by simp;omega
 have e3:=Ext.app st2 [C.l [.s "and", .s "or", .s "if"]]
 have hn3:=aU st2 (C.l [.s "and", .s "or", .s "if"])
 have av3:=av02.ext e3
 have hp3:st2.length≠p:=by have:=av02.sd.lt;omega
 generalize hst3:st2++[C.l [.s "and", .s "or", .s "if"]]=st3 at e3 hn3 av3
 generalize hl3:st2.length=l3 at hn3 hp3
 obtain⟨d3,st4,hn4,hd4,av4⟩:=fN (n:=3) av3.sd (by omega) (by omega)
 have hn4':aF [.r p, .i 3] st3=some (.i (d3:Nat),st4):=hn4
 obtain⟨w,hw1,hw2⟩:=atK (a:="and") (b:="or") (c:="if") hd4
 have av04:=av3.trans av4
 have hI':In p I (100 - m) st:=by obtain⟨n,x,e,l,r⟩:=hI;exact⟨n,x,e,by omega,r⟩
 obtain⟨z1,st5,g1,g2,g3⟩:=hself m rfl I st4 (hB.kp av04.kp) (hW.kp av04.kp) (hT.kp av04.kp) (hI'.kp av04.kp) av04.sd
 have av05:=av04.trans g3
 obtain⟨z2,st6,g4,g5,g6⟩:=hself m rfl I st5 (hB.kp av05.kp) (hW.kp av05.kp) (hT.kp av05.kp) (hI'.kp av05.kp) av05.sd
 obtain⟨r1,rfl,t1,s1,q1⟩:=g2
 obtain⟨r2,rfl,t2,s2,q2⟩:=g5
 refine⟨.t [.s w,enD r1,enD r2],st6,?_,⟨.mk w .no [r1,r2],(eM (kQ hw2)).symm, .con hw2 t1 t2,by rw[sz2,ssz];omega,by rw[lG hw2];intro y hy;exact(List.mem_append.mp hy).elim (q1 y) (q2 y)⟩,av05.trans g6⟩
 rw[eZ (p:=5) rfl,gU]
 simp only[List.map_cons,List.map_nil,List.cons_append,List.nil_append,List.replicate,Nat.sub_self,aW,cE,cX,cQ,dD,dI,aG,aI,bW,aM,List.set_cons_succ,List.set_cons_zero,cL,dG,cP,bC,cA,aV,bD,aZ,bK,eK,eI,fA,eU,fH,fB,fP,fO,fR,fT,dS,dU,dW,dX,dY,cY,cW,bE,bM,bT,cD,bN,bB,aT,aO,bA,aS,cR,cH,dE,dA,dF,dN,eD,eE,cZ,eB,dZ,eA,dO,cF,bV,bZ,cI,bU,bY,dH,dM,bX,dP,cB,dC,bI,cJ,bJ,fY,fZ,fU,gA,gB,gC,hnx',c0,c1,hpk,c4,cr,c6,hst3,hl3,hn4',fF (av4.kp _ _ hp3 hn3),hw1,em,g1,g4]
theorem aFC{a b c:Str}{bk:D}{T:Nat}:∀ (n room I:Nat) (st:Sto),room≤n→n≤50→Bk p a b c bk st→Wd p a b c bk st→Th p T st→In p I (100 - room) st→Sd p st→
  ∃ z st',gV (n+1) [.r p,bk, .r T, .r I, .i (room:Nat)] st=some (z,st')∧SmD room (ssz room) z∧Av p st st':=by
 intro n
 induction n with
 |zero=>
  intro room I st hroom hn hB hW hT hI sd
  rw[gV]
  exact tF room st (by omega) hB hW hT hI sd fun m hm=>by omega
 |succ n ih=>
  intro room I st hroom hn hB hW hT hI sd
  rw[gV]
  exact tF room st (by omega) hB hW hT hI sd fun m hm I s h1 h2 h3 h4 h5=>ih m I s (by omega) (by omega) h1 h2 h3 h4 h5
end
end K61
end
section
namespace K61
open PySem L2 PyProof.Rows
section
variable{st:Sto}{p:Nat}
theorem qE{Q:Str→Prop}:∀ {zs:List D},(∀ z∈zs,∃ k,z=.s k∧Q k)→∃ ks:List Str,zs=ks.map D.s∧∀ k∈ks,Q k
 |[],_=>⟨[],rfl,by simp⟩
 |z::zs,h=>by
  obtain⟨k,rfl,hk⟩:=h z (by simp)
  obtain⟨ks,rfl,hks⟩:=qE fun y hy=>h y (List.mem_cons_of_mem _ hy)
  exact⟨k::ks,rfl,fun x hx=>by rcases List.mem_cons.mp hx with rfl|hx;exact hk;exact hks x hx⟩
theorem yV{te:En→M D}{caps:List Nat}{n:Nat}{P:D→Prop}{E:En}(hn:0<n)(hn2:n≤100)(sd:Sd p st)(h0:∀ s,eV 0 E s=some (.r p,s))
  (hte:∀ (x:D) (s:Sto),Av p st s→∃ z s',te (some x::capD caps E) s=some (z,s')∧P z∧Av p s s'):
  ∃ zs st',eCo caps (iR1 (aC (eCl (aF) (aC (eV 0) (aC (eC (.i (n:Nat))) (aN)))) (aN))) bd1 ((fun _=>L2.ret true)) te E st=some (.r st'.length,st'++[C.l zs])∧(∀ z∈zs,P z)∧zs.length<n∧Av p st st':=by
 obtain⟨d,st1,h1,hd,av1⟩:=fN (n:=n) sd hn (by omega)
 obtain⟨zs,st2,g1,g2,g3,g4⟩:=kH (c:=fun _=>True) (te:=te) (cap:=capD caps E) (I:=fun s=>Av p st s) (P:=P) ((List.range d).map fun(k:Nat)=>D.i (0+(k:Int))) [] st1 (fun x _ s hs=>by
  obtain⟨z,s',q1,q2,q3⟩:=hte x s hs
  exact⟨z,s',q1,q2,hs.trans q3⟩) (fun _ _=>trivial) av1
 refine⟨zs,st2,?_,g3,by rw[g4];simp;omega,g2⟩
 have hlt:((List.range d).map fun(k:Nat)=>D.i (0+(k:Int))).length<sizeLine:=by rw[sizeLine_eq];simp;omega
 have hrg:-(2 ^ 62)≤((d:Nat):Int)∧((d:Nat):Int)<2 ^ 62:=by omega
 have h11:[D.i (d:Nat)].length=1:=by simp
 simp only[fI,oY,bD,aV,h0,aG,aI,bK,aZ,aM,h1,aO,aX h11,lD,aX hrg,Int.toNat_natCast,aX hlt,g1]
 simp
noncomputable abbrev fuC(n:Nat):En→M D:=eCo [3,0] (iR1 (aC (eCl (aF) (aC (eV 0) (aC (eC (.i (n:Nat))) (aN)))) (aN))) bd1 ((fun _=>L2.ret true)) (eIx (eV 1) (eCl (aF) (aC (eV 2) (aC (eC (.i (3))) (aN)))))
theorem yW{a b c:Str}{n K:Nat}{E:En}(hn:0<n)(hn2:n≤5)(hKp:K≠p)(hK:st[K]?=some (.l [.s a, .s b, .s c]))(sd:Sd p st)(h0:∀ s,eV 0 E s=some (.r p,s))(hE:capD [3,0] E=[some (.r K),some (.r p)]):
  ∃ (ks:List Str) (st':Sto),fuC n E st=some (.r st'.length,st'++[C.l (ks.map D.s)])∧(∀ k∈ks,k=a∨k=b∨k=c)∧ks.length<n∧Av p st st':=by
 obtain⟨zs,st',g1,g2,g3,g4⟩:=yV (te:=eIx (eV 1) (eCl (aF) (aC (eV 2) (aC (eC (.i (3))) (aN))))) (caps:=[3,0]) (n:=n) (P:=fun z=>∃ k,z=.s k∧(k=a∨k=b∨k=c)) (E:=E) hn (by omega) sd h0 (by
  intro x s hs
  obtain⟨d,s',q1,q2,q3⟩:=fN (n:=3) hs.sd (by omega) (by omega)
  have q1':aF [.r p, .i 3] s=some (.i (d:Nat),s'):=q1
  obtain⟨k,q4,q5⟩:=atK (a:=a) (b:=b) (c:=c) q2
  refine⟨.s k,s',?_,⟨k,rfl,q5⟩,q3⟩
  rw[hE]
  simp only[bE,eI,aG,aI,aV,bD,fA,bK,aZ,aM,q1',fF (q3.kp _ _ hKp (hs.kp _ _ hKp hK)),q4,cH])
 obtain⟨ks,rfl,hks⟩:=qE g2
 exact⟨ks,st',g1,hks,by simpa using g3,g4⟩
theorem Kp.setN{s0 s:Sto}{l:Nat}{c:C}(h:Kp p s0 s)(hl:s0.length≤l):Kp p s0 (s.set l c):=fun j x n e=>by
 have:=(List.getElem?_eq_some_iff.mp e).1
 exact bO (h j x n e) (by omega)
theorem Sd.setN{l:Nat}{c:C}(h:Sd p st)(hl:l≠p):Sd p (st.set l c):=by
 obtain⟨a,b,q,r⟩:=h
 exact⟨a,b,bO q (Ne.symm hl),r⟩
theorem Av.setN{s0 s:Sto}{l:Nat}{c:C}(h:Av p s0 s)(hl:s0.length≤l)(hp:l≠p):Av p s0 (s.set l c):=⟨h.sd.setN hp,h.kp.setN hl⟩
noncomputable abbrev owC:En→M D:=eCo [6] (iEn (aC (eV 9) (aN))) (bdT 2) (tCm eqD (eV 1) (eV 2)) (eV 0)
theorem aDA{k:Str}{E:En}{ks:List Str}(hl:ks.length≤4)(h9:eV 9 E st=some (.t (ks.map D.s),st))(hE:capD [6] E=[some (.s k)]):
  ∃ zs,owC E st=some (.r st.length,st++[C.l zs])∧(∀ z∈zs,∃ n:Int,z=.i n)∧zs.length≤100:=by
 obtain⟨zs,st',g1,g2,g3,g4⟩:=jD (c:=fun _=>True) (bd:=bdT 2) (tc:=tCm eqD (eV 1) (eV 2)) (te:=eV 0) (cap:=[some (.s k)]) (I:=fun s=>s=st) (P:=fun z=>∃ n:Int,z=.i n) (enumL (ks.map D.s)) [] st (by
  rintro x hx s rfl
  obtain⟨i,hi⟩:=List.getElem?_of_mem hx
  obtain⟨y,hy,rfl⟩:=nZ hi
  obtain⟨kk,_,rfl⟩:=List.mem_map.mp (List.mem_of_getElem? hy)
  refine⟨[.i (i:Nat), .s kk],kk==k,pP rfl,by simp,fun _=>⟨.i (i:Nat),s,?_,⟨_,rfl⟩,rfl⟩⟩
  simp) (fun _ _=>trivial) rfl
 subst g2
 have hel:(enumL (ks.map D.s)).length=ks.length:=by simp[enumL]
 have hlt:(enumL (ks.map D.s)).length<sizeLine:=by rw[sizeLine_eq];omega
 refine⟨zs,?_,g3,by omega⟩
 simp only[fI,aBu,bD,h9,aG,aI,aZ,aM,aDa,aO,aX hlt,hE,g1]
 simp
noncomputable abbrev fuG:D→En→M En:=gT 2 (gsC (gN 8) (gsC (gN 9) (gsN)))
noncomputable abbrev fuB:Sm':=seqS (sA (eT (aC (eV 2) (aC (eV 4) (aC (eV 5) (aC (eCo [6] (iEn (aC (eV 9) (aN))) (bdT 2) (tCm eqD (eV 1) (eV 2)) (eV 0)) (aN)))))) (gN 10))
   (sE (eBm "list" appendD (eV 7) (aC (eCl (cG 5) (aC (eV 0) (aC (eV 1) (aC (eV 5) (aC (eL (aN)) (aC (eCl listD (aC (eOp addD (eV 9) (eSl (eV 4) (oS (eC (.i (1)))) (oN))) (aN))) (aC (eC (.i (2))) (aC (eV 10) (aN))))))))) (aN))))
theorem yX{a b c f kk k1:Str}{bk:D}{K L tl:Nat}{as:List Str}{fs:List D}{s0:Sto}(hB:Bk p a b c bk s0)(hks:KsOk a b c as)(hkk:kk=a∨kk=b∨kk=c)(hL:s0[L]?=some (.l fs))(hLp:L≠p)(ht:s0.length≤tl)(htp:tl≠p):
  ∀ (xs:List D) (s:Sto) (acc:List D) (x8 x9 x10:Option D),Av p s0 s→s[tl]?=some (.l acc)→acc.length+xs.length≤100→(∀ x∈xs,FmOk a b c x)→
  ∃ y8 y9 y10 s' acc',forD (fun s=>s[L]?=some (.l fs)) fuG fuB xs [some (.r p),some bk,some (.s f),some (.r K),some (.t (as.map D.s)),some (.s kk),some (.s k1),some (.r tl),x8,x9,x10] s=
   some ((.nx,[some (.r p),some bk,some (.s f),some (.r K),some (.t (as.map D.s)),some (.s kk),some (.s k1),some (.r tl),y8,y9,y10]),s')∧Av p s0 s'∧s'[tl]?=some (.l acc')
 |[],s,acc,x8,x9,x10,av,h1,h2,h3=>⟨x8,x9,x10,s,acc,lI (av.kp _ _ hLp hL),av,h1⟩
 |x::xs,s,acc,x8,x9,x10,av,h1,h2,h3=>by
  obtain⟨n,ks,rfl,hk⟩:=h3 x (by simp)
  obtain⟨zs,g1,g2,g3⟩:=aDA (st:=s) (k:=k1) (E:=[some (.r p),some bk,some (.s f),some (.r K),some (.t (as.map D.s)),some (.s kk),some (.s k1),some (.r tl),some (.s n),some (.t (ks.map D.s)),x10]) hk.1 rfl rfl
  have e1:=Ext.app s [C.l zs]
  have hn1:=aU s (C.l zs)
  have av1:=av.ext e1
  have hO:s.length≠p:=by have:=av.sd.lt;omega
  generalize hs1:s++[C.l zs]=s1 at g1 e1 hn1 av1
  generalize hO':s.length=O at g1 hn1 hO
  have e2:=Ext.app s1 [C.l []]
  have hn2:=aU s1 (C.l [])
  have av2:=av1.ext e2
  have hT:s1.length≠p:=by have:=av1.sd.lt;omega
  generalize hs2:s1++[C.l []]=s2 at e2 hn2 av2
  generalize hT':s1.length=T at hn2 hT
  have hcut:L2.cutD (as.map D.s) (some 1) none=(as.drop 1).map D.s:=by
   by_cases hk0:as=[]
   ·subst hk0;rfl
   ·have h1:1≤(as.map D.s).length:=by have:=List.length_pos_iff.mpr hk0;rw[List.length_map];omega
    have h2:=mK (xs:=as.map D.s) (k:=1) h1
    rw[← List.map_drop] at h2
    exact h2
  have e3:=Ext.app s2 [C.l (ks.map D.s++(as.drop 1).map D.s)]
  have hn3:=aU s2 (C.l (ks.map D.s++(as.drop 1).map D.s))
  have av3:=av2.ext e3
  have hI:s2.length≠p:=by have:=av2.sd.lt;omega
  generalize hs3:s2++[C.l (ks.map D.s++(as.drop 1).map D.s)]=s3 at e3 hn3 av3
  generalize hI':s2.length=I at hn3 hI
  have hl1:=hk.1
  have hl2:=hks.1
  have hlk:(ks.map D.s).length+((as.drop 1).map D.s).length≤sizeLine:=by rw[sizeLine_eq];simp;omega
  have hA:Ar p a b c bk T I (.t [.s f, .t (as.map D.s), .s kk, .r O]) s3:=⟨hB.kp av3.kp,⟨hT,[],e3 _ _ hn2,by simp,by simp⟩,⟨hI,_,hn3,by simp;omega,fun x hx=>by
   rcases List.mem_append.mp hx with hx|hx
   ·obtain⟨y,_,rfl⟩:=List.mem_map.mp hx;exact⟨y,rfl⟩
   ·obtain⟨y,_,rfl⟩:=List.mem_map.mp hx;exact⟨y,rfl⟩⟩, .inr ⟨f,as,kk,O,zs,rfl,hO,e3 _ _ (e2 _ _ hn1),g3,g2,hks⟩⟩
  obtain⟨z,s4,q1,q2,q3⟩:=rF (p:=p) 4 2 kk s3 (by omega) (by omega) hkk hA av3.sd
  have q1':cG 5 [.r p,bk, .s kk, .r T, .r I, .i 2, .t [.s f, .t (as.map D.s), .s kk, .r O]] s3=some (z,s4):=q1
  have h4:=q3.kp _ _ htp (e3 _ _ (e2 _ _ (e1 _ _ h1)))
  simp only[List.length_cons] at h2
  have happ:=gQ (y:=z) h4 (by rw[sizeLine_eq];omega)
  have av4:=(av3.trans q3).setN (c:=C.l (acc++[z])) ht htp
  have h5:=fD (c:=C.l (acc++[z])) h4
  generalize s4.set tl (C.l (acc++[z]))=s5 at happ av4 h5
  obtain⟨y8,y9,y10,s',acc',r1,r2,r3⟩:=yX (K:=K) (L:=L) (f:=f) (k1:=k1) hB hks hkk hL hLp ht htp xs s5 (acc++[z]) (some (.s n)) (some (.t (ks.map D.s))) (some (.t [.s f, .t (as.map D.s), .s kk, .r O])) av4 h5 (by simp;omega) (fun y hy=>h3 y (List.mem_cons_of_mem _ hy))
  refine⟨y8,y9,y10,s',acc',?_,r2,r3⟩
  rw[kG (av.kp _ _ hLp hL) (env1:=[some (.r p),some bk,some (.s f),some (.r K),some (.t (as.map D.s)),some (.s kk),some (.s k1),some (.r tl),some (.s n),some (.t (ks.map D.s)),x10]) (st1:=s) (by simp only[aCW (xs:=[D.s n, .t (ks.map D.s)]) (n:=2) rfl,qW,bW,qV,aG,List.set_cons_succ,List.set_cons_zero])
   (env2:=[some (.r p),some bk,some (.s f),some (.r K),some (.t (as.map D.s)),some (.s kk),some (.s k1),some (.r tl),some (.s n),some (.t (ks.map D.s)),some (.t [.s f, .t (as.map D.s), .s kk, .r O])]) (st2:=s5)]
  ·exact r1
  ·simp only[List.map_cons,List.map_nil,List.cons_append,List.nil_append,List.replicate,Nat.sub_self,aW,cE,cX,cQ,dD,dI,aG,aI,bW,aM,List.set_cons_succ,List.set_cons_zero,cL,dG,cP,bC,cA,aV,bD,aZ,bK,eK,eI,fA,eU,fH,fB,fP,fO,fR,fT,dS,dU,dW,dX,dY,cY,cW,bE,bM,bT,cD,bN,bB,aT,aO,bA,aS,cR,cH,dE,dA,dF,dN,eD,eE,cZ,eB,dZ,eA,dO,cF,bV,bZ,cI,bU,bY,dH,dM,bX,dP,cB,dC,bI,cJ,bJ,fY,fZ,fU,gA,gB,gC,g1,fQ (e1 _ _ h1),hs2,hT',hcut,aX hlk,hs3,hI',q1',happ]
theorem xK{a b c f:Str}{bk:D}(hB:Bk p a b c bk st)(sd:Sd p st):
  ∃ (w:Str) (ks:List Str) (kk:Str) (X:D) (st':Sto),gE [.r p,bk, .s f] st=some (.t [.s w, .s f, .t (ks.map D.s), .s kk,X],st')∧KsOk a b c ks∧Av p st st':=by
 have hBk:=hB
 obtain⟨R,F,Z,K,G,W,Lb,Lc,fb,fc,cl,f0,n1,n2,k2,rfl,m3,m4,m5,m6,m7,hF,hLb,hLc,hZ,hK,hfb,hfc,hcl,hk2,l1,l2,l3⟩:=hB.ex
 obtain⟨d,st1,hnx,hd,av1⟩:=fN (n:=3) sd (by omega) (by omega)
 have hnx':aF [.r p, .i 3] st=some (.i (d:Nat),st1):=hnx
 have hK1:=av1.kp _ _ m5 hK
 by_cases d0:d=0
 ·subst d0
  obtain⟨ks,st2,g1,g2,g3,g4⟩:=yW (st:=st1) (n:=5) (E:=[some (.r p),some (.t [.r R, .r F, .r Z, .r K, .r G, .r W]),some (.s f),some (.r K),none,none,none,none,none,none,none]) (by omega) (by omega) m5 hK1 av1.sd (fun _=>rfl) rfl
  have g1':eCo [3,0] (iR1 (aC (eCl (aF) (aC (eV 0) (aC (eC (.i (5))) (aN)))) (aN))) bd1 ((fun _=>L2.ret true)) (eIx (eV 1) (eCl (aF) (aC (eV 2) (aC (eC (.i (3))) (aN))))) [some (.r p),some (.t [.r R, .r F, .r Z, .r K, .r G, .r W]),some (.s f),some (.r K),none,none,none,none,none,none,none] st1=some (.r st2.length,st2++[C.l (ks.map D.s)]):=g1
  have ht:=iO (aU st2 (C.l (ks.map D.s)))
  have av2:=(av1.trans g4).ext (Ext.app st2 [C.l (ks.map D.s)])
  generalize st2++[C.l (ks.map D.s)]=st3 at g1' ht av2
  obtain⟨d2,st4,hn2,hd2,av4⟩:=fN (n:=3) av2.sd (by omega) (by omega)
  have hn2':aF [.r p, .i 3] st3=some (.i (d2:Nat),st4):=hn2
  obtain⟨kk,hkk,hkk2⟩:=atK (a:=a) (b:=b) (c:=c) hd2
  have av04:=av2.trans av4
  have e5:=Ext.app st4 [C.l []]
  have hn5:=aU st4 (C.l [])
  have av5:=av04.ext e5
  have hT:st4.length≠p:=by have:=av04.sd.lt;omega
  generalize hs5:st4++[C.l []]=st5 at e5 hn5 av5
  generalize hT':st4.length=T at hn5 hT
  have e6:=Ext.app st5 [C.l (ks.map D.s)]
  have hn6:=aU st5 (C.l (ks.map D.s))
  have av6:=av5.ext e6
  have hI:st5.length≠p:=by have:=av5.sd.lt;omega
  generalize hs6:st5++[C.l (ks.map D.s)]=st6 at e6 hn6 av6
  generalize hI':st5.length=I at hn6 hI
  obtain⟨z,st7,q1,q2,q3⟩:=rF (p:=p) 4 2 kk st6 (by omega) (by omega) hkk2 (tE (j:=10) (hBk.kp av6.kp) ⟨hT,[],e6 _ _ hn5,by simp,by simp⟩ ⟨hI,_,hn6,by simp;omega,fun x hx=>by obtain⟨y,_,rfl⟩:=List.mem_map.mp hx;exact⟨y,rfl⟩⟩ (by omega)) av6.sd
  have q1':cG 5 [.r p, .t [.r R, .r F, .r Z, .r K, .r G, .r W], .s kk, .r T, .r I, .i 2, .no] st6=some (z,st7):=q1
  refine⟨"short",ks,kk,z,st7,?_,⟨by omega,g2⟩,av6.trans q3⟩
  rw[gE,eZ (p:=3) rfl,iN]
  simp only[List.map_cons,List.map_nil,List.cons_append,List.nil_append,List.replicate,Nat.sub_self,aW,cE,cX,cQ,dD,dI,aG,aI,bW,aM,List.set_cons_succ,List.set_cons_zero,cL,dG,cP,bC,cA,aV,bD,aZ,bK,eK,eI,fA,eU,fH,fB,fP,fO,fR,fT,dS,dU,dW,dX,dY,cY,cW,bE,bM,bT,cD,bN,bB,aT,aO,bA,aS,cR,cH,dE,dA,dF,dN,eD,eE,cZ,eB,dZ,eA,dO,cF,bV,bZ,cI,bU,bY,dH,dM,bX,dP,cB,dC,bI,cJ,bJ,fY,fZ,fU,gA,gB,gC,hnx',show(((0:Nat):Int)==0)=true from rfl,g1',ht,hn2',fF (av04.kp _ _ m5 hK),hkk,hs5,hT',hs6,hI',q1']
 have c0:(((d:Nat):Int)==0)=false:=by simp;omega
 obtain⟨d1,st2,hn2,hd1,av2⟩:=fN (n:=2) av1.sd (by omega) (by omega)
 have hn2':aF [.r p, .i 2] st1=some (.i (d1:Nat),st2):=hn2
 have av02:=av1.trans av2
 obtain⟨k1,L,fs,hk1,hk1k,hLp,hix,hL,hfs,hfl⟩:∃ k1 L fs,atI [D.s a, .s b, .s c] (1+((d1:Nat):Int))=some (.s k1)∧(k1=a∨k1=b∨k1=c)∧L≠p∧valD [(Sum.inr b,D.r Lb),(Sum.inr c,D.r Lc)] (Sum.inr k1)=some (.r L)∧st[L]?=some (.l fs)∧(∀ x∈fs,FmOk a b c x)∧fs.length≤11:=by
  obtain rfl|rfl:d1=0∨d1=1:=by omega
  ·exact⟨b,Lb,_,dA, .inr (.inl rfl),m6,vT,hLb,fun x hx=>by
    rcases List.mem_cons.mp hx with rfl|hx
    ·exact⟨n1,[],rfl,by simp[KsOk]⟩
    ·exact hfb x hx,by simp;omega⟩
  ·exact⟨c,Lc,_,dF, .inr (.inr rfl),m7,sY hBk.ne,hLc,fun x hx=>by
    rcases List.mem_cons.mp hx with rfl|hx
    ·exact⟨n2,k2,rfl,by rcases hk2 with rfl|rfl<;>simp[KsOk]⟩
    ·exact hfc x hx,by simp;omega⟩
 obtain⟨ks,st3,g1,g2,g3,g4⟩:=yW (st:=st2) (n:=4) (E:=[some (.r p),some (.t [.r R, .r F, .r Z, .r K, .r G, .r W]),some (.s f),some (.r K),none,none,some (.s k1),none,none,none,none]) (by omega) (by omega) m5 (av02.kp _ _ m5 hK) av02.sd (fun _=>rfl) rfl
 have g1':eCo [3,0] (iR1 (aC (eCl (aF) (aC (eV 0) (aC (eC (.i (4))) (aN)))) (aN))) bd1 ((fun _=>L2.ret true)) (eIx (eV 1) (eCl (aF) (aC (eV 2) (aC (eC (.i (3))) (aN))))) [some (.r p),some (.t [.r R, .r F, .r Z, .r K, .r G, .r W]),some (.s f),some (.r K),none,none,some (.s k1),none,none,none,none] st2=some (.r st3.length,st3++[C.l (ks.map D.s)]):=g1
 have ht:=iO (aU st3 (C.l (ks.map D.s)))
 have av3:=(av02.trans g4).ext (Ext.app st3 [C.l (ks.map D.s)])
 generalize st3++[C.l (ks.map D.s)]=st4 at g1' ht av3
 have hl1:[D.s k1].length+(ks.map D.s).length≤sizeLine:=by rw[sizeLine_eq];simp;omega
 have hkas:KsOk a b c (k1::ks):=⟨by simp;omega,fun x hx=>by rcases List.mem_cons.mp hx with rfl|hx;exact hk1k;exact g2 x hx⟩
 obtain⟨d5,st5,hn5,hd5,av5⟩:=fN (n:=4) av3.sd (by omega) (by omega)
 have hn5':aF [.r p, .i 4] st4=some (.i (d5:Nat),st5):=hn5
 have av05:=av3.trans av5
 have h03:(0:Int)<3:=by decide
 obtain⟨kk,hkk,hkk2⟩:∃ kk,atI [D.s a, .s b, .s c] (((d5:Nat):Int) % 3)=some (.s kk)∧(kk=a∨kk=b∨kk=c):=by
  obtain⟨kk,q1,q2⟩:=atK (a:=a) (b:=b) (c:=c) (show d5 % 3<3 by omega)
  exact⟨kk,by rw[← q1];rfl,q2⟩
 have e6:=Ext.app st5 [C.l []]
 have hn6:=aU st5 (C.l [])
 have av6:=av05.ext e6
 have hT:st5.length≠p:=by have:=av05.sd.lt;omega
 have hTl:st.length≤st5.length:=av05.len sd.lt
 generalize hs6:st5++[C.l []]=st6 at e6 hn6 av6
 generalize hT':st5.length=tl at hn6 hT hTl
 obtain⟨y8,y9,y10,st7,acc',r1,r2,r3⟩:=yX (K:=K) (f:=f) (k1:=k1) (as:=k1::ks) hBk hkas hkk2 hL hLp hTl hT fs st6 [] none none none av6 hn6 (by simp;omega) hfs
 have ht7:=iO r3
 simp only[List.map_cons] at r1
 have hixd:ixD (.r F) (.s k1) st6=some (.r L,st6):=pN (av6.kp _ _ m3 hF) rfl hix
 refine⟨"rule",k1::ks,kk, .t acc',st7,?_,hkas,r2⟩
 rw[gE,eZ (p:=3) rfl,iN]
 simp only[List.map_cons,List.map_nil,List.cons_append,List.nil_append,List.replicate,Nat.sub_self,aW,cE,cX,cQ,dD,dI,aG,aI,bW,aM,List.set_cons_succ,List.set_cons_zero,cL,dG,cP,bC,cA,aV,bD,aZ,bK,eK,eI,fA,eU,fH,fB,fP,fO,fR,fT,dS,dU,dW,dX,dY,cY,cW,bE,bM,bT,cD,bN,bB,aT,aO,bA,aS,cR,cH,dE,dA,dF,dN,eD,eE,cZ,eB,dZ,eA,dO,cF,bV,bZ,cI,bU,bY,dH,dM,bX,dP,cB,dC,bI,cJ,bJ,fY,fZ,fU,gA,gB,gC,hnx',c0,hn2',fF (av02.kp _ _ m5 hK),hk1,g1',ht,aX hl1,hn5',oZ,aX h03,fF (av05.kp _ _ m5 hK),hkk,hs6,hT',lB,hixd,jX (av6.kp _ _ hLp hL),r1,ht7]
end
end K61
end
section
namespace K61
open PySem L2 PyProof.Rows
section
variable{st:Sto}{p:Nat}
noncomputable abbrev bgB:Sm':=sA (eOp modD (eOp addD (eOp addD (eOp mulD (eV 1) (eC (.i (6364136223846793)))) (eOp modD (eV 2) (eOp powD (eC (.i (10))) (eC (.i (30)))))) (eC (.i (1442695040888963)))) (eC (.i (2305843009213693951)))) (gN 1)
theorem yY{o0:D}{o3:Option D}:∀ (ns:List Int) (v:Int) (x2:Option D),0≤v→v<2305843009213693951→
  ∃ w y2,forD (fun _=>True) (gN 2) bgB (ns.map D.i) [some o0,some (.i v),x2,o3] st=some ((.nx,[some o0,some (.i w),y2,o3]),st)∧0≤w∧w<2305843009213693951
 |[],v,x2,h0,h1=>⟨v,x2,jT,h0,h1⟩
 |n::ns,v,x2,h0,h1=>by
  have hm:CMul v 6364136223846793:=.inl ⟨by omega,by omega⟩
  have hp:CPow 10 30:=by unfold CPow;decide
  have hq:(0:Int)<10 ^ Int.toNat 30:=by decide
  have hr:(0:Int)<2305843009213693951:=by decide
  generalize hw:(v * 6364136223846793+n % 10 ^ Int.toNat 30+1442695040888963) % 2305843009213693951=w
  have w0:0≤w:=by rw[← hw];exact Int.emod_nonneg _ (by decide)
  have w1:w<2305843009213693951:=by rw[← hw];exact Int.emod_lt_of_pos _ (by decide)
  obtain⟨z,y2,g1,g2,g3⟩:=yY (o0:=o0) (o3:=o3) ns w (some (.i n)) w0 w1
  refine⟨z,y2,?_,g2,g3⟩
  rw[List.map_cons,jK (env1:=[some o0,some (.i v),some (.i n),o3]) (st1:=st) (by simp only[bW,List.set_cons_succ,List.set_cons_zero]) (env2:=[some o0,some (.i w),some (.i n),o3]) (st2:=st)]
  ·exact g1
  ·simp only[cE,bC,eI,aG,aI,bK,nO,aX hm,aM,fA,aFn,aX hp,oZ,aX hq,bV,aX hr,bW,List.set_cons_succ,List.set_cons_zero,hw]
theorem aDB{ns:List Int}(hl:ns.length≤1000):∃ st',gZ [.f (ns.map D.i)] st=some (.r st.length,st')∧Sd st.length st'∧Ext st st':=by
 obtain⟨w,y2,g1,g2,g3⟩:=yY (st:=st) (o0:=.f (ns.map D.i)) (o3:=none) ns (((ns.map D.i).length:Nat)+3) none (by omega) (by simp;omega)
 by_cases hn:ns=[]
 ·subst hn
  refine⟨st++[C.l [.i w, .i 0]],?_,⟨w,0,aU _ _,g2,g3⟩,Ext.app _ _⟩
  rw[gZ,eZ (p:=1) rfl,jA]
  simp only[List.map_cons,List.map_nil,List.cons_append,List.nil_append,List.replicate,Nat.sub_self,aW,cE,cX,cQ,dD,dI,aG,aI,bW,aM,List.set_cons_succ,List.set_cons_zero,cL,dG,cP,bC,cA,aV,bD,aZ,bK,eK,eI,fA,eU,fH,fB,fP,fO,fR,fT,dS,dU,dW,dX,dY,cY,cW,bE,bM,bT,cD,bN,bB,aT,aO,bA,aS,cR,cH,dE,dA,dF,dN,eD,eE,cZ,eB,dZ,eA,dO,cF,bV,bZ,cI,bU,bY,dH,dM,bX,dP,cB,dC,bI,cJ,bJ,fY,fZ,fU,gA,gB,gC,lB,pA,aBv] at g1 ⊢
  rw[g1]
  simp only[List.map_cons,List.map_nil,List.cons_append,List.nil_append,List.replicate,Nat.sub_self,aW,cE,cX,cQ,dD,dI,aG,aI,bW,aM,List.set_cons_succ,List.set_cons_zero,cL,dG,cP,bC,cA,aV,bD,aZ,bK,eK,eI,fA,eU,fH,fB,fP,fO,fR,fT,dS,dU,dW,dX,dY,cY,cW,bE,bM,bT,cD,bN,bB,aT,aO,bA,aS,cR,cH,dE,dA,dF,dN,eD,eE,cZ,eB,dZ,eA,dO,cF,bV,bZ,cI,bU,bY,dH,dM,bX,dP,cB,dC,bI,cJ,bJ,fY,fZ,fU,gA,gB,gC,pA,show decide ((0:Int) < (([]:List D).length:Nat))=false from rfl]
 ·obtain⟨ms,y,rfl⟩:∃ ms y,ns=ms++[y]:=⟨ns.dropLast,ns.getLast hn,(List.dropLast_concat_getLast hn).symm⟩
  have hlast:atI ((ms++[y]).map D.i) (-1)=some (.i y):=by
   unfold atI ixN
   have e:(-1+(((ms.length:Nat):Int)+1)).toNat=ms.length:=by omega
   rw[if_neg (by decide),if_pos (by simp;omega)]
   simp[e]
  have hix:ixD (.f ((ms++[y]).map D.i)) (.i (-1)) st=some (.i y,st):=by
   have:ixV st (.f ((ms++[y]).map D.i)) (.i (-1))=some (.i y):=hlast
   unfold ixD
   rw[this]
  have hgt:decide ((0:Int) < (((ms++[y]).map D.i).length:Nat))=true:=by simp
  have h02:(0:Int)<2:=by decide
  by_cases hy:(y % 2==0)=true
  ·have hcd:CDiv (if y<0 then -y else y) 2:=⟨by decide,by decide⟩
   refine⟨st++[C.l [.i w, .i ((if y<0 then -y else y) / 2)]],?_,⟨w,_,aU _ _,g2,g3⟩,Ext.app _ _⟩
   rw[gZ,eZ (p:=1) rfl,jA]
   simp only[List.map_nil,List.map_cons,List.nil_append,List.replicate,List.cons_append,aW,cE,bC,aV,bD,eK,aG,aI,aZ,aM,pA,bK,bV,bW,List.set_cons_succ,List.set_cons_zero,cL,lB,cB,aBv,g1]
   simp only[aW,cE,cX,cQ,bT,bM,bC,cA,aV,bE,bD,eK,eI,eU,aG,aI,aZ,aM,pA,bK,dO,hgt,bN,bB,tW,hix,oZ,aO,aX h02,cZ,hy,aFr,aCX,aX hcd,bW,List.set_cons_succ,List.set_cons_zero,cL,cW,bA,fU,aS,cP]
  ·have hy':(y % 2==0)=false:=by simpa using hy
   refine⟨st++[C.l [.i w, .i 0]],?_,⟨w,0,aU _ _,g2,g3⟩,Ext.app _ _⟩
   rw[gZ,eZ (p:=1) rfl,jA]
   simp only[List.map_nil,List.map_cons,List.nil_append,List.replicate,List.cons_append,aW,cE,bC,aV,bD,eK,aG,aI,aZ,aM,pA,bK,bV,bW,List.set_cons_succ,List.set_cons_zero,cL,lB,cB,aBv,g1]
   simp only[aW,cE,cX,cQ,dD,bT,bM,bC,cA,aV,bE,bD,eK,eI,eU,aG,aI,aZ,aM,pA,bK,dO,hgt,bN,bB,aT,tW,hix,oZ,aO,aX h02,cZ,hy',bW,List.set_cons_succ,List.set_cons_zero,cL,cW,bA,fU,aS,cP]
end
section
variable{st:Sto}{p:Nat}
abbrev LT:Str:="bcdfghjklmnpqrstvwxyz"
abbrev GT:Str:="BCDFGHJKLMNPQRSTVWXYZ"
def cons:List Nat:=[98,99,100,102,103,104,106,107,108,109,110,112,113,114,115,116,118,119,120,121,122]
theorem aFD:LT.cps.toList=cons:=by decide +kernel
theorem aFE:LT.length=21:=by decide +kernel
theorem aCa:GT.length=21:=by decide +kernel
theorem aDC(x:Str):x.cps.toList.length=x.length:=by simp[Str.length]
theorem mS(x y:Str):(x++y).length=x.length+y.length:=Str.length_append x y
theorem kE(x y:Str):(x++y).cps.toList=x.cps.toList++y.cps.toList:=by
 show(x.cps++y.cps).toList=_
 simp
theorem pH{x:Str}{l u:Option Int}{ch:Nat}(h:ch∈(Txt.slice x l u).cps.toList):ch∈x.cps.toList:=by
 unfold Txt.slice at h
 split at h
 ·exact h
 ·simp only[List.mem_filterMap] at h
  obtain⟨i,_,hi⟩:=h
  exact List.mem_of_getElem? (i:=i) (by simpa using hi)
theorem iL{x:Str}{l u:Option Int}:(Txt.slice x l u).length≤x.length:=Txt.slice_le x l u
def lt(i:Nat):Str:=⟨#[cons.getD i 0]⟩
theorem lS(i:Nat):(lt i).cps.toList=[cons.getD i 0]:=rfl
theorem xM(i:Nat):(lt i).length=1:=rfl
theorem aDR:∀ i<21,∀ j<21,i≠j→cons.getD i 0≠cons.getD j 0:=by decide +kernel
theorem aFF{z:Str}{i:Nat}{ch:Nat}(hz:z.length≤1000)(h:z.cps.toList[i]?=some ch):ixD (.s z) (.i (i:Nat)) st=some (.s ⟨#[ch]⟩,st):=by
 have:ixV st (.s z) (.i (i:Nat))=some (.s ⟨#[ch]⟩):=by
  show(if z.length≤sizeLine then(atI z.cps.toList ((i:Nat):Int)).map _ else none)=_
  rw[if_pos (by rw[sizeLine_eq];omega),jL h]
  rfl
 unfold ixD
 rw[this]
theorem aDS{i:Nat}(h:i<21):ixD (.s LT) (.i (i:Nat)) st=some (.s (lt i),st):=by
 have h2:i<cons.length:=h
 refine aFF (by rw[aFE];omega) ?_
 rw[aFD,List.getElem?_eq_getElem h2,List.getD_eq_getElem?_getD,List.getElem?_eq_getElem h2]
 rfl
structure NmOk (x:Str):Prop where
 ne:x.cps.toList≠[]
 all:∀ ch∈x.cps.toList,ch∈cons
 le:x.length≤13
def grF(ch:Nat):Bool:=match Builtin.Str.occurrences LT ⟨#[ch]⟩ 0 LT.length 1 with
 |i::_=>decide (i<21)
 |[]=>false
theorem aFG:∀ ch∈cons,grF ch=true:=by decide +kernel
theorem aDD{x:Str}(h:NmOk x):∃ y,iK [.s x] st=some (.s y,st):=by
 have hlx:=h.le
 cases hx:x.cps.toList with
 |nil=>exact absurd hx h.ne
 |cons ch rest=>
  have hg:=aFG ch (h.all ch (by rw[hx];simp))
  unfold grF at hg
  cases ho:Builtin.Str.occurrences LT ⟨#[ch]⟩ 0 LT.length 1 with
  |nil=>rw[ho] at hg;cases hg
  |cons i r=>
   rw[ho] at hg
   have hi:i<21:=of_decide_eq_true hg
   have h1:ixD (.s x) (.i 0) st=some (.s ⟨#[ch]⟩,st):=aFF (i:=0) (by omega) (by rw[hx];rfl)
   have h2:indexD (.s LT) [.s ⟨#[ch]⟩] st=some (.i (i:Nat),st):=by
    show(match Builtin.Str.occurrences LT ⟨#[ch]⟩ 0 LT.length 1 with |i::_=>some (D.i (i:Nat),st)|[]=>none)=_
    rw[ho]
   have hil:i<GT.cps.toList.length:=by rw[aDC,aCa];exact hi
   have h3:=aFF (st:=st) (z:=GT) (i:=i) (by rw[aCa];omega) (List.getElem?_eq_getElem hil)
   have hl1:x.length≤sizeLine:=by rw[sizeLine_eq];omega
   have hsl:=iL (x:=x) (l:=some 1) (u:=none)
   have hl2:(⟨#[GT.cps.toList[i]]⟩:Str).length+(Txt.slice x (some 1) none).length≤sizeLine:=by
    rw[sizeLine_eq,show(⟨#[GT.cps.toList[i]]⟩:Str).length=1 from rfl];omega
   refine⟨(⟨#[GT.cps.toList[i]]⟩:Str)++Txt.slice x (some 1) none,?_⟩
   ·rw[iK,eZ (p:=1) rfl,lQ]
    simp only[List.map_cons,List.map_nil,List.cons_append,List.nil_append,List.replicate,Nat.sub_self,aW,cE,cX,cQ,dD,dI,aG,aI,bW,aM,List.set_cons_succ,List.set_cons_zero,cL,dG,cP,bC,cA,aV,bD,aZ,bK,eK,eI,fA,eU,fH,fB,fP,fO,fR,fT,dS,dU,dW,dX,dY,cY,cW,bE,bM,bT,cD,bN,bB,aT,aO,bA,aS,cR,cH,dE,dA,dF,dN,eD,eE,cZ,eB,dZ,eA,dO,cF,bV,bZ,cI,bU,bY,dH,dM,bX,dP,cB,dC,bI,cJ,bJ,fY,fZ,fU,gA,gB,gC,aFp,h1,h2,h3,yI,aX hl1,aX hl2]
def nmA(stem:Str)(at':Int)(t k:Nat):Str:=Txt.slice stem none (some at')++lt ((t+5 * k) % 21)++Txt.slice stem (some at') none
def nmB(stem:Str)(t k:Nat):Str:=lt ((t+5 * k) % 21)++Txt.slice stem none (some (((k:Nat):Int) % (((stem.length:Nat):Int)+1)))
theorem aCb{i:Nat}(h:i<21):cons.getD i 0∈cons:=by
 have h2:i<cons.length:=h
 rw[List.getD_eq_getElem?_getD,List.getElem?_eq_getElem h2]
 exact List.getElem_mem h2
theorem aFH{stem:Str}{a:Int}{t k:Nat}(hs:∀ ch∈stem.cps.toList,ch∈cons)(hl:stem.length≤6):NmOk (nmA stem a t k):=by
 have hs1:=iL (x:=stem) (l:=none) (u:=some a)
 have hs2:=iL (x:=stem) (l:=some a) (u:=none)
 unfold nmA
 refine⟨by rw[kE,kE,lS];simp,fun ch h=>?_,by rw[mS,mS,xM];omega⟩
 rw[kE,kE,lS] at h
 simp only[List.mem_append,List.mem_singleton] at h
 rcases h with (h|rfl)|h
 ·exact hs ch (pH h)
 ·exact aCb (Nat.mod_lt _ (by decide))
 ·exact hs ch (pH h)
theorem aFI{stem:Str}{t k:Nat}(hs:∀ ch∈stem.cps.toList,ch∈cons)(hl:stem.length≤6):NmOk (nmB stem t k):=by
 have hsl:=iL (x:=stem) (l:=none) (u:=some (((k:Nat):Int) % (((stem.length:Nat):Int)+1)))
 unfold nmB
 refine⟨?_,fun ch h=>?_,?_⟩
 ·rw[kE,lS];simp
 ·rw[kE,lS] at h
  simp only[List.mem_append,List.mem_singleton] at h
  rcases h with rfl|h
  ·exact aCb (Nat.mod_lt _ (by decide))
  ·exact hs ch (pH h)
 ·rw[mS,xM];omega
theorem aFJ{stem:Str}{t:Nat}:nmB stem t 1≠nmB stem t 2:=by
 intro h
 have h1:=congrArg (fun x:Str=>x.cps.toList) h
 simp only[nmB,kE,lS,List.cons_append,List.nil_append,List.cons.injEq] at h1
 exact aDR ((t+5 * 1) % 21) (Nat.mod_lt _ (by decide)) ((t+5 * 2) % 21) (Nat.mod_lt _ (by decide)) (by omega) h1.1
theorem aFK{stem:Str}{a:Int}{t:Nat}:nmA stem a t 1≠nmA stem a t 2:=by
 intro h
 have h1:=congrArg (fun x:Str=>x.cps.toList) h
 simp only[nmA,kE,lS,List.append_assoc,List.append_cancel_left_eq,List.cons_append,List.nil_append,List.cons.injEq] at h1
 exact aDR ((t+5 * 1) % 21) (Nat.mod_lt _ (by decide)) ((t+5 * 2) % 21) (Nat.mod_lt _ (by decide)) (by omega) h1.1
noncomputable abbrev nmL1:Sm':=sA (eOp addD (eV 2) (eIx (eV 1) (eCl (aF) (aC (eV 0) (aC (eC (.i (21))) (aN)))))) (gN 2)
theorem yZ{o4 o5 o6 o7:Option D}:∀ (xs:List D) (z:Str) (x3:Option D) (st:Sto),Sd p st→z.length+xs.length≤6→(∀ ch∈z.cps.toList,ch∈cons)→
  ∃ (z':Str) (y3:Option D) (st':Sto),forD (fun _=>True) (gN 3) nmL1 xs [some (.r p),some (.s LT),some (.s z),x3,o4,o5,o6,o7] st=some ((.nx,[some (.r p),some (.s LT),some (.s z'),y3,o4,o5,o6,o7]),st')∧Av p st st'∧z'.length≤6∧∀ ch∈z'.cps.toList,ch∈cons
 |[],z,x3,st,sd,hl,hz=>⟨z,x3,st,jT, .refl sd,by simpa using hl,hz⟩
 |x::xs,z,x3,st,sd,hl,hz=>by
  obtain⟨d,st1,h1,hd,av⟩:=fN (n:=21) sd (by omega) (by omega)
  have h1':aF [.r p, .i 21] st=some (.i (d:Nat),st1):=h1
  simp only[List.length_cons] at hl
  have hln:z.length+(lt d).length≤sizeLine:=by rw[sizeLine_eq,xM];omega
  obtain⟨z',y3,st',g1,g2,g3,g4⟩:=yZ (o4:=o4) (o5:=o5) (o6:=o6) (o7:=o7) xs (z++lt d) (some x) st1 av.sd (by rw[mS,xM];omega) (fun ch h=>by
   rw[kE,lS] at h
   simp only[List.mem_append,List.mem_singleton] at h
   rcases h with h|rfl
   ·exact hz ch h
   ·exact aCb hd)
  refine⟨z',y3,st',?_,av.trans g2,g3,g4⟩
  rw[jK (env1:=[some (.r p),some (.s LT),some (.s z),some x,o4,o5,o6,o7]) (st1:=st) (by simp only[bW,List.set_cons_succ,List.set_cons_zero]) (env2:=[some (.r p),some (.s LT),some (.s (z++lt d)),some x,o4,o5,o6,o7]) (st2:=st1)]
  ·exact g1
  ·simp only[List.map_cons,List.map_nil,List.cons_append,List.nil_append,List.replicate,Nat.sub_self,aW,cE,cX,cQ,dD,dI,aG,aI,bW,aM,List.set_cons_succ,List.set_cons_zero,cL,dG,cP,bC,cA,aV,bD,aZ,bK,eK,eI,fA,eU,fH,fB,fP,fO,fR,fT,dS,dU,dW,dX,dY,cY,cW,bE,bM,bT,cD,bN,bB,aT,aO,bA,aS,cR,cH,dE,dA,dF,dN,eD,eE,cZ,eB,dZ,eA,dO,cF,bV,bZ,cI,bU,bY,dH,dM,bX,dP,cB,dC,bI,cJ,bJ,fY,fZ,fU,gA,gB,gC,h1',aDS hd,aX hln]
theorem mT{α:Type}{c:Sto→Prop}{te:En→M D}{cap:En}{f g:α→D}{ps:List α}(h:∀ p∈ps,te (some (f p)::cap) st=some (g p,st))(hc:c st):
  compD c bd1 (fun _=>L2.ret true) te cap (ps.map f) [] st=some (ps.map g,st):=by
 obtain⟨st',g1,g2⟩:=comp_map (c:=c) (te:=te) (cap:=cap) (I:=fun s=>s=st) (f:=f) (g:=g) ps [] st (fun q hq s hs=>by subst hs;exact⟨s,h q hq,rfl⟩) (fun s hs=>by rw[hs];exact hc) rfl
 subst g2
 simpa using g1
theorem rg21:(List.range (Int.toNat 21)).map (fun(k:Nat)=>D.i (0+(k:Int)))=(List.range 21).map fun(k:Nat)=>D.i (k:Int):=by
 refine List.map_congr_left fun k _=>?_
 rw[Int.zero_add]
theorem rg21':-(2 ^ 62)≤(21:Int)∧(21:Int)<2 ^ 62:=by decide
theorem ln21{f:Nat→D}:((List.range 21).map f).length<sizeLine:=by rw[sizeLine_eq];simp
theorem one1{x:D}:[x].length=1:=rfl
def sm(t k:Nat):D:=.s (lt ((t+5 * k) % 21))
theorem aDE{E:En}{t:Nat}(ht:t<21)(hE:capD [1,4] E=[some (.s LT),some (.i (t:Nat))]):
  eCo [1,4] (iR1 (aC (eC (.i (21))) (aN))) bd1 ((fun _=>L2.ret true)) (eIx (eV 1) (eOp modD (eOp addD (eV 2) (eOp mulD (eC (.i (5))) (eV 0))) (eC (.i (21))))) E st=some (.r st.length,st++[C.l ((List.range 21).map (sm t))]):=by
 have hc:=mT (st:=st) (c:=fun _=>True) (te:=eIx (eV 1) (eOp modD (eOp addD (eV 2) (eOp mulD (eC (.i (5))) (eV 0))) (eC (.i (21))))) (cap:=[some (.s LT),some (.i (t:Nat))]) (f:=fun(k:Nat)=>D.i (k:Int)) (g:=sm t) (ps:=List.range 21) (fun k hk=>by
  have hk':k<21:=List.mem_range.mp hk
  have hm:CMul 5 ((k:Nat):Int):=.inl ⟨by decide,by decide⟩
  have h0:(0:Int)<21:=by decide
  have e:(((t:Nat):Int)+5 * ((k:Nat):Int)) % 21=(((t+5 * k) % 21:Nat):Int):=by omega
  simp only[List.map_cons,List.map_nil,List.cons_append,List.nil_append,List.replicate,Nat.sub_self,aW,cE,cX,cQ,dD,dI,aG,aI,bW,aM,List.set_cons_succ,List.set_cons_zero,cL,dG,cP,bC,cA,aV,bD,aZ,bK,eK,eI,fA,eU,fH,fB,fP,fO,fR,fT,dS,dU,dW,dX,dY,cY,cW,bE,bM,bT,cD,bN,bB,aT,aO,bA,aS,cR,cH,dE,dA,dF,dN,eD,eE,cZ,eB,dZ,eA,dO,cF,bV,bZ,cI,bU,bY,dH,dM,bX,dP,cB,dC,bI,cJ,bJ,fY,fZ,fU,gA,gB,gC,nO,aX hm,oZ,aX h0,e,aDS (Nat.mod_lt _ (show 0<21 by decide)),sm]) trivial
 simp only[fI,oY,bD,bK,aG,aI,aZ,aM,aO,aX one1,lD,aX rg21',rg21,aX ln21,hE,hc,aS]
theorem aGD{E:En}{t l:Nat}{z:Str}{a:Int}(hz:z.length≤6)(hl:st[l]?=some (.l ((List.range 21).map (sm t))))(h5:eV 5 E st=some (.r l,st))(hE:capD [6,2] E=[some (.i a),some (.s z)]):
  eCo [6,2] (iS (eV 5)) bd1 ((fun _=>L2.ret true)) (eOp addD (eOp addD (eSl (eV 2) (oN) (oS (eV 1))) (eV 0)) (eSl (eV 2) (oS (eV 1)) (oN))) E st=some (.r st.length,st++[C.l ((List.range 21).map fun k=>D.s (nmA z a t k))]):=by
 have hl1:z.length≤sizeLine:=by rw[sizeLine_eq];omega
 have hs1:=iL (x:=z) (l:=none) (u:=some a)
 have hs2:=iL (x:=z) (l:=some a) (u:=none)
 have hc:=mT (st:=st) (c:=fun st=>st[l]?=some (.l ((List.range 21).map (sm t)))) (te:=eOp addD (eOp addD (eSl (eV 2) (oN) (oS (eV 1))) (eV 0)) (eSl (eV 2) (oS (eV 1)) (oN))) (cap:=[some (.i a),some (.s z)]) (f:=sm t) (g:=fun k=>D.s (nmA z a t k)) (ps:=List.range 21) (fun k hk=>by
  have l1:(Txt.slice z none (some a)).length+(lt ((t+5 * k) % 21)).length≤sizeLine:=by rw[sizeLine_eq,xM];omega
  have l2:(Txt.slice z none (some a)++lt ((t+5 * k) % 21)).length+(Txt.slice z (some a) none).length≤sizeLine:=by rw[sizeLine_eq,mS,xM];omega
  simp only[List.map_cons,List.map_nil,List.cons_append,List.nil_append,List.replicate,Nat.sub_self,aW,cE,cX,cQ,dD,dI,aG,aI,bW,aM,List.set_cons_succ,List.set_cons_zero,cL,dG,cP,bC,cA,aV,bD,aZ,bK,eK,eI,fA,eU,fH,fB,fP,fO,fR,fT,dS,dU,dW,dX,dY,cY,cW,bE,bM,bT,cD,bN,bB,aT,aO,bA,aS,cR,cH,dE,dA,dF,dN,eD,eE,cZ,eB,dZ,eA,dO,cF,bV,bZ,cI,bU,bY,dH,dM,bX,dP,cB,dC,bI,cJ,bJ,fY,fZ,fU,gA,gB,gC,sm,yI,aX hl1,aX l1,aX l2,nmA]) hl
 simp only[fI,cB,h5,aG,aI,jX hl,aO,aX ln21,hE,hc,aS]
theorem aGE{E:En}{t l:Nat}{z:Str}(hz:z.length≤6)(hl:st[l]?=some (.l ((List.range 21).map (sm t))))(hE:capD [5,2] E=[some (.r l),some (.s z)]):
  eCo [5,2] (iR1 (aC (eC (.i (21))) (aN))) bd1 ((fun _=>L2.ret true)) (eOp addD (eIx (eV 1) (eV 0)) (eSl (eV 2) (oN) (oS (eOp modD (eV 0) (eOp addD (eCl lenD (aC (eV 2) (aN))) (eC (.i (1)))))))) E st=some (.r st.length,st++[C.l ((List.range 21).map fun k=>D.s (nmB z t k))]):=by
 have hl1:z.length≤sizeLine:=by rw[sizeLine_eq];omega
 have hc:=mT (st:=st) (c:=fun _=>True) (te:=eOp addD (eIx (eV 1) (eV 0)) (eSl (eV 2) (oN) (oS (eOp modD (eV 0) (eOp addD (eCl lenD (aC (eV 2) (aN))) (eC (.i (1)))))))) (cap:=[some (.r l),some (.s z)]) (f:=fun(k:Nat)=>D.i (k:Int)) (g:=fun k=>D.s (nmB z t k)) (ps:=List.range 21) (fun k hk=>by
  have hk':k<21:=List.mem_range.mp hk
  have hat:atI ((List.range 21).map (sm t)) ((k:Nat):Int)=some (sm t k):=jL (by rw[List.getElem?_map,List.getElem?_range hk'];rfl)
  have h0:(0:Int) < ((z.length:Nat):Int)+1:=by omega
  have hs1:=iL (x:=z) (l:=none) (u:=some (((k:Nat):Int) % (((z.length:Nat):Int)+1)))
  have l1:(lt ((t+5 * k) % 21)).length+(Txt.slice z none (some (((k:Nat):Int) % (((z.length:Nat):Int)+1)))).length≤sizeLine:=by rw[sizeLine_eq,xM];omega
  simp only[List.map_cons,List.map_nil,List.cons_append,List.nil_append,List.replicate,Nat.sub_self,aW,cE,cX,cQ,dD,dI,aG,aI,bW,aM,List.set_cons_succ,List.set_cons_zero,cL,dG,cP,bC,cA,aV,bD,aZ,bK,eK,eI,fA,eU,fH,fB,fP,fO,fR,fT,dS,dU,dW,dX,dY,cY,cW,bE,bM,bT,cD,bN,bB,aT,aO,bA,aS,cR,cH,dE,dA,dF,dN,eD,eE,cZ,eB,dZ,eA,dO,cF,bV,bZ,cI,bU,bY,dH,dM,bX,dP,cB,dC,bI,cJ,bJ,fY,fZ,fU,gA,gB,gC,fF hl,hat,sm,wW hl1,oZ,aX h0,yI,aX hl1,aX l1,nmB]) trivial
 simp only[fI,oY,bD,bK,aG,aI,aZ,aM,aO,aX one1,lD,aX rg21',rg21,aX ln21,hE,hc,aS]
def nmC(x:Str):Str:=Txt.slice x none (some 1)++("a":Str)++Txt.slice x (some 1) none
theorem aDT:("a":Str).length=1:=by decide +kernel
theorem aGF{E:En}{l:Nat}{nm:Nat→Str}(hn:∀ k,(nm k).length≤13)(hl:st[l]?=some (.l ((List.range 21).map fun k=>D.s (nm k))))(h7:eV 7 E st=some (.r l,st)):
  eCo [] (iS (eV 7)) bd1 ((fun _=>L2.ret true)) (eOp addD (eOp addD (eSl (eV 0) (oN) (oS (eC (.i (1))))) (eC (.s "a"))) (eSl (eV 0) (oS (eC (.i (1)))) (oN))) E st=some (.r st.length,st++[C.l ((List.range 21).map fun k=>D.s (nmC (nm k)))]):=by
 have hc:=mT (st:=st) (c:=fun st=>st[l]?=some (.l ((List.range 21).map fun k=>D.s (nm k)))) (te:=eOp addD (eOp addD (eSl (eV 0) (oN) (oS (eC (.i (1))))) (eC (.s "a"))) (eSl (eV 0) (oS (eC (.i (1)))) (oN))) (cap:=[]) (f:=fun k=>D.s (nm k)) (g:=fun k=>D.s (nmC (nm k))) (ps:=List.range 21) (fun k hk=>by
  have h1:=hn k
  have hl1:(nm k).length≤sizeLine:=by rw[sizeLine_eq];omega
  have hs1:=iL (x:=nm k) (l:=none) (u:=some 1)
  have hs2:=iL (x:=nm k) (l:=some 1) (u:=none)
  have l1:(Txt.slice (nm k) none (some 1)).length+("a":Str).length≤sizeLine:=by rw[sizeLine_eq,aDT];omega
  have l2:(Txt.slice (nm k) none (some 1)++("a":Str)).length+(Txt.slice (nm k) (some 1) none).length≤sizeLine:=by rw[sizeLine_eq,mS,aDT];omega
  simp only[List.map_cons,List.map_nil,List.cons_append,List.nil_append,List.replicate,Nat.sub_self,aW,cE,cX,cQ,dD,dI,aG,aI,bW,aM,List.set_cons_succ,List.set_cons_zero,cL,dG,cP,bC,cA,aV,bD,aZ,bK,eK,eI,fA,eU,fH,fB,fP,fO,fR,fT,dS,dU,dW,dX,dY,cY,cW,bE,bM,bT,cD,bN,bB,aT,aO,bA,aS,cR,cH,dE,dA,dF,dN,eD,eE,cZ,eB,dZ,eA,dO,cF,bV,bZ,cI,bU,bY,dH,dM,bX,dP,cB,dC,bI,cJ,bJ,fY,fZ,fU,gA,gB,gC,yI,aX hl1,aX l1,aX l2,nmC]) hl
 simp only[fI,cB,h7,aG,aI,jX hl,aO,aX ln21,show capD [] E=[] from rfl,hc,aS]
structure Nms (ns:List Str):Prop where
 ex:∃ (x0 x1 x2 x3 x4 x5 x6 x7 x8 x9:Str) (rest:List Str),ns=x0::x1::x2::x3::x4::x5::x6::x7::x8::x9::rest∧rest.length=32∧(∀ x∈[x3,x4,x5,x6,x7,x8,x9],NmOk x)∧x1≠x2
theorem aDF(sd:Sd p st):∃ (l:Nat) (ns:List Str) (st':Sto),iZ [.r p] st=some (.r l,st')∧Av p st st'∧l≠p∧st'[l]?=some (.l (ns.map D.s))∧Nms ns:=by
 obtain⟨d,st1,hn1,hd1,av1⟩:=fN (n:=7) sd (by omega) (by omega)
 have hn1':aF [.r p, .i 7] st=some (.i (d:Nat),st1):=hn1
 obtain⟨z,y3,st2,g1,av2,hz,hzc⟩:=yZ (p:=p) (o4:=none) (o5:=none) (o6:=none) (o7:=none) ((List.range d).map fun(k:Nat)=>D.i (0+(k:Int))) "" none st1 av1.sd (by rw[show("":Str).length=0 by decide +kernel];simp;omega) (by rw[show("":Str).cps.toList=[] by decide +kernel];simp)
 have av02:=av1.trans av2
 obtain⟨t,st3,hn3,ht,av3⟩:=fN (n:=21) av02.sd (by omega) (by omega)
 have hn3':aF [.r p, .i 21] st2=some (.i (t:Nat),st3):=hn3
 have av03:=av02.trans av3
 have hsome:=aDE (st:=st3) (E:=[some (.r p),some (.s LT),some (.s z),y3,some (.i (t:Nat)),none,none,none]) ht rfl
 have hn4:=aU st3 (C.l ((List.range 21).map (sm t)))
 have av04:=av03.ext (Ext.app st3 [C.l ((List.range 21).map (sm t))])
 have hp4:st3.length≠p:=by have:=av03.sd.lt;omega
 generalize st3++[C.l ((List.range 21).map (sm t))]=st4 at hsome hn4 av04
 generalize st3.length=l5 at hsome hn4 hp4
 obtain⟨a,st5,hn5,ha,av5⟩:=fN (n:=z.length+1) av04.sd (by omega) (by omega)
 have av05:=av04.trans av5
 have hl5:=av5.kp _ _ hp4 hn4
 have hnA:=aGD (st:=st5) (E:=[some (.r p),some (.s LT),some (.s z),y3,some (.i (t:Nat)),some (.r l5),some (.i (a:Nat)),none]) hz hl5 rfl rfl
 have hl5':=Ext.app st5 [C.l ((List.range 21).map fun k=>D.s (nmA z ((a:Nat):Int) t k))] _ _ hl5
 have hn6:=aU st5 (C.l ((List.range 21).map fun k=>D.s (nmA z ((a:Nat):Int) t k)))
 have av06:=av05.ext (Ext.app st5 [C.l ((List.range 21).map fun k=>D.s (nmA z ((a:Nat):Int) t k))])
 have hp6:st5.length≠p:=by have:=av05.sd.lt;omega
 generalize st5++[C.l ((List.range 21).map fun k=>D.s (nmA z ((a:Nat):Int) t k))]=st6 at hnA hl5' hn6 av06
 generalize st5.length=l7 at hnA hn6 hp6
 obtain⟨d3,st7,hn7,hd7,av7⟩:=fN (n:=3) av06.sd (by omega) (by omega)
 have hn7':aF [.r p, .i 3] st6=some (.i (d3:Nat),st7):=hn7
 have av07:=av06.trans av7
 have hz1:z.length≤sizeLine:=by rw[sizeLine_eq];omega
 have hn5':aF [.r p, .i (((z.length:Nat):Int)+1)] st4=some (.i (a:Nat),st5):=hn5
 have hrg:-(2 ^ 62)≤((d:Nat):Int)∧((d:Nat):Int)<2 ^ 62:=by omega
 have tail:∀ (E:En) (nm:Nat→Str) (l:Nat) (s:Sto),(∀ s,eV 7 E s=some (.r l,s))→(∀ k,NmOk (nm k))→nm 1≠nm 2→s[l]?=some (.l ((List.range 21).map fun k=>D.s (nm k)))→Av p st s→
   ∃ (l':Nat) (ns:List Str) (st':Sto),f3 (sR (eOp addD (eV 7) (eCo [] (iS (eV 7)) bd1 ((fun _=>L2.ret true)) (eOp addD (eOp addD (eSl (eV 0) (oN) (oS (eC (.i (1))))) (eC (.s "a"))) (eSl (eV 0) (oS (eC (.i (1)))) (oN))))) E s)=some (.r l',st')∧Av p st st'∧l'≠p∧st'[l']?=some (.l (ns.map D.s))∧Nms ns:=by
  intro E nm l s h7 hok hne hl av
  have h1:=aGF (st:=s) (E:=E) (fun k=>(hok k).le) hl (h7 s)
  have e1:=Ext.app s [C.l ((List.range 21).map fun k=>D.s (nmC (nm k)))]
  have h2:=aU s (C.l ((List.range 21).map fun k=>D.s (nmC (nm k))))
  have hadd:=lR (e1 _ _ hl) h2 (by rw[sizeLine_eq];simp)
  have av1:=av.ext e1
  generalize s++[C.l ((List.range 21).map fun k=>D.s (nmC (nm k)))]=s1 at h1 e1 h2 hadd av1
  refine⟨s1.length,((List.range 21).map nm)++(List.range 21).map fun k=>nmC (nm k),_,?_,av1.ext (Ext.app s1 [C.l (((List.range 21).map fun k=>D.s (nm k))++(List.range 21).map fun k=>D.s (nmC (nm k)))]),by have:=av1.sd.lt;omega,?_,?_⟩
  ·simp only[cQ,bC,h7,aG,aI,h1,hadd,aM,cP]
  ·rw[aU,List.map_append,List.map_map,List.map_map]
   rfl
  ·refine⟨nm 0,nm 1,nm 2,nm 3,nm 4,nm 5,nm 6,nm 7,nm 8,nm 9,[nm 10,nm 11,nm 12,nm 13,nm 14,nm 15,nm 16,nm 17,nm 18,nm 19,nm 20]++(List.range 21).map fun k=>nmC (nm k),rfl,by simp,fun x hx=>?_,hne⟩
   simp only[List.mem_cons,List.not_mem_nil,or_false] at hx
   rcases hx with rfl|rfl|rfl|rfl|rfl|rfl|rfl<;>exact hok _
 by_cases h3:d3=0
 ·subst h3
  have hl57:=av7.kp _ _ hp4 hl5'
  have hnB:=aGE (st:=st7) (E:=[some (.r p),some (.s LT),some (.s z),y3,some (.i (t:Nat)),some (.r l5),some (.i (a:Nat)),some (.r l7)]) hz hl57 rfl
  obtain⟨l',ns,st',q1,q2⟩:=tail [some (.r p),some (.s LT),some (.s z),y3,some (.i (t:Nat)),some (.r l5),some (.i (a:Nat)),some (.r st7.length)] (nmB z t) st7.length _ (fun _=>rfl) (fun k=>aFI hzc hz) aFJ (aU st7 (C.l ((List.range 21).map fun k=>D.s (nmB z t k)))) (av07.ext (Ext.app _ _))
  refine⟨l',ns,st',?_,q2⟩
  rw[iZ,eZ (p:=1) rfl,kB]
  simp only[List.map_cons,List.map_nil,List.cons_append,List.nil_append,List.replicate,Nat.sub_self,aW,cE,cX,cQ,dD,dI,aG,aI,bW,aM,List.set_cons_succ,List.set_cons_zero,cL,dG,cP,bC,cA,aV,bD,aZ,bK,eK,eI,fA,eU,fH,fB,fP,fO,fR,fT,dS,dU,dW,dX,dY,cY,cW,bE,bM,bT,cD,bN,bB,aT,aO,bA,aS,cR,cH,dE,dA,dF,dN,eD,eE,cZ,eB,dZ,eA,dO,cF,bV,bZ,cI,bU,bY,dH,dM,bX,dP,cB,dC,bI,cJ,bJ,fY,fZ,fU,gA,gB,gC,lB,oY,hn1',aX one1,lD,aX hrg,Int.toNat_natCast,g1,hn3',hsome,wW hz1,hn5',hnA,hn7',show(((0:Nat):Int)==0)=true from rfl,hnB]
  exact q1
 ·have c3:(((d3:Nat):Int)==0)=false:=by simp;omega
  obtain⟨l',ns,st',q1,q2⟩:=tail [some (.r p),some (.s LT),some (.s z),y3,some (.i (t:Nat)),some (.r l5),some (.i (a:Nat)),some (.r l7)] (nmA z ((a:Nat):Int) t) l7 st7 (fun _=>rfl) (fun k=>aFH hzc hz) aFK (av7.kp _ _ hp6 hn6) av07
  refine⟨l',ns,st',?_,q2⟩
  rw[iZ,eZ (p:=1) rfl,kB]
  simp only[List.map_cons,List.map_nil,List.cons_append,List.nil_append,List.replicate,Nat.sub_self,aW,cE,cX,cQ,dD,dI,aG,aI,bW,aM,List.set_cons_succ,List.set_cons_zero,cL,dG,cP,bC,cA,aV,bD,aZ,bK,eK,eI,fA,eU,fH,fB,fP,fO,fR,fT,dS,dU,dW,dX,dY,cY,cW,bE,bM,bT,cD,bN,bB,aT,aO,bA,aS,cR,cH,dE,dA,dF,dN,eD,eE,cZ,eB,dZ,eA,dO,cF,bV,bZ,cI,bU,bY,dH,dM,bX,dP,cB,dC,bI,cJ,bJ,fY,fZ,fU,gA,gB,gC,lB,oY,hn1',aX one1,lD,aX hrg,Int.toNat_natCast,g1,hn3',hsome,wW hz1,hn5',hnA,hn7',c3]
  exact q1
end
end K61
end
section
namespace K61
open PySem L2 PyProof.Rows
section
variable{st s:Sto}{p:Nat}
theorem zA{xs:List D}{k m:Nat}(h:k≤m)(h2:m≤xs.length):L2.cutD xs (some (k:Int)) (some (m:Int))=(xs.drop k).take (m - k):=by
 unfold L2.cutD
 rw[HT.nP,HT.nP,Nat.min_eq_left h2,Nat.min_eq_left (show k≤xs.length by omega)]
theorem vW{xs:List D}{m:Nat}:L2.cutD xs none (some (m:Int))=xs.take (min m xs.length):=by
 unfold L2.cutD
 rw[HT.nP,HT.qG]
 simp
theorem Nms.len{ns:List Str}(h:Nms ns):ns.length=42:=by
 obtain⟨x0,x1,x2,x3,x4,x5,x6,x7,x8,x9,rest,rfl,hr,_⟩:=h.ex
 simp[hr]
theorem Nms.at{ns:List Str}(h:Nms ns){i:Nat}(hi:i<42):∃ y,atI (ns.map D.s) ((i:Nat):Int)=some (.s y):=by
 have hl:=h.len
 exact⟨ns[i],jL (by rw[List.getElem?_map,List.getElem?_eq_getElem (by omega)];rfl)⟩
structure FS (s0:Sto) (p N gr F Lb Lc:Nat) (a b c:Str) (ns:List Str) (y0 y1 y2 y3 y4 y5 y6:Str) (s:Sto):Prop where
 sd:Sd p s
 k0:Kp p s0 s
 n:s[N]?=some (.l (ns.map D.s))
 g:s[gr]?=some (.l [.s y0, .s y1, .s y2, .s y3, .s y4, .s y5, .s y6])
 f:s[F]?=some (.d [(Sum.inr b, .r Lb),(Sum.inr c, .r Lc)])
def LbOk(Lb:Nat)(a b c:Str)(n:Nat)(s:Sto):Prop:=∃ n1 fb,s[Lb]?=some (.l (.t [.s n1, .t []]::fb))∧fb.length≤n∧∀ x∈fb,FmOk a b c x
def LcOk(Lc:Nat)(a b c:Str)(n:Nat)(s:Sto):Prop:=∃ (n2:Str) (k2:List Str) (fc:List D),s[Lc]?=some (.l (.t [.s n2, .t (k2.map D.s)]::fc))∧fc.length=n∧(∀ x∈fc,FmOk a b c x)∧(k2=[]∨k2=[a,b])
def Ch(s0:Sto)(p N gr F Lb Lc:Nat):Prop:=p<N∧N<gr∧gr<F∧F<Lb∧Lb<Lc∧s0.length≤F
variable{s0:Sto}{N gr F Lb Lc:Nat}{a b c:Str}{ns:List Str}{y0 y1 y2 y3 y4 y5 y6:Str}
theorem FS.kp(h:FS s0 p N gr F Lb Lc a b c ns y0 y1 y2 y3 y4 y5 y6 s)(hc:Ch s0 p N gr F Lb Lc){s':Sto}(av:Av p s s'):FS s0 p N gr F Lb Lc a b c ns y0 y1 y2 y3 y4 y5 y6 s':=by
 obtain⟨c1,c2,c3,c4,c5⟩:=hc
 exact⟨av.sd,h.k0.trans av.kp,av.kp _ _ (by omega) h.n,av.kp _ _ (by omega) h.g,av.kp _ _ (by omega) h.f⟩
theorem LbOk.kp{n:Nat}(h:LbOk Lb a b c n s)(hc:Ch s0 p N gr F Lb Lc){s':Sto}(av:Av p s s'):LbOk Lb a b c n s':=by
 obtain⟨c1,c2,c3,c4,c5⟩:=hc
 obtain⟨n1,fb,q,r⟩:=h
 exact⟨n1,fb,av.kp _ _ (by omega) q,r⟩
theorem LcOk.kp{n:Nat}(h:LcOk Lc a b c n s)(hc:Ch s0 p N gr F Lb Lc){s':Sto}(av:Av p s s'):LcOk Lc a b c n s':=by
 obtain⟨c1,c2,c3,c4,c5⟩:=hc
 obtain⟨n1,k2,fb,q,r⟩:=h
 exact⟨n1,k2,fb,av.kp _ _ (by omega) q,r⟩
theorem FS.setN(h:FS s0 p N gr F Lb Lc a b c ns y0 y1 y2 y3 y4 y5 y6 s){l:Nat}{x:C}(h1:l≠p)(h2:l≠N)(h3:l≠gr)(h4:l≠F)(h5:s0.length≤l):FS s0 p N gr F Lb Lc a b c ns y0 y1 y2 y3 y4 y5 y6 (s.set l x):=
 ⟨h.sd.setN h1,h.k0.setN h5,bO h.n (Ne.symm h2),bO h.g (Ne.symm h3),bO h.f (Ne.symm h4)⟩
noncomputable abbrev bk4:Sm':=sI (tCm eqD (eCl (aF) (aC (eV 0) (aC (eC (.i (2))) (aN)))) (eC (.i (0)))) (sE (eBm "list" appendD (eIx (eV 6) (eV 3)) (aC (eT (aC (eIx (eV 5) (eC (.i (4)))) (aC (eT (aC (eV 3) (aC (eV 3) (aN)))) (aN)))) (aN)))) (sN)
theorem aGs{E:En}(hc:Ch s0 p N gr F Lb Lc)(hF:FS s0 p N gr F Lb Lc a b c ns y0 y1 y2 y3 y4 y5 y6 s)(hb:LbOk Lb a b c 1 s)(hcc:LcOk Lc a b c 1 s):
  ∃ s',bk4 (some (.r p)::some (.r N)::some (.s a)::some (.s b)::some (.s c)::some (.r gr)::some (.r F)::E) s=some ((.nx,some (.r p)::some (.r N)::some (.s a)::some (.s b)::some (.s c)::some (.r gr)::some (.r F)::E),s')∧
   FS s0 p N gr F Lb Lc a b c ns y0 y1 y2 y3 y4 y5 y6 s'∧LbOk Lb a b c 2 s'∧LcOk Lc a b c 1 s':=by
 obtain⟨d,s1,h1,hd,av⟩:=fN (n:=2) hF.sd (by omega) (by omega)
 have h1':aF [.r p, .i 2] s=some (.i (d:Nat),s1):=h1
 have hF1:=hF.kp hc av
 have hb1:=hb.kp hc av
 have hc1:=hcc.kp hc av
 by_cases d0:d=0
 ·subst d0
  obtain⟨n1,fb,q1,q2,q3⟩:=hb1
  obtain⟨n2,k2,fc,q4,q5⟩:=hc1
  have hix:ixD (.r F) (.s b) s1=some (.r Lb,s1):=pN hF1.f rfl vT
  have happ:=gQ (y:=.t [.s y4, .t [.s b, .s b]]) q1 (by rw[sizeLine_eq];simp;omega)
  obtain⟨c1,c2,c3,c4,c5⟩:=hc
  refine⟨s1.set Lb (.l (.t [.s n1, .t []]::fb++[.t [.s y4, .t [.s b, .s b]]])),?_,hF1.setN (by omega) (by omega) (by omega) (by omega) (by omega),⟨n1,fb++[.t [.s y4, .t [.s b, .s b]]],fD q1,by simp;omega,fun x hx=>?_⟩,⟨n2,k2,fc,bO q4 (by omega),q5⟩⟩
  ·simp only[List.map_cons,List.map_nil,List.cons_append,List.nil_append,List.replicate,Nat.sub_self,aW,cE,cX,cQ,dD,dI,aG,aI,bW,aM,List.set_cons_succ,List.set_cons_zero,cL,dG,cP,bC,cA,aV,bD,aZ,bK,eK,eI,fA,eU,fH,fB,fP,fO,fR,fT,dS,dU,dW,dX,dY,cY,cW,bE,bM,bT,cD,bN,bB,aT,aO,bA,aS,cR,cH,dE,dA,dF,dN,eD,eE,cZ,eB,dZ,eA,dO,cF,bV,bZ,cI,bU,bY,dH,dM,bX,dP,cB,dC,bI,cJ,bJ,fY,fZ,fU,gA,gB,gC,h1',show(((0:Nat):Int)==0)=true from rfl,hix,fQ q1,fF hF1.g,happ]
  ·rcases List.mem_append.mp hx with hx|hx
   ·exact q3 x hx
   ·simp at hx;subst hx;exact⟨y4,[b,b],rfl,by simp[KsOk]⟩
 ·have c0:(((d:Nat):Int)==0)=false:=by simp;omega
  refine⟨s1,?_,hF1,?_,hc1⟩
  ·simp only[List.map_cons,List.map_nil,List.cons_append,List.nil_append,List.replicate,Nat.sub_self,aW,cE,cX,cQ,dD,dI,aG,aI,bW,aM,List.set_cons_succ,List.set_cons_zero,cL,dG,cP,bC,cA,aV,bD,aZ,bK,eK,eI,fA,eU,fH,fB,fP,fO,fR,fT,dS,dU,dW,dX,dY,cY,cW,bE,bM,bT,cD,bN,bB,aT,aO,bA,aS,cR,cH,dE,dA,dF,dN,eD,eE,cZ,eB,dZ,eA,dO,cF,bV,bZ,cI,bU,bY,dH,dM,bX,dP,cB,dC,bI,cJ,bJ,fY,fZ,fU,gA,gB,gC,h1',c0]
  ·obtain⟨n1,fb,q1,q2,q3⟩:=hb1
   exact⟨n1,fb,q1,by omega,q3⟩
theorem aAx{l n:Nat}{xs:List D}{y:D}(h:s[l]?=some (.l xs))(hn:n≤xs.length)(hl:xs.length<sizeLine):insertD (.r l) [.i (n:Nat),y] s=some (.no,s.set l (.l (xs.take n++y::xs.drop n))):=lL h (by rw[if_pos ⟨by omega,by omega,hl⟩,Int.toNat_natCast])
noncomputable abbrev bk5:Sm':=sI (tCm eqD (eCl (aF) (aC (eV 0) (aC (eC (.i (2))) (aN)))) (eC (.i (0)))) (sE (eBm "list" insertD (eIx (eV 6) (eV 4)) (aC (eOp addD (eC (.i (1))) (eCl (aF) (aC (eV 0) (aC (eC (.i (2))) (aN))))) (aC (eT (aC (eIx (eV 5) (eC (.i (5)))) (aC (eT (aC (eV 4) (aC (eV 2) (aC (eV 3) (aC (eV 4) (aN)))))) (aN)))) (aN))))) (sN)
theorem aGt{E:En}(hne:b≠c)(hc:Ch s0 p N gr F Lb Lc)(hF:FS s0 p N gr F Lb Lc a b c ns y0 y1 y2 y3 y4 y5 y6 s)(hb:LbOk Lb a b c 2 s)(hcc:LcOk Lc a b c 1 s):
  ∃ s' m,bk5 (some (.r p)::some (.r N)::some (.s a)::some (.s b)::some (.s c)::some (.r gr)::some (.r F)::E) s=some ((.nx,some (.r p)::some (.r N)::some (.s a)::some (.s b)::some (.s c)::some (.r gr)::some (.r F)::E),s')∧
   FS s0 p N gr F Lb Lc a b c ns y0 y1 y2 y3 y4 y5 y6 s'∧LbOk Lb a b c 2 s'∧LcOk Lc a b c m s'∧m≤2:=by
 obtain⟨d,s1,h1,hd,av⟩:=fN (n:=2) hF.sd (by omega) (by omega)
 have h1':aF [.r p, .i 2] s=some (.i (d:Nat),s1):=h1
 have hF1:=hF.kp hc av
 by_cases d0:d=0
 ·subst d0
  have hix:ixD (.r F) (.s c) s1=some (.r Lc,s1):=pN hF1.f rfl (sY hne)
  obtain⟨d2,s2,h2,hd2,av2⟩:=fN (n:=2) hF1.sd (by omega) (by omega)
  have h2':aF [.r p, .i 2] s1=some (.i (d2:Nat),s2):=h2
  have hF2:=hF1.kp hc av2
  have hb2:=(hb.kp hc av).kp hc av2
  obtain⟨m2,k2',fc',q1',_⟩:=hcc.kp hc av
  obtain⟨n2,k2,fc,q1,q2,q3,q4⟩:=(hcc.kp hc av).kp hc av2
  obtain⟨x,rfl⟩:∃ x,fc=[x]:=List.length_eq_one_iff.mp q2
  have hins:=aAx (n:=1+d2) (y:=.t [.s y5, .t [.s c, .s a, .s b, .s c]]) q1 (by simp;omega) (by rw[sizeLine_eq];simp)
  have e1:((1+d2:Nat):Int)=1+((d2:Nat):Int):=by omega
  rw[e1] at hins
  obtain⟨n1,fb,r1,r2⟩:=hb2
  obtain⟨fc2,hf2,hl2,hm2⟩:∃ fc2,(D.t [.s n2, .t (k2.map D.s)]::[x]).take (1+d2)++D.t [.s y5, .t [.s c, .s a, .s b, .s c]]::(D.t [.s n2, .t (k2.map D.s)]::[x]).drop (1+d2)=D.t [.s n2, .t (k2.map D.s)]::fc2∧fc2.length=2∧∀ z∈fc2,FmOk a b c z:=by
   have hx:=q3 x (by simp)
   have hy:FmOk a b c (D.t [.s y5, .t [.s c, .s a, .s b, .s c]]):=⟨y5,[c,a,b,c],rfl,by simp[KsOk]⟩
   obtain rfl|rfl:d2=0∨d2=1:=by omega
   ·exact⟨[D.t [.s y5, .t [.s c, .s a, .s b, .s c]],x],rfl,rfl,fun z hz=>by simp at hz;rcases hz with rfl|rfl<;>assumption⟩
   ·exact⟨[x,D.t [.s y5, .t [.s c, .s a, .s b, .s c]]],rfl,rfl,fun z hz=>by simp at hz;rcases hz with rfl|rfl<;>assumption⟩
  rw[hf2] at hins
  obtain⟨c1,c2,c3,c4,c5⟩:=hc
  refine⟨_,2,?_,hF2.setN (l:=Lc) (x:=.l (D.t [.s n2, .t (k2.map D.s)]::fc2)) (by omega) (by omega) (by omega) (by omega) (by omega),⟨n1,fb,bO r1 (by omega),r2⟩,⟨n2,k2,fc2,fD q1,hl2,hm2,q4⟩,by omega⟩
  simp only[List.map_cons,List.map_nil,List.cons_append,List.nil_append,List.replicate,Nat.sub_self,aW,cE,cX,cQ,dD,dI,aG,aI,bW,aM,List.set_cons_succ,List.set_cons_zero,cL,dG,cP,bC,cA,aV,bD,aZ,bK,eK,eI,fA,eU,fH,fB,fP,fO,fR,fT,dS,dU,dW,dX,dY,cY,cW,bE,bM,bT,cD,bN,bB,aT,aO,bA,aS,cR,cH,dE,dA,dF,dN,eD,eE,cZ,eB,dZ,eA,dO,cF,bV,bZ,cI,bU,bY,dH,dM,bX,dP,cB,dC,bI,cJ,bJ,fY,fZ,fU,gA,gB,gC,h1',show(((0:Nat):Int)==0)=true from rfl,hix,fQ q1',h2',fF hF2.g,hins]
 ·have c0:(((d:Nat):Int)==0)=false:=by simp;omega
  refine⟨s1,1,?_,hF1,hb.kp hc av,hcc.kp hc av,by omega⟩
  simp only[List.map_cons,List.map_nil,List.cons_append,List.nil_append,List.replicate,Nat.sub_self,aW,cE,cX,cQ,dD,dI,aG,aI,bW,aM,List.set_cons_succ,List.set_cons_zero,cL,dG,cP,bC,cA,aV,bD,aZ,bK,eK,eI,fA,eU,fH,fB,fP,fO,fR,fT,dS,dU,dW,dX,dY,cY,cW,bE,bM,bT,cD,bN,bB,aT,aO,bA,aS,cR,cH,dE,dA,dF,dN,eD,eE,cZ,eB,dZ,eA,dO,cF,bV,bZ,cI,bU,bY,dH,dM,bX,dP,cB,dC,bI,cJ,bJ,fY,fZ,fU,gA,gB,gC,h1',c0]
noncomputable abbrev bk6:Sm':=sI (tCm eqD (eCl (aF) (aC (eV 0) (aC (eC (.i (3))) (aN)))) (eC (.i (0)))) (sA (eT (aC (eIx (eV 5) (eC (.i (2)))) (aC (eT (aC (eV 2) (aC (eV 3) (aN)))) (aN)))) (gS (eIx (eV 6) (eV 4)) (eC (.i (0))))) (sN)
theorem aGu{E:En}{m:Nat}(hne:b≠c)(hc:Ch s0 p N gr F Lb Lc)(hF:FS s0 p N gr F Lb Lc a b c ns y0 y1 y2 y3 y4 y5 y6 s)(hb:LbOk Lb a b c 2 s)(hcc:LcOk Lc a b c m s):
  ∃ s',bk6 (some (.r p)::some (.r N)::some (.s a)::some (.s b)::some (.s c)::some (.r gr)::some (.r F)::E) s=some ((.nx,some (.r p)::some (.r N)::some (.s a)::some (.s b)::some (.s c)::some (.r gr)::some (.r F)::E),s')∧
   FS s0 p N gr F Lb Lc a b c ns y0 y1 y2 y3 y4 y5 y6 s'∧LbOk Lb a b c 2 s'∧LcOk Lc a b c m s':=by
 obtain⟨d,s1,h1,hd,av⟩:=fN (n:=3) hF.sd (by omega) (by omega)
 have h1':aF [.r p, .i 3] s=some (.i (d:Nat),s1):=h1
 have hF1:=hF.kp hc av
 by_cases d0:d=0
 ·subst d0
  have hix:ixD (.r F) (.s c) s1=some (.r Lc,s1):=pN hF1.f rfl (sY hne)
  obtain⟨n2,k2,fc,q1,q2,q3,q4⟩:=hcc.kp hc av
  obtain⟨n1,fb,r1,r2⟩:=hb.kp hc av
  have hset:setD (.r Lc) (.i 0) (.t [.s y2, .t [.s a, .s b]]) s1=some ((),s1.set Lc (.l (.t [.s y2, .t [.s a, .s b]]::fc))):=qY (n:=0) q1 (by simp)
  obtain⟨c1,c2,c3,c4,c5⟩:=hc
  refine⟨_,?_,hF1.setN (l:=Lc) (x:=.l (D.t [.s y2, .t [.s a, .s b]]::fc)) (by omega) (by omega) (by omega) (by omega) (by omega),⟨n1,fb,bO r1 (by omega),r2⟩,⟨y2,[a,b],fc,fD q1,q2,q3, .inr rfl⟩⟩
  simp only[List.map_cons,List.map_nil,List.cons_append,List.nil_append,List.replicate,Nat.sub_self,aW,cE,cX,cQ,dD,dI,aG,aI,bW,aM,List.set_cons_succ,List.set_cons_zero,cL,dG,cP,bC,cA,aV,bD,aZ,bK,eK,eI,fA,eU,fH,fB,fP,fO,fR,fT,dS,dU,dW,dX,dY,cY,cW,bE,bM,bT,cD,bN,bB,aT,aO,bA,aS,cR,cH,dE,dA,dF,dN,eD,eE,cZ,eB,dZ,eA,dO,cF,bV,bZ,cI,bU,bY,dH,dM,bX,dP,cB,dC,bI,cJ,bJ,fY,fZ,fU,gA,gB,gC,h1',show(((0:Nat):Int)==0)=true from rfl,fF hF1.g,yH,hix,hset]
 ·have c0:(((d:Nat):Int)==0)=false:=by simp;omega
  refine⟨s1,?_,hF1,hb.kp hc av,hcc.kp hc av⟩
  simp only[List.map_cons,List.map_nil,List.cons_append,List.nil_append,List.replicate,Nat.sub_self,aW,cE,cX,cQ,dD,dI,aG,aI,bW,aM,List.set_cons_succ,List.set_cons_zero,cL,dG,cP,bC,cA,aV,bD,aZ,bK,eK,eI,fA,eU,fH,fB,fP,fO,fR,fT,dS,dU,dW,dX,dY,cY,cW,bE,bM,bT,cD,bN,bB,aT,aO,bA,aS,cR,cH,dE,dA,dF,dN,eD,eE,cZ,eB,dZ,eA,dO,cF,bV,bZ,cI,bU,bY,dH,dM,bX,dP,cB,dC,bI,cJ,bJ,fY,fZ,fU,gA,gB,gC,h1',c0]
noncomputable abbrev bk1:Sm':=sA (eSl (eV 1) (oN) (oS (eC (.i (3))))) (gT 3 (gsC (gN 2) (gsC (gN 3) (gsC (gN 4) (gsN)))))
noncomputable abbrev bk2:Sm':=sA (eCo [] (iS (eSl (eV 1) (oS (eC (.i (3)))) (oS (eC (.i (10)))))) bd1 ((fun _=>ret true)) (eCl (iK) (aC (eV 0) (aN)))) (gN 5)
noncomputable abbrev bk3:Sm':=sA (eDi [(eV 3,eL (aC (eT (aC (eIx (eV 5) (eC (.i (0)))) (aC (eT (aN)) (aN)))) (aC (eT (aC (eIx (eV 5) (eC (.i (1)))) (aC (eT (aC (eV 3) (aN))) (aN)))) (aN)))),(eV 4,eL (aC (eT (aC (eIx (eV 5) (eC (.i (2)))) (aC (eT (aN)) (aN)))) (aC (eT (aC (eIx (eV 5) (eC (.i (3)))) (aC (eT (aC (eV 3) (aC (eV 4) (aN)))) (aN)))) (aN))))]) (gN 6)
theorem aGv{E:En}{o2 o3 o4 o0:Option D}(hN:s[N]?=some (.l (ns.map D.s)))(hns:∃ rest,ns=a::b::c::rest):
  bk1 (o0::some (.r N)::o2::o3::o4::E) s=some ((.nx,o0::some (.r N)::some (.s a)::some (.s b)::some (.s c)::E),s++[C.l [.s a, .s b, .s c]]):=by
 obtain⟨rest,rfl⟩:=hns
 have hcut:L2.cutD ((a::b::c::rest).map D.s) none (some 3)=[.s a, .s b, .s c]:=by
  have:=aBJ (xs:=(a::b::c::rest).map D.s) (k:=3) (by simp)
  exact this
 have hg:=aGn (n:=3) (gs:=gsC (gN 2) (gsC (gN 3) (gsC (gN 4) (gsN)))) (d:=.r s.length) (env:=o0::some (.r N)::o2::o3::o4::E) (st:=s++[C.l [.s a, .s b, .s c]]) (kS (aU s (C.l [.s a, .s b, .s c]))) rfl
 simp only[cE,bY,eI,aG,aI,dM,dH,bK,bX,aM,oA hN,hcut,hg,qW,bW,qV,List.set_cons_succ,List.set_cons_zero]
theorem aGw{E:En}{o0 o2 o3 o4 o5:Option D}(hN:s[N]?=some (.l (ns.map D.s)))(h:Nms ns):
  ∃ (y0 y1 y2 y3 y4 y5 y6:Str) (s':Sto) (l:Nat),bk2 (o0::some (.r N)::o2::o3::o4::o5::E) s=some ((.nx,o0::some (.r N)::o2::o3::o4::some (.r l)::E),s')∧Ext s s'∧s.length<l∧s'[l]?=some (.l [.s y0, .s y1, .s y2, .s y3, .s y4, .s y5, .s y6]):=by
 obtain⟨x0,x1,x2,x3,x4,x5,x6,x7,x8,x9,rest,hns,hr,hok,_⟩:=h.ex
 have hcut:L2.cutD (ns.map D.s) (some 3) (some 10)=[x3,x4,x5,x6,x7,x8,x9].map D.s:=by
  have:=zA (xs:=ns.map D.s) (k:=3) (m:=10) (by omega) (by rw[List.length_map,h.len];omega)
  rw[hns] at this ⊢
  exact this
 have e1:=Ext.app s [C.l ([x3,x4,x5,x6,x7,x8,x9].map D.s)]
 have hn1:=aU s (C.l ([x3,x4,x5,x6,x7,x8,x9].map D.s))
 have hlen:s.length < (s++[C.l ([x3,x4,x5,x6,x7,x8,x9].map D.s)]).length:=by simp
 generalize hs1:s++[C.l ([x3,x4,x5,x6,x7,x8,x9].map D.s)]=s1 at e1 hn1 hlen
 obtain⟨zs,s2,g1,g2,g3,g4⟩:=kH (c:=fun t=>t[s.length]?=some (.l ([x3,x4,x5,x6,x7,x8,x9].map D.s))) (te:=eCl (iK) (aC (eV 0) (aN))) (cap:=[]) (I:=fun t=>t=s1) (P:=fun z=>∃ y,z=.s y∧True) ([x3,x4,x5,x6,x7,x8,x9].map D.s) [] s1 (by
  rintro x hx t rfl
  obtain⟨y,hy,rfl⟩:=List.mem_map.mp hx
  obtain⟨w,hw⟩:=aDD (st:=t) (hok y hy)
  exact⟨.s w,t,by simp only[aV,bD,eK,aG,aI,aZ,aM,hw],⟨w,rfl,trivial⟩,rfl⟩) (fun t ht=>by rw[ht];exact hn1) rfl
 subst g2
 obtain⟨ys,rfl,_⟩:=qE g3
 simp only[List.length_map,List.length_cons,List.length_nil] at g4
 obtain⟨y0,y1,y2,y3,y4,y5,y6,rfl⟩:∃ y0 y1 y2 y3 y4 y5 y6,ys=[y0,y1,y2,y3,y4,y5,y6]:=by
  match ys,g4 with
  |[y0,y1,y2,y3,y4,y5,y6],_=>exact⟨_,_,_,_,_,_,_,rfl⟩
 refine⟨y0,y1,y2,y3,y4,y5,y6,s2++[C.l ([y0,y1,y2,y3,y4,y5,y6].map D.s)],s2.length,?_,e1.trans (Ext.app _ _),hlen,aU _ _⟩
 have hlt:([x3,x4,x5,x6,x7,x8,x9].map D.s).length<sizeLine:=by rw[sizeLine_eq];simp
 simp only[cE,fI,cB,bY,eI,aG,aI,dH,bK,bX,aM,oA hN,hcut,hs1,jX hn1,aO,aX hlt,show capD [] (o0::some (D.r N)::o2::o3::o4::o5::E)=[] from rfl,g1,List.nil_append,aS,bW,List.set_cons_succ,List.set_cons_zero]
theorem merge2{x y:D}(h:b≠c):mergeD [(Sum.inr b,x),(Sum.inr c,y)]=[(Sum.inr b,x),(Sum.inr c,y)]:=by
 have h2:¬ (Sum.inr b:Key)=Sum.inr c:=fun z=>h (by injection z)
 simp[mergeD,putD,h2]
theorem aGx{E:En}{o0 o1 o2 o6:Option D}{l:Nat}(hne:b≠c)(hg:s[l]?=some (.l [.s y0, .s y1, .s y2, .s y3, .s y4, .s y5, .s y6])):
  bk3 (o0::o1::o2::some (.s b)::some (.s c)::some (.r l)::o6::E) s=some ((.nx,o0::o1::o2::some (.s b)::some (.s c)::some (.r l)::some (.r s.length)::E),
   s++[C.d [(Sum.inr b, .r (s.length+1)),(Sum.inr c, .r (s.length+2))],C.l [.t [.s y0, .t []], .t [.s y1, .t [.s b]]],C.l [.t [.s y2, .t []], .t [.s y3, .t [.s b, .s c]]]]):=by
 have g1:=Ext.app s [C.d []] _ _ hg
 have g2:=Ext.app (s++[C.d []]) [C.l [.t [.s y0, .t []], .t [.s y1, .t [.s b]]]] _ _ g1
 have hp:pairsD [(eV 3,eL (aC (eT (aC (eIx (eV 5) (eC (.i (0)))) (aC (eT (aN)) (aN)))) (aC (eT (aC (eIx (eV 5) (eC (.i (1)))) (aC (eT (aC (eV 3) (aN))) (aN)))) (aN)))),(eV 4,eL (aC (eT (aC (eIx (eV 5) (eC (.i (2)))) (aC (eT (aN)) (aN)))) (aC (eT (aC (eIx (eV 5) (eC (.i (3)))) (aC (eT (aC (eV 3) (aC (eV 4) (aN)))) (aN)))) (aN))))] (o0::o1::o2::some (.s b)::some (.s c)::some (.r l)::o6::E) (s++[C.d []])=
   some ([(.s b, .r (s++[C.d []]).length),(.s c, .r (s++[C.d []]++[C.l [.t [.s y0, .t []], .t [.s y1, .t [.s b]]]]).length)],s++[C.d []]++[C.l [.t [.s y0, .t []], .t [.s y1, .t [.s b]]]]++[C.l [.t [.s y2, .t []], .t [.s y3, .t [.s b, .s c]]]]):=by
  simp only[pairsD,List.map_cons,List.map_nil,List.cons_append,List.nil_append,List.replicate,Nat.sub_self,aW,cE,cX,cQ,dD,dI,aG,aI,bW,aM,List.set_cons_succ,List.set_cons_zero,cL,dG,cP,bC,cA,aV,bD,aZ,bK,eK,eI,fA,eU,fH,fB,fP,fO,fR,fT,dS,dU,dW,dX,dY,cY,cW,bE,bM,bT,cD,bN,bB,aT,aO,bA,aS,cR,cH,dE,dA,dF,dN,eD,eE,cZ,eB,dZ,eA,dO,cF,bV,bZ,cI,bU,bY,dH,dM,bX,dP,cB,dC,bI,cJ,bJ,fY,fZ,fU,gA,gB,gC,fF g1,fF g2]
 have hd:dcc (s++[C.d []]++[C.l [.t [.s y0, .t []], .t [.s y1, .t [.s b]]]]++[C.l [.t [.s y2, .t []], .t [.s y3, .t [.s b, .s c]]]]) s.length=some []:=qQ (Ext.app _ _ _ _ (Ext.app _ _ _ _ (aU s (C.d []))))
 have hdi:∀ (ps:List ((En→M D)×(En→M D))) (E:En) (qs:List (D×D)) (kvs:List (Key×D)) (s2:Sto),pairsD ps E (s++[C.d []])=some (qs,s2)→dcc s2 s.length=some []→keyed qs=some kvs→kvs.length≤15→eDi ps E s=some (.r s.length,s2.set s.length (.d (mergeD kvs))):=by
  intro ps E qs kvs s2 q1 q2 q3 q4
  unfold eDi
  rw[q1]
  dsimp only
  rw[q2,q3]
  dsimp only
  rw[if_pos q4]
 have h1:=hdi _ _ _ _ _ hp hd rfl (by simp)
 unfold bk3
 rw[cE,h1,merge2 hne]
 simp
end
end K61
end
section
namespace K61
open PySem L2 PyProof.Rows
section
variable{st s s0:Sto}{p:Nat}{N gr F Lb Lc Z R K G W:Nat}{a b c:Str}{ns:List Str}{y0 y1 y2 y3 y4 y5 y6:Str}
def RwOk(x:D):Prop:=∃ (w f:Str) (ys:List D),x=.t (.s w::.s f::ys)
structure Cz (s0:Sto) (p N F Lb Lc Z R K G W:Nat):Prop where
 c1:p<N
 c2:N<F
 c3:F<Lb
 c4:Lb<Lc
 c5:Lc<Z
 c6:Z<R
 c7:R<K
 c8:K<G
 c9:G<W
 c0:s0.length≤F
structure BS (s0:Sto) (p N F Lb Lc Z R K G W:Nat) (a b c:Str) (ns:List Str) (nr nc ng nw:Nat) (s:Sto):Prop where
 cz:Cz s0 p N F Lb Lc Z R K G W
 sd:Sd p s
 k0:Kp p s0 s
 n:s[N]?=some (.l (ns.map D.s))
 f:s[F]?=some (.d [(Sum.inr b, .r Lb),(Sum.inr c, .r Lc)])
 lb:∃ (n1:Str) (fb:List D),s[Lb]?=some (.l (.t [.s n1, .t []]::fb))∧fb.length≤10∧∀ x∈fb,FmOk a b c x
 lc:∃ (n2:Str) (k2:List Str) (fc:List D),s[Lc]?=some (.l (.t [.s n2, .t (k2.map D.s)]::fc))∧fc.length≤10∧(∀ x∈fc,FmOk a b c x)∧(k2=[]∨k2=[a,b])
 z:∃ (f0:Str) (cl:List D),s[Z]?=some (.l (.t [.s f0, .t [], .s a]::cl))∧cl.length≤nc∧∀ x∈cl,ClOk a b c x
 r:∃ rows:List D,s[R]?=some (.l rows)∧3≤rows.length∧rows.length≤nr∧∀ x∈rows.drop 3,RwOk x
 k:s[K]?=some (.l [.s a, .s b, .s c])
 g:∃ kvs:List (Key×D),s[G]?=some (.d kvs)∧kvs.length≤ng
 w:∃ ws:List D,s[W]?=some (.l ws)∧ws.length=nw∧∀ x∈ws,FmOk a b c x
variable{nr nc ng nw:Nat}
abbrev bkD(R F Z K G W:Nat):D:=.t [.r R, .r F, .r Z, .r K, .r G, .r W]
theorem BS.kp(h:BS s0 p N F Lb Lc Z R K G W a b c ns nr nc ng nw s){s':Sto}(av:Av p s s'):BS s0 p N F Lb Lc Z R K G W a b c ns nr nc ng nw s':=by
 obtain⟨c1,c2,c3,c4,c5,c6,c7,c8,c9,c0⟩:=h.cz
 obtain⟨n1,fb,q1,q2⟩:=h.lb
 obtain⟨n2,k2,fc,q3,q4⟩:=h.lc
 obtain⟨f0,cl,q5,q6⟩:=h.z
 obtain⟨rows,q7,q8⟩:=h.r
 obtain⟨kvs,q9,q10⟩:=h.g
 obtain⟨ws,q11,q12⟩:=h.w
 exact⟨h.cz,av.sd,h.k0.trans av.kp,av.kp _ _ (by omega) h.n,av.kp _ _ (by omega) h.f,⟨n1,fb,av.kp _ _ (by omega) q1,q2⟩,⟨n2,k2,fc,av.kp _ _ (by omega) q3,q4⟩,⟨f0,cl,av.kp _ _ (by omega) q5,q6⟩,⟨rows,av.kp _ _ (by omega) q7,q8⟩,av.kp _ _ (by omega) h.k,⟨kvs,av.kp _ _ (by omega) q9,q10⟩,⟨ws,av.kp _ _ (by omega) q11,q12⟩⟩
theorem BS.bk(h:BS s0 p N F Lb Lc Z R K G W a b c ns nr nc ng nw s)(hn:nc≤30)(hne:b≠c):Bk p a b c (bkD R F Z K G W) s:=by
 obtain⟨c1,c2,c3,c4,c5,c6,c7,c8,c9,c0⟩:=h.cz
 obtain⟨n1,fb,q1,q2,q2'⟩:=h.lb
 obtain⟨n2,k2,fc,q3,q4,q4',q4''⟩:=h.lc
 obtain⟨f0,cl,q5,q6,q6'⟩:=h.z
 exact⟨⟨R,F,Z,K,G,W,Lb,Lc,fb,fc,cl,f0,n1,n2,k2,rfl,by omega,by omega,by omega,by omega,by omega,h.f,q1,q3,q5,h.k,q2',q4',q6',q4'',q2,q4,by omega⟩,hne⟩
theorem BS.setR(h:BS s0 p N F Lb Lc Z R K G W a b c ns nr nc ng nw s){rows:List D}{nr':Nat}(h1:3≤rows.length)(h2:rows.length≤nr')(h3:∀ x∈rows.drop 3,RwOk x):BS s0 p N F Lb Lc Z R K G W a b c ns nr' nc ng nw (s.set R (.l rows)):=by
 obtain⟨c1,c2,c3,c4,c5,c6,c7,c8,c9,c0⟩:=h.cz
 obtain⟨n1,fb,q1,q2⟩:=h.lb
 obtain⟨n2,k2,fc,q3,q4⟩:=h.lc
 obtain⟨f0,cl,q5,q6⟩:=h.z
 obtain⟨rows',q7,q8⟩:=h.r
 obtain⟨kvs,q9,q10⟩:=h.g
 obtain⟨ws,q11,q12⟩:=h.w
 exact⟨h.cz,h.sd.setN (by omega),h.k0.setN (by omega),bO h.n (by omega),bO h.f (by omega),⟨n1,fb,bO q1 (by omega),q2⟩,⟨n2,k2,fc,bO q3 (by omega),q4⟩,⟨f0,cl,bO q5 (by omega),q6⟩,⟨rows,fD q7,h1,h2,h3⟩,bO h.k (by omega),⟨kvs,bO q9 (by omega),q10⟩,⟨ws,bO q11 (by omega),q12⟩⟩
theorem BS.setZ(h:BS s0 p N F Lb Lc Z R K G W a b c ns nr nc ng nw s){f0:Str}{cl:List D}{nc':Nat}(h1:cl.length≤nc')(h2:∀ x∈cl,ClOk a b c x):BS s0 p N F Lb Lc Z R K G W a b c ns nr nc' ng nw (s.set Z (.l (.t [.s f0, .t [], .s a]::cl))):=by
 obtain⟨c1,c2,c3,c4,c5,c6,c7,c8,c9,c0⟩:=h.cz
 obtain⟨n1,fb,q1,q2⟩:=h.lb
 obtain⟨n2,k2,fc,q3,q4⟩:=h.lc
 obtain⟨f0',cl',q5,q6⟩:=h.z
 obtain⟨rows',q7,q8⟩:=h.r
 obtain⟨kvs,q9,q10⟩:=h.g
 obtain⟨ws,q11,q12⟩:=h.w
 exact⟨h.cz,h.sd.setN (by omega),h.k0.setN (by omega),bO h.n (by omega),bO h.f (by omega),⟨n1,fb,bO q1 (by omega),q2⟩,⟨n2,k2,fc,bO q3 (by omega),q4⟩,⟨f0,cl,fD q5,h1,h2⟩,⟨rows',bO q7 (by omega),q8⟩,bO h.k (by omega),⟨kvs,bO q9 (by omega),q10⟩,⟨ws,bO q11 (by omega),q12⟩⟩
theorem BS.setG(h:BS s0 p N F Lb Lc Z R K G W a b c ns nr nc ng nw s){kvs:List (Key×D)}{ng':Nat}(h1:kvs.length≤ng'):BS s0 p N F Lb Lc Z R K G W a b c ns nr nc ng' nw (s.set G (.d kvs)):=by
 obtain⟨c1,c2,c3,c4,c5,c6,c7,c8,c9,c0⟩:=h.cz
 obtain⟨n1,fb,q1,q2⟩:=h.lb
 obtain⟨n2,k2,fc,q3,q4⟩:=h.lc
 obtain⟨f0',cl',q5,q6⟩:=h.z
 obtain⟨rows',q7,q8⟩:=h.r
 obtain⟨kvs',q9,q10⟩:=h.g
 obtain⟨ws,q11,q12⟩:=h.w
 exact⟨h.cz,h.sd.setN (by omega),h.k0.setN (by omega),bO h.n (by omega),bO h.f (by omega),⟨n1,fb,bO q1 (by omega),q2⟩,⟨n2,k2,fc,bO q3 (by omega),q4⟩,⟨f0',cl',bO q5 (by omega),q6⟩,⟨rows',bO q7 (by omega),q8⟩,bO h.k (by omega),⟨kvs,fD q9,h1⟩,⟨ws,bO q11 (by omega),q12⟩⟩
theorem BS.setW(h:BS s0 p N F Lb Lc Z R K G W a b c ns nr nc ng nw s){ws:List D}{nw':Nat}(h1:ws.length=nw')(h2:∀ x∈ws,FmOk a b c x):BS s0 p N F Lb Lc Z R K G W a b c ns nr nc ng nw' (s.set W (.l ws)):=by
 obtain⟨c1,c2,c3,c4,c5,c6,c7,c8,c9,c0⟩:=h.cz
 obtain⟨n1,fb,q1,q2⟩:=h.lb
 obtain⟨n2,k2,fc,q3,q4⟩:=h.lc
 obtain⟨f0',cl',q5,q6⟩:=h.z
 obtain⟨rows',q7,q8⟩:=h.r
 obtain⟨kvs',q9,q10⟩:=h.g
 obtain⟨ws',q11,q12⟩:=h.w
 exact⟨h.cz,h.sd.setN (by omega),h.k0.setN (by omega),bO h.n (by omega),bO h.f (by omega),⟨n1,fb,bO q1 (by omega),q2⟩,⟨n2,k2,fc,bO q3 (by omega),q4⟩,⟨f0',cl',bO q5 (by omega),q6⟩,⟨rows',bO q7 (by omega),q8⟩,bO h.k (by omega),⟨kvs',bO q9 (by omega),q10⟩,⟨ws,fD q11,h1,h2⟩⟩
theorem BS.r'(h:BS s0 p N F Lb Lc Z R K G W a b c ns nr nc ng nw s){x:D}{rows:List D}(hr:s[R]?=some (.l rows))(hx:RwOk x):BS s0 p N F Lb Lc Z R K G W a b c ns (nr+1) nc ng nw (s.set R (.l (rows++[x]))):=by
 obtain⟨rows',q1,q2,q3,q4⟩:=h.r
 rw[hr] at q1
 cases q1
 refine h.setR (by simp;omega) (by simp;omega) fun y hy=>?_
 rw[List.drop_append_of_le_length q2] at hy
 rcases List.mem_append.mp hy with hy|hy
 ·exact q4 y hy
 ·simp at hy;subst hy;exact hx
noncomputable abbrev lp12:Sm':=seqS (sA (eCl (gE) (aC (eV 0) (aC (eV 9) (aC (eV 11) (aN))))) (gN 12))
   (seqS (sE (eBm "list" appendD (eV 8) (aC (eV 12) (aN))))
   (sE (eBm "list" appendD (eV 7) (aC (eT (aC (eIx (eV 12) (eC (.i (1)))) (aC (eIx (eV 12) (eC (.i (2)))) (aC (eIx (eV 12) (eC (.i (3)))) (aN))))) (aN)))))
theorem aCc{T:Nat}{L0:List D}{o2 o3 o4 o5 o6 o10 o13:Option D}(hne:b≠c)(hT:W<T):∀ (xs:List Str) (s:Sto) (nr nc:Nat) (x11 x12:Option D),BS s0 p N F Lb Lc Z R K G W a b c ns nr nc ng nw s→s[T]?=some (.l L0)→nr+xs.length≤1000→nc+xs.length≤30→
  ∃ (y11 y12:Option D) (s':Sto),forD (fun s=>s[T]?=some (.l L0)) (gN 11) lp12 (xs.map D.s) [some (.r p),some (.r N),o2,o3,o4,o5,o6,some (.r Z),some (.r R),some (bkD R F Z K G W),o10,x11,x12,o13] s=
   some ((.nx,[some (.r p),some (.r N),o2,o3,o4,o5,o6,some (.r Z),some (.r R),some (bkD R F Z K G W),o10,y11,y12,o13]),s')∧BS s0 p N F Lb Lc Z R K G W a b c ns (nr+xs.length) (nc+xs.length) ng nw s'
 |[],s,nr,nc,x11,x12,h,hs,_,_=>⟨x11,x12,s,lI hs,h⟩
 |x::xs,s,nr,nc,x11,x12,h,hs,h1,h2=>by
  simp only[List.length_cons] at h1 h2
  obtain⟨w,ks,kk,X,s1,g1,hks,av⟩:=xK (f:=x) (h.bk (by omega) hne) h.sd
  have hb1:=h.kp av
  have cz:=h.cz
  obtain⟨c1,c2,c3,c4,c5,c6,c7,c8,c9,c0⟩:=cz
  have hT1:=av.kp _ _ (show T≠p by omega) hs
  obtain⟨rows,q1,q2,q3,q4⟩:=hb1.r
  have happ:=gQ (y:=.t [.s w, .s x, .t (ks.map D.s), .s kk,X]) q1 (by rw[sizeLine_eq];omega)
  have hb2:=hb1.r' (x:=.t [.s w, .s x, .t (ks.map D.s), .s kk,X]) q1 ⟨_,_,_,rfl⟩
  have hT2:=bO (c':=.l (rows++[.t [.s w, .s x, .t (ks.map D.s), .s kk,X]])) hT1 (show T≠R by omega)
  generalize s1.set R (.l (rows++[.t [.s w, .s x, .t (ks.map D.s), .s kk,X]]))=s2 at happ hb2 hT2
  obtain⟨f0,cl,r1,r2,r3⟩:=hb2.z
  have happ2:=gQ (y:=.t [.s x, .t (ks.map D.s), .s kk]) r1 (by rw[sizeLine_eq];simp;omega)
  rw[List.cons_append] at happ2
  have hb3:=hb2.setZ (f0:=f0) (cl:=cl++[.t [.s x, .t (ks.map D.s), .s kk]]) (nc':=nc+1) (by simp;omega) (fun y hy=>by
   rcases List.mem_append.mp hy with hy|hy
   ·exact r3 y hy
   ·simp at hy;subst hy;exact⟨x,ks,kk,rfl,hks⟩)
  have hT3:=bO (c':=.l (.t [.s f0, .t [], .s a]::(cl++[.t [.s x, .t (ks.map D.s), .s kk]]))) hT2 (show T≠Z by omega)
  generalize s2.set Z (.l (.t [.s f0, .t [], .s a]::(cl++[.t [.s x, .t (ks.map D.s), .s kk]])))=s3 at happ2 hb3 hT3
  obtain⟨y11,y12,s',e1,e2⟩:=aCc (o2:=o2) (o3:=o3) (o4:=o4) (o5:=o5) (o6:=o6) (o10:=o10) (o13:=o13) hne hT xs s3 (nr+1) (nc+1) (some (.s x)) (some (.t [.s w, .s x, .t (ks.map D.s), .s kk,X])) hb3 hT3 (by omega) (by omega)
  refine⟨y11,y12,s',?_,?_⟩
  ·rw[List.map_cons,kG hs (env1:=[some (.r p),some (.r N),o2,o3,o4,o5,o6,some (.r Z),some (.r R),some (bkD R F Z K G W),o10,some (.s x),x12,o13]) (st1:=s) (by simp only[bW,List.set_cons_succ,List.set_cons_zero])
    (env2:=[some (.r p),some (.r N),o2,o3,o4,o5,o6,some (.r Z),some (.r R),some (bkD R F Z K G W),o10,some (.s x),some (.t [.s w, .s x, .t (ks.map D.s), .s kk,X]),o13]) (st2:=s3)]
   ·exact e1
   ·simp only[List.map_cons,List.map_nil,List.cons_append,List.nil_append,List.replicate,Nat.sub_self,aW,cE,cX,cQ,dD,dI,aG,aI,bW,aM,List.set_cons_succ,List.set_cons_zero,cL,dG,cP,bC,cA,aV,bD,aZ,bK,eK,eI,fA,eU,fH,fB,fP,fO,fR,fT,dS,dU,dW,dX,dY,cY,cW,bE,bM,bT,cD,bN,bB,aT,aO,bA,aS,cR,cH,dE,dA,dF,dN,eD,eE,cZ,eB,dZ,eA,dO,cF,bV,bZ,cI,bU,bY,dH,dM,bX,dP,cB,dC,bI,cJ,bJ,fY,fZ,fU,gA,gB,gC,g1,fQ q1,happ,fQ r1,happ2]
  ·rw[show nr+(x::xs).length=nr+1+xs.length by simp;omega,show nc+(x::xs).length=nc+1+xs.length by simp;omega]
   exact e2
theorem aCd{kvs:List (Key×D)}{k:Key}{v:D}:(putD kvs k v).length≤kvs.length+1:=by
 unfold putD
 split<;>simp
noncomputable abbrev lp13:Sm':=sA (eV 12) (gS (eIx (eV 9) (eC (.i (4)))) (eIx (eV 12) (eC (.i (1)))))
theorem aCe{T:Nat}{L0:List D}{o1 o2 o3 o4 o5 o6 o7 o8 o10 o11 o13:Option D}(hT:W<T):∀ (xs:List D) (s:Sto) (ng:Nat) (x12:Option D),BS s0 p N F Lb Lc Z R K G W a b c ns nr nc ng nw s→s[T]?=some (.l L0)→ng+xs.length≤10000→(∀ x∈xs,RwOk x)→
  ∃ (y12:Option D) (s':Sto),forD (fun s=>s[T]?=some (.l L0)) (gN 12) lp13 xs [some (.r p),o1,o2,o3,o4,o5,o6,o7,o8,some (bkD R F Z K G W),o10,o11,x12,o13] s=
   some ((.nx,[some (.r p),o1,o2,o3,o4,o5,o6,o7,o8,some (bkD R F Z K G W),o10,o11,y12,o13]),s')∧BS s0 p N F Lb Lc Z R K G W a b c ns nr nc (ng+xs.length) nw s'
 |[],s,ng,x12,h,hs,_,_=>⟨x12,s,lI hs,h⟩
 |x::xs,s,ng,x12,h,hs,h1,h2=>by
  simp only[List.length_cons] at h1
  obtain⟨w,f,ys,rfl⟩:=h2 x (by simp)
  obtain⟨c1,c2,c3,c4,c5,c6,c7,c8,c9,c0⟩:=h.cz
  obtain⟨kvs,q1,q2⟩:=h.g
  have hset:setD (.r G) (.s f) (.t (.s w::.s f::ys)) s=some ((),s.set G (.d (putD kvs (.inr f) (.t (.s w::.s f::ys))))):=aFq q1 rfl (by rw[sizeLine_eq];omega)
  have hb:=h.setG (kvs:=putD kvs (.inr f) (.t (.s w::.s f::ys))) (ng':=ng+1) (by have:=aCd (kvs:=kvs) (k:=.inr f) (v:=.t (.s w::.s f::ys));omega)
  have hT1:=bO (c':=.d (putD kvs (.inr f) (.t (.s w::.s f::ys)))) hs (show T≠G by omega)
  generalize s.set G (.d (putD kvs (.inr f) (.t (.s w::.s f::ys))))=s1 at hset hb hT1
  obtain⟨y12,s',e1,e2⟩:=aCe (o1:=o1) (o2:=o2) (o3:=o3) (o4:=o4) (o5:=o5) (o6:=o6) (o7:=o7) (o8:=o8) (o10:=o10) (o11:=o11) (o13:=o13) hT xs s1 (ng+1) (some (.t (.s w::.s f::ys))) hb hT1 (by omega) (fun y hy=>h2 y (List.mem_cons_of_mem _ hy))
  refine⟨y12,s',?_,?_⟩
  ·rw[kG hs (env1:=[some (.r p),o1,o2,o3,o4,o5,o6,o7,o8,some (bkD R F Z K G W),o10,o11,some (.t (.s w::.s f::ys)),o13]) (st1:=s) (by simp only[bW,List.set_cons_succ,List.set_cons_zero])
    (env2:=[some (.r p),o1,o2,o3,o4,o5,o6,o7,o8,some (bkD R F Z K G W),o10,o11,some (.t (.s w::.s f::ys)),o13]) (st2:=s1)]
   ·exact e1
   ·simp only[List.map_cons,List.map_nil,List.cons_append,List.nil_append,List.replicate,Nat.sub_self,aW,cE,cX,cQ,dD,dI,aG,aI,bW,aM,List.set_cons_succ,List.set_cons_zero,cL,dG,cP,bC,cA,aV,bD,aZ,bK,eK,eI,fA,eU,fH,fB,fP,fO,fR,fT,dS,dU,dW,dX,dY,cY,cW,bE,bM,bT,cD,bN,bB,aT,aO,bA,aS,cR,cH,dE,dA,dF,dN,eD,eE,cZ,eB,dZ,eA,dO,cF,bV,bZ,cI,bU,bY,dH,dM,bX,dP,cB,dC,bI,cJ,bJ,fY,fZ,fU,gA,gB,gC,yH,hset]
  ·rw[show ng+(D.t (.s w::.s f::ys)::xs).length=ng+1+xs.length by simp;omega]
   exact e2
theorem aDG{xs:List D}{x:D}:atI (xs++[x]) (-1)=some x:=by
 have e:(-1+(((xs.length:Nat):Int)+1)).toNat=xs.length:=by omega
 unfold atI ixN
 rw[if_neg (by decide),if_pos (by simp;omega)]
 simp[e]
noncomputable abbrev wdC:En→M D:=eCo [9,0] (iR1 (aC (eCl (aF) (aC (eV 0) (aC (eC (.i (5))) (aN)))) (aN))) bd1 ((fun _=>L2.ret true)) (eIx (eIx (eV 1) (eC (.i (3)))) (eCl (aF) (aC (eV 2) (aC (eC (.i (3))) (aN)))))
theorem aDH{bk:D}{E:En}(hb:Bk p a b c bk s)(sd:Sd p s)(h0:∀ t,eV 0 E t=some (.r p,t))(hE:capD [9,0] E=[some bk,some (.r p)]):
  ∃ (ks:List Str) (s':Sto),wdC E s=some (.r s'.length,s'++[C.l (ks.map D.s)])∧KsOk a b c ks∧Av p s s':=by
 obtain⟨zs,s',g1,g2,g3,g4⟩:=yV (te:=eIx (eIx (eV 1) (eC (.i (3)))) (eCl (aF) (aC (eV 2) (aC (eC (.i (3))) (aN))))) (caps:=[9,0]) (n:=5) (P:=fun z=>∃ k,z=.s k∧(k=a∨k=b∨k=c)) (E:=E) (by omega) (by omega) sd h0 (by
  intro x t ht
  rw[hE]
  obtain⟨k,t',q1,q2,q3⟩:=pickK (E:=[some x,some bk,some (.r p)]) (i:=1) (j:=2) (hb.kp ht.kp) ht.sd (fun _=>rfl) (fun _=>rfl)
  exact⟨.s k,t',q1,⟨k,rfl,q2⟩,q3⟩)
 obtain⟨ks,rfl,hks⟩:=qE g2
 exact⟨ks,s',g1,⟨by simp at g3;omega,hks⟩,g4⟩
noncomputable abbrev lp14:Sm':=seqS (sE (eBm "list" appendD (eIx (eV 9) (eC (.i (5)))) (aC (eT (aC (eV 13) (aC (eCl tupD (aC (eCo [9,0] (iR1 (aC (eCl (aF) (aC (eV 0) (aC (eC (.i (5))) (aN)))) (aN))) bd1 ((fun _=>ret true)) (eIx (eIx (eV 1) (eC (.i (3)))) (eCl (aF) (aC (eV 2) (aC (eC (.i (3))) (aN)))))) (aN))) (aN)))) (aN))))
   (sE (eBm "list" appendD (eV 8) (aC (eOp addD (eT (aC (eC (.s "atom")) (aN))) (eIx (eIx (eV 9) (eC (.i (5)))) (eUn negD (eC (.i (1)))))) (aN))))
theorem aCf{T:Nat}{L0:List D}{o1 o2 o3 o4 o5 o6 o7 o10 o11 o12:Option D}(hne:b≠c)(hnc:nc≤30)(hT:W<T):∀ (xs:List Str) (s:Sto) (nr nw:Nat) (x13:Option D),BS s0 p N F Lb Lc Z R K G W a b c ns nr nc ng nw s→s[T]?=some (.l L0)→nr+xs.length≤1000→nw+xs.length≤100→
  ∃ (y13:Option D) (s':Sto),forD (fun s=>s[T]?=some (.l L0)) (gN 13) lp14 (xs.map D.s) [some (.r p),o1,o2,o3,o4,o5,o6,o7,some (.r R),some (bkD R F Z K G W),o10,o11,o12,x13] s=
   some ((.nx,[some (.r p),o1,o2,o3,o4,o5,o6,o7,some (.r R),some (bkD R F Z K G W),o10,o11,o12,y13]),s')∧BS s0 p N F Lb Lc Z R K G W a b c ns (nr+xs.length) nc ng (nw+xs.length) s'
 |[],s,nr,nw,x13,h,hs,_,_=>⟨x13,s,lI hs,h⟩
 |x::xs,s,nr,nw,x13,h,hs,h1,h2=>by
  simp only[List.length_cons] at h1 h2
  obtain⟨c1,c2,c3,c4,c5,c6,c7,c8,c9,c0⟩:=h.cz
  obtain⟨ws0,q0,_⟩:=h.w
  obtain⟨ks,s1,g1,hks,av⟩:=aDH (E:=[some (.r p),o1,o2,o3,o4,o5,o6,o7,some (.r R),some (bkD R F Z K G W),o10,o11,o12,some (.s x)]) (h.bk hnc hne) h.sd (fun _=>rfl) rfl
  have ht:=iO (aU s1 (C.l (ks.map D.s)))
  have av2:=av.ext (Ext.app s1 [C.l (ks.map D.s)])
  generalize s1++[C.l (ks.map D.s)]=s2 at g1 ht av2
  have hb2:=h.kp av2
  have hT2:=av2.kp _ _ (show T≠p by omega) hs
  obtain⟨ws,q1,q2,q3⟩:=hb2.w
  have happ:=gQ (y:=.t [.s x, .t (ks.map D.s)]) q1 (by rw[sizeLine_eq];omega)
  have hb3:=hb2.setW (ws:=ws++[.t [.s x, .t (ks.map D.s)]]) (nw':=nw+1) (by simp;omega) (fun y hy=>by
   rcases List.mem_append.mp hy with hy|hy
   ·exact q3 y hy
   ·simp at hy;subst hy;exact⟨x,ks,rfl,hks⟩)
  have hW3:=fD (c:=.l (ws++[.t [.s x, .t (ks.map D.s)]])) q1
  have hT3:=bO (c':=.l (ws++[.t [.s x, .t (ks.map D.s)]])) hT2 (show T≠W by omega)
  generalize s2.set W (.l (ws++[.t [.s x, .t (ks.map D.s)]]))=s3 at happ hb3 hW3 hT3
  obtain⟨rows,r1,r2,r3,r4⟩:=hb3.r
  have happ2:=gQ (y:=.t [.s "atom", .s x, .t (ks.map D.s)]) r1 (by rw[sizeLine_eq];omega)
  have hb4:=hb3.r' (x:=.t [.s "atom", .s x, .t (ks.map D.s)]) r1 ⟨_,_,_,rfl⟩
  have hT4:=bO (c':=.l (rows++[.t [.s "atom", .s x, .t (ks.map D.s)]])) hT3 (show T≠R by omega)
  generalize s3.set R (.l (rows++[.t [.s "atom", .s x, .t (ks.map D.s)]]))=s4 at happ2 hb4 hT4
  obtain⟨y13,s',e1,e2⟩:=aCf (o1:=o1) (o2:=o2) (o3:=o3) (o4:=o4) (o5:=o5) (o6:=o6) (o7:=o7) (o10:=o10) (o11:=o11) (o12:=o12) hne hnc hT xs s4 (nr+1) (nw+1) (some (.s x)) hb4 hT4 (by omega) (by omega)
  have hl1:[D.s "atom"].length+[D.s x, .t (ks.map D.s)].length≤sizeLine:=by rw[sizeLine_eq];simp
  refine⟨y13,s',?_,?_⟩
  ·rw[List.map_cons,kG hs (env1:=[some (.r p),o1,o2,o3,o4,o5,o6,o7,some (.r R),some (bkD R F Z K G W),o10,o11,o12,some (.s x)]) (st1:=s) (by simp only[bW,List.set_cons_succ,List.set_cons_zero])
    (env2:=[some (.r p),o1,o2,o3,o4,o5,o6,o7,some (.r R),some (bkD R F Z K G W),o10,o11,o12,some (.s x)]) (st2:=s4)]
   ·exact e1
   ·simp only[List.map_cons,List.map_nil,List.cons_append,List.nil_append,List.replicate,Nat.sub_self,aW,cE,cX,cQ,dD,dI,aG,aI,bW,aM,List.set_cons_succ,List.set_cons_zero,cL,dG,cP,bC,cA,aV,bD,aZ,bK,eK,eI,fA,eU,fH,fB,fP,fO,fR,fT,dS,dU,dW,dX,dY,cY,cW,bE,bM,bT,cD,bN,bB,aT,aO,bA,aS,cR,cH,dE,dA,dF,dN,eD,eE,cZ,eB,dZ,eA,dO,cF,bV,bZ,cI,bU,bY,dH,dM,bX,dP,cB,dC,bI,cJ,bJ,fY,fZ,fU,gA,gB,gC,fQ q0,g1,ht,happ,fQ r1,fF hW3,tW,aDG,aX hl1,happ2]
  ·rw[show nr+(x::xs).length=nr+1+xs.length by simp;omega,show nw+(x::xs).length=nw+1+xs.length by simp;omega]
   exact e2
end
end K61
end
section
namespace K61
open PySem L2 PyProof.Rows
section
variable{st s s0:Sto}{p:Nat}{N gr F Lb Lc Z R K G W:Nat}{a b c:Str}{ns:List Str}{y0 y1 y2 y3 y4 y5 y6:Str}{nr nc ng nw:Nat}
noncomputable abbrev bk7:Sm':=sA (eL (aC (eT (aC (eIx (eV 1) (eC (.i (10)))) (aC (eT (aN)) (aC (eV 2) (aN))))) (aC (eT (aC (eIx (eV 1) (eC (.i (11)))) (aC (eT (aC (eV 2) (aC (eV 3) (aN)))) (aC (eV 2) (aN))))) (aC (eT (aC (eIx (eV 1) (eC (.i (12)))) (aC (eT (aC (eV 3) (aN))) (aC (eV 3) (aN))))) (aN))))) (gN 7)
noncomputable abbrev bk8:Sm':=sA (eL (aC (eT (aC (eC (.s "open")) (aC (eV 2) (aN)))) (aC (eT (aC (eC (.s "kind")) (aC (eV 3) (aC (eCl tupD (aC (eIx (eV 6) (eV 3)) (aN))) (aN))))) (aC (eT (aC (eC (.s "kind")) (aC (eV 4) (aC (eCl tupD (aC (eIx (eV 6) (eV 4)) (aN))) (aN))))) (aN))))) (gN 8)
noncomputable abbrev bk9:Sm':=sA (eOp addD (eV 8) (eCo [] (iS (eV 7)) (bdT 3) ((fun _=>ret true)) (eT (aC (eC (.s "given")) (aC (eV 0) (aC (eV 1) (aC (eV 2) (aN)))))))) (gN 8)
noncomputable abbrev bk10:Sm':=sA (eT (aC (eV 8) (aC (eV 6) (aC (eV 7) (aC (eL (aC (eV 2) (aC (eV 3) (aC (eV 4) (aN))))) (aC (e0D) (aC (eL (aN)) (aN)))))))) (gN 9)
noncomputable abbrev bk11:Sm':=sA (eCl int1D (aC (eOp eqD (eCl (aF) (aC (eV 0) (aC (eC (.i (8))) (aN)))) (eC (.i (0)))) (aN))) (gN 10)
noncomputable abbrev bk12:Sm':=sF (iS (eSl (eOp addD (eSl (eV 1) (oS (eC (.i (13)))) (oS (eC (.i (18))))) (eSl (eV 1) (oS (eC (.i (21)))) (oS (eC (.i (26)))))) (oN) (oS (eOp addD (eOp addD (eC (.i (2))) (eOp mulD (eC (.i (6))) (eV 10))) (eCl (aF) (aC (eV 0) (aC (eOp subD (eC (.i (4))) (eV 10)) (aN)))))))) (gN 11) lp12
noncomputable abbrev bk13:Sm':=sF (iS (eSl (eV 8) (oS (eC (.i (3)))) (oN))) (gN 12) lp13
noncomputable abbrev bk14:Sm':=sF (iS (eSl (eOp addD (eSl (eV 1) (oS (eC (.i (18)))) (oS (eC (.i (20))))) (eSl (eV 1) (oS (eC (.i (26)))) (oS (eC (.i (31)))))) (oN) (oS (eOp addD (eC (.i (2))) (eOp mulD (eC (.i (5))) (eV 10)))))) (gN 13) lp14
theorem aGG{α:Type}{m:M α}{x y z w v u:D}:n3 ([x,y,z,w,v,u].length≤sizeLine) m st=m st:=aX (by rw[sizeLine_eq];simp)
theorem aGy{E:En}{o0 o4 o5 o6 o7:Option D}(hN:s[N]?=some (.l (ns.map D.s)))(h:Nms ns):∃ u0 u1 u2:Str,
  bk7 (o0::some (.r N)::some (.s a)::some (.s b)::o4::o5::o6::o7::E) s=some ((.nx,o0::some (.r N)::some (.s a)::some (.s b)::o4::o5::o6::some (.r s.length)::E),s++[C.l [.t [.s u0, .t [], .s a], .t [.s u1, .t [.s a, .s b], .s a], .t [.s u2, .t [.s b], .s b]]]):=by
 obtain⟨u0,h0⟩:=h.at (i:=10) (by omega)
 obtain⟨u1,h1⟩:=h.at (i:=11) (by omega)
 obtain⟨u2,h2⟩:=h.at (i:=12) (by omega)
 have h0':atI (ns.map D.s) 10=some (.s u0):=h0
 have h1':atI (ns.map D.s) 11=some (.s u1):=h1
 have h2':atI (ns.map D.s) 12=some (.s u2):=h2
 exact⟨u0,u1,u2,by simp only[List.map_cons,List.map_nil,List.cons_append,List.nil_append,List.replicate,Nat.sub_self,aW,cE,cX,cQ,dD,dI,aG,aI,bW,aM,List.set_cons_succ,List.set_cons_zero,cL,dG,cP,bC,cA,aV,bD,aZ,bK,eK,eI,fA,eU,fH,fB,fP,fO,fR,fT,dS,dU,dW,dX,dY,cY,cW,bE,bM,bT,cD,bN,bB,aT,aO,bA,aS,cR,cH,dE,dA,dF,dN,eD,eE,cZ,eB,dZ,eA,dO,cF,bV,bZ,cI,bU,bY,dH,dM,bX,dP,cB,dC,bI,cJ,bJ,fY,fZ,fU,gA,gB,gC,fF hN,h0',h1',h2']⟩
theorem aGz{E:En}{o0 o1 o5 o7 o8:Option D}{xs ys:List D}(hne:b≠c)(hF:s[F]?=some (.d [(Sum.inr b, .r Lb),(Sum.inr c, .r Lc)]))(hb:s[Lb]?=some (.l xs))(hc:s[Lc]?=some (.l ys)):
  bk8 (o0::o1::some (.s a)::some (.s b)::some (.s c)::o5::some (.r F)::o7::o8::E) s=some ((.nx,o0::o1::some (.s a)::some (.s b)::some (.s c)::o5::some (.r F)::o7::some (.r s.length)::E),s++[C.l [.t [.s "open", .s a], .t [.s "kind", .s b, .t xs], .t [.s "kind", .s c, .t ys]]]):=by
 have h1:ixD (.r F) (.s b) s=some (.r Lb,s):=pN hF rfl vT
 have h2:ixD (.r F) (.s c) s=some (.r Lc,s):=pN hF rfl (sY hne)
 simp only[List.map_cons,List.map_nil,List.cons_append,List.nil_append,List.replicate,Nat.sub_self,aW,cE,cX,cQ,dD,dI,aG,aI,bW,aM,List.set_cons_succ,List.set_cons_zero,cL,dG,cP,bC,cA,aV,bD,aZ,bK,eK,eI,fA,eU,fH,fB,fP,fO,fR,fT,dS,dU,dW,dX,dY,cY,cW,bE,bM,bT,cD,bN,bB,aT,aO,bA,aS,cR,cH,dE,dA,dF,dN,eD,eE,cZ,eB,dZ,eA,dO,cF,bV,bZ,cI,bU,bY,dH,dM,bX,dP,cB,dC,bI,cJ,bJ,fY,fZ,fU,gA,gB,gC,h1,h2,iO hb,iO hc]
theorem aGA{E:En}{o0 o1 o2 o3 o4 o5 o6:Option D}{x1 x2 x3:D}{cs:List D}(hR:s[R]?=some (.l [x1,x2,x3]))(hZ:s[Z]?=some (.l cs))(hcl:cs.length≤10)(hcs:∀ x∈cs,∃ (f:Str) (y z:D),x=.t [.s f,y,z]):
  ∃ (zs:List D),bk9 (o0::o1::o2::o3::o4::o5::o6::some (.r Z)::some (.r R)::E) s=some ((.nx,o0::o1::o2::o3::o4::o5::o6::some (.r Z)::some (.r (s++[C.l zs]).length)::E),s++[C.l zs]++[C.l ([x1,x2,x3]++zs)])∧zs.length≤10∧∀ z∈zs,RwOk z:=by
 obtain⟨zs,s',g1,g2,g3,g4⟩:=jD (c:=fun s=>s[Z]?=some (.l cs)) (bd:=bdT 3) (tc:=fun _=>L2.ret true) (te:=eT (aC (eC (.s "given")) (aC (eV 0) (aC (eV 1) (aC (eV 2) (aN)))))) (cap:=[]) (I:=fun t=>t=s) (P:=RwOk) cs [] s (by
  rintro x hx t rfl
  obtain⟨f,y,z,rfl⟩:=hcs x hx
  refine⟨[.s f,y,z],true,pP rfl,rfl,fun _=>⟨.t [.s "given", .s f,y,z],t,?_,⟨_,_,_,rfl⟩,rfl⟩⟩
  simp only[List.map_cons,List.map_nil,List.cons_append,List.nil_append,List.replicate,Nat.sub_self,aW,cE,cX,cQ,dD,dI,aG,aI,bW,aM,List.set_cons_succ,List.set_cons_zero,cL,dG,cP,bC,cA,aV,bD,aZ,bK,eK,eI,fA,eU,fH,fB,fP,fO,fR,fT,dS,dU,dW,dX,dY,cY,cW,bE,bM,bT,cD,bN,bB,aT,aO,bA,aS,cR,cH,dE,dA,dF,dN,eD,eE,cZ,eB,dZ,eA,dO,cF,bV,bZ,cI,bU,bY,dH,dM,bX,dP,cB,dC,bI,cJ,bJ,fY,fZ,fU,gA,gB,gC]) (fun t ht=>by rw[ht];exact hZ) rfl
 subst g2
 have hadd:=lR (Ext.app s' [C.l zs] _ _ hR) (aU s' (C.l zs)) (by rw[sizeLine_eq];simp;omega)
 have hlt:cs.length<sizeLine:=by rw[sizeLine_eq];omega
 refine⟨zs,?_,by omega,g3⟩
 simp only[cE,bC,fR,aG,aI,fI,cB,fO,jX hZ,aO,aX hlt,show capD [] (o0::o1::o2::o3::o4::o5::o6::some (D.r Z)::some (D.r R)::E)=[] from rfl,g1,List.nil_append,aS,hadd,bW,aM,List.set_cons_succ,List.set_cons_zero]
theorem aFL{E:En}{o0 o1 o5 o9:Option D}:bk10 (o0::o1::some (.s a)::some (.s b)::some (.s c)::o5::some (.r F)::some (.r Z)::some (.r R)::o9::E) s=
  some ((.nx,o0::o1::some (.s a)::some (.s b)::some (.s c)::o5::some (.r F)::some (.r Z)::some (.r R)::some (bkD R F Z s.length (s.length+1) (s.length+2))::E),s++[C.l [.s a, .s b, .s c]]++[C.d []]++[C.l []]):=by
 have he:∀ (E:En) (t:Sto),e0D E t=some (.r t.length,t++[C.d []]):=fun _ _=>rfl
 simp only[List.map_cons,List.map_nil,List.cons_append,List.nil_append,List.replicate,Nat.sub_self,aW,cE,cX,cQ,dD,dI,aG,aI,bW,aM,List.set_cons_succ,List.set_cons_zero,cL,dG,cP,bC,cA,aV,bD,aZ,bK,eK,eI,fA,eU,fH,fB,fP,fO,fR,fT,dS,dU,dW,dX,dY,cY,cW,bE,bM,bT,cD,bN,bB,aT,aO,bA,aS,cR,cH,dE,dA,dF,dN,eD,eE,cZ,eB,dZ,eA,dO,cF,bV,bZ,cI,bU,bY,dH,dM,bX,dP,cB,dC,bI,cJ,bJ,fY,fZ,fU,gA,gB,gC,he,aGG]
 simp
theorem aFM{E:En}{o1 o2 o3 o4 o5 o6 o7 o8 o9 o10:Option D}(sd:Sd p s):∃ (wd:Nat) (s':Sto),bk11 (some (.r p)::o1::o2::o3::o4::o5::o6::o7::o8::o9::o10::E) s=some ((.nx,some (.r p)::o1::o2::o3::o4::o5::o6::o7::o8::o9::some (.i (wd:Nat))::E),s')∧Av p s s'∧wd≤1:=by
 obtain⟨d,s1,h1,hd,av⟩:=fN (n:=8) sd (by omega) (by omega)
 have h1':aF [.r p, .i 8] s=some (.i (d:Nat),s1):=h1
 obtain⟨wd,hw,hw1⟩:∃ wd:Nat,(if(((d:Nat):Int)==0)=true then(1:Int) else 0)=((wd:Nat):Int)∧wd≤1:=by
  by_cases h:(((d:Nat):Int)==0)=true
  ·exact⟨1,by rw[if_pos h];rfl,by omega⟩
  ·exact⟨0,by rw[if_neg h];rfl,by omega⟩
 exact⟨wd,s1,by simp only[List.map_cons,List.map_nil,List.cons_append,List.nil_append,List.replicate,Nat.sub_self,aW,cE,cX,cQ,dD,dI,aG,aI,bW,aM,List.set_cons_succ,List.set_cons_zero,cL,dG,cP,bC,cA,aV,bD,aZ,bK,eK,eI,fA,eU,fH,fB,fP,fO,fR,fT,dS,dU,dW,dX,dY,cY,cW,bE,bM,bT,cD,bN,bB,aT,aO,bA,aS,cR,cH,dE,dA,dF,dN,eD,eE,cZ,eB,dZ,eA,dO,cF,bV,bZ,cI,bU,bY,dH,dM,bX,dP,cB,dC,bI,cJ,bJ,fY,fZ,fU,gA,gB,gC,h1',aCZ,hw],av,hw1⟩
theorem cutS{ns:List Str}{k m:Nat}(h:k≤m)(h2:m≤ns.length):L2.cutD (ns.map D.s) (some (k:Int)) (some (m:Int))=((ns.drop k).take (m - k)).map D.s:=by
 rw[zA h (by rw[List.length_map];exact h2),List.map_take,List.map_drop]
theorem aFN{o2 o3 o4 o5 o6 x11 x12 o13:Option D}{wd:Nat}(hne:b≠c)(hns:Nms ns)(hwd:wd≤1)(h:BS s0 p N F Lb Lc Z R K G W a b c ns 13 2 ng nw s):
  ∃ (y11 y12:Option D) (s':Sto),bk12 [some (.r p),some (.r N),o2,o3,o4,o5,o6,some (.r Z),some (.r R),some (bkD R F Z K G W),some (.i (wd:Nat)),x11,x12,o13] s=
   some ((.nx,[some (.r p),some (.r N),o2,o3,o4,o5,o6,some (.r Z),some (.r R),some (bkD R F Z K G W),some (.i (wd:Nat)),y11,y12,o13]),s')∧BS s0 p N F Lb Lc Z R K G W a b c ns 23 12 ng nw s':=by
 have hl:=hns.len
 have hc1:L2.cutD (ns.map D.s) (some 13) (some 18)=((ns.drop 13).take 5).map D.s:=cutS (k:=13) (m:=18) (by omega) (by omega)
 have hc2:L2.cutD (ns.map D.s) (some 21) (some 26)=((ns.drop 21).take 5).map D.s:=cutS (k:=21) (m:=26) (by omega) (by omega)
 have hx1:((ns.drop 13).take 5).length=5:=by simp;omega
 have hx2:((ns.drop 21).take 5).length=5:=by simp;omega
 generalize hxa:(ns.drop 13).take 5=xa at hc1 hx1
 generalize hxb:(ns.drop 21).take 5=xb at hc2 hx2
 have hN:=h.n
 have e1:=Ext.app s [C.l (xa.map D.s)]
 have n1:=aU s (C.l (xa.map D.s))
 have hN1:=e1 _ _ hN
 generalize hs1:s++[C.l (xa.map D.s)]=s1 at e1 n1 hN1
 have e2:=Ext.app s1 [C.l (xb.map D.s)]
 have n2:=aU s1 (C.l (xb.map D.s))
 have n1':=e2 _ _ n1
 generalize hs2:s1++[C.l (xb.map D.s)]=s2 at e2 n2 n1'
 have hadd:=lR n1' n2 (by rw[sizeLine_eq];simp[hx1,hx2])
 have e3:=Ext.app s2 [C.l (xa.map D.s++xb.map D.s)]
 have n3':=aU s2 (C.l (xa.map D.s++xb.map D.s))
 generalize hs3:s2++[C.l (xa.map D.s++xb.map D.s)]=s3 at e3 n3' hadd
 have av3:Av p s s3:=(Av.refl h.sd).ext ((e1.trans e2).trans e3)
 have hp3:s2.length≠p:=by have:=h.sd.lt;have:=(e1.trans e2).len;omega
 generalize hl3:s2.length=l3 at n3' hadd hp3
 obtain⟨d,s4,hn4,hd4,av4⟩:=fN (n:=4 - wd) av3.sd (by omega) (by omega)
 have hsub:(4:Int) - ((wd:Nat):Int)=((4 - wd:Nat):Int):=by omega
 have hm:CMul 6 ((wd:Nat):Int):=.inl ⟨by decide,by decide⟩
 have hh:(2:Int)+6 * ((wd:Nat):Int)+((d:Nat):Int)=((2+6 * wd+d:Nat):Int):=by omega
 have n4:=av4.kp _ _ hp3 n3'
 have hcut:L2.cutD (xa.map D.s++xb.map D.s) none (some ((2+6 * wd+d:Nat):Int))=((xa++xb).take (min (2+6 * wd+d) 10)).map D.s:=by
  rw[vW,← List.map_append,List.length_map,List.length_append,hx1,hx2,List.map_take]
 have hxl:((xa++xb).take (min (2+6 * wd+d) 10)).length≤10:=by simp;omega
 generalize hxc:(xa++xb).take (min (2+6 * wd+d) 10)=xc at hcut hxl
 have e5:=Ext.app s4 [C.l (xc.map D.s)]
 have n5:=aU s4 (C.l (xc.map D.s))
 have av5:=(av3.trans av4).ext e5
 have hb5:=h.kp av5
 have hW4:W<s4.length:=by obtain⟨ws,q,_⟩:=(h.kp (av3.trans av4)).w;exact(List.getElem?_eq_some_iff.mp q).1
 generalize hs5:s4++[C.l (xc.map D.s)]=s5 at e5 n5 av5 hb5
 generalize hl5:s4.length=T at n5 hW4
 obtain⟨y11,y12,s',g1,g2⟩:=aCc (o2:=o2) (o3:=o3) (o4:=o4) (o5:=o5) (o6:=o6) (o10:=some (.i (wd:Nat))) (o13:=o13) hne hW4 xc s5 13 2 x11 x12 hb5 n5 (by omega) (by omega)
 refine⟨y11,y12,s',?_,?_⟩
 ·simp only[List.map_cons,List.map_nil,List.cons_append,List.nil_append,List.replicate,Nat.sub_self,aW,cE,cX,cQ,dD,dI,aG,aI,bW,aM,List.set_cons_succ,List.set_cons_zero,cL,dG,cP,bC,cA,aV,bD,aZ,bK,eK,eI,fA,eU,fH,fB,fP,fO,fR,fT,dS,dU,dW,dX,dY,cY,cW,bE,bM,bT,cD,bN,bB,aT,aO,bA,aS,cR,cH,dE,dA,dF,dN,eD,eE,cZ,eB,dZ,eA,dO,cF,bV,bZ,cI,bU,bY,dH,dM,bX,dP,cB,dC,bI,cJ,bJ,fY,fZ,fU,gA,gB,gC,lB,oA hN,hc1,hs1,oA hN1,hc2,hs2,hadd,hl3,nO,aX hm,hsub,hn4,hh,oA n4,hcut,hs5,hl5,jX n5,g1]
 ·obtain⟨f0,cl,q5,q6⟩:=g2.z
  obtain⟨rows,q7,q8,q9,q10⟩:=g2.r
  exact⟨g2.cz,g2.sd,g2.k0,g2.n,g2.f,g2.lb,g2.lc,⟨f0,cl,q5,by omega,q6.2⟩,⟨rows,q7,q8,by omega,q10⟩,g2.k,g2.g,g2.w⟩
theorem aFO{o1 o2 o3 o4 o5 o6 o7 o10 o11 x12 o13:Option D}(h:BS s0 p N F Lb Lc Z R K G W a b c ns 23 12 0 nw s):
  ∃ (y12:Option D) (s':Sto),bk13 [some (.r p),o1,o2,o3,o4,o5,o6,o7,some (.r R),some (bkD R F Z K G W),o10,o11,x12,o13] s=
   some ((.nx,[some (.r p),o1,o2,o3,o4,o5,o6,o7,some (.r R),some (bkD R F Z K G W),o10,o11,y12,o13]),s')∧∃ ng,BS s0 p N F Lb Lc Z R K G W a b c ns 23 12 ng nw s':=by
 obtain⟨rows,q7,q8,q9,q10⟩:=h.r
 have hcut:L2.cutD rows (some 3) none=rows.drop 3:=mK (k:=3) q8
 have e1:=Ext.app s [C.l (rows.drop 3)]
 have n1:=aU s (C.l (rows.drop 3))
 have hb1:=h.kp ((Av.refl h.sd).ext e1)
 have hW:W<s.length:=by obtain⟨ws,q,_⟩:=h.w;exact(List.getElem?_eq_some_iff.mp q).1
 generalize hs1:s++[C.l (rows.drop 3)]=s1 at e1 n1 hb1
 generalize hl1:s.length=T at n1 hW
 obtain⟨y12,s',g1,g2⟩:=aCe (o1:=o1) (o2:=o2) (o3:=o3) (o4:=o4) (o5:=o5) (o6:=o6) (o7:=o7) (o8:=some (.r R)) (o10:=o10) (o11:=o11) (o13:=o13) hW (rows.drop 3) s1 0 x12 hb1 n1 (by simp;omega) q10
 refine⟨y12,s',?_,_,g2⟩
 simp only[List.map_cons,List.map_nil,List.cons_append,List.nil_append,List.replicate,Nat.sub_self,aW,cE,cX,cQ,dD,dI,aG,aI,bW,aM,List.set_cons_succ,List.set_cons_zero,cL,dG,cP,bC,cA,aV,bD,aZ,bK,eK,eI,fA,eU,fH,fB,fP,fO,fR,fT,dS,dU,dW,dX,dY,cY,cW,bE,bM,bT,cD,bN,bB,aT,aO,bA,aS,cR,cH,dE,dA,dF,dN,eD,eE,cZ,eB,dZ,eA,dO,cF,bV,bZ,cI,bU,bY,dH,dM,bX,dP,cB,dC,bI,cJ,bJ,fY,fZ,fU,gA,gB,gC,lB,oA q7,hcut,hs1,hl1,jX n1,g1]
theorem aFP{o2 o3 o4 o5 o6 o7 o11 o12 x13:Option D}{wd:Nat}(hne:b≠c)(hns:Nms ns)(hwd:wd≤1)(h:BS s0 p N F Lb Lc Z R K G W a b c ns 23 12 ng 0 s):
  ∃ (y13:Option D) (s':Sto) (nr nw:Nat),bk14 [some (.r p),some (.r N),o2,o3,o4,o5,o6,o7,some (.r R),some (bkD R F Z K G W),some (.i (wd:Nat)),o11,o12,x13] s=
   some ((.nx,[some (.r p),some (.r N),o2,o3,o4,o5,o6,o7,some (.r R),some (bkD R F Z K G W),some (.i (wd:Nat)),o11,o12,y13]),s')∧BS s0 p N F Lb Lc Z R K G W a b c ns nr 12 ng nw s'∧1≤nw∧nw≤10:=by
 have hl:=hns.len
 have hc1:L2.cutD (ns.map D.s) (some 18) (some 20)=((ns.drop 18).take 2).map D.s:=cutS (k:=18) (m:=20) (by omega) (by omega)
 have hc2:L2.cutD (ns.map D.s) (some 26) (some 31)=((ns.drop 26).take 5).map D.s:=cutS (k:=26) (m:=31) (by omega) (by omega)
 have hx1:((ns.drop 18).take 2).length=2:=by simp;omega
 have hx2:((ns.drop 26).take 5).length=5:=by simp;omega
 generalize hxa:(ns.drop 18).take 2=xa at hc1 hx1
 generalize hxb:(ns.drop 26).take 5=xb at hc2 hx2
 have hN:=h.n
 have e1:=Ext.app s [C.l (xa.map D.s)]
 have n1:=aU s (C.l (xa.map D.s))
 have hN1:=e1 _ _ hN
 generalize hs1:s++[C.l (xa.map D.s)]=s1 at e1 n1 hN1
 have e2:=Ext.app s1 [C.l (xb.map D.s)]
 have n2:=aU s1 (C.l (xb.map D.s))
 have n1':=e2 _ _ n1
 generalize hs2:s1++[C.l (xb.map D.s)]=s2 at e2 n2 n1'
 have hadd:=lR n1' n2 (by rw[sizeLine_eq];simp[hx1,hx2])
 have e3:=Ext.app s2 [C.l (xa.map D.s++xb.map D.s)]
 have n3':=aU s2 (C.l (xa.map D.s++xb.map D.s))
 generalize hs3:s2++[C.l (xa.map D.s++xb.map D.s)]=s3 at e3 n3' hadd
 have av3:Av p s s3:=(Av.refl h.sd).ext ((e1.trans e2).trans e3)
 generalize hl3:s2.length=l3 at n3' hadd
 have hm:CMul 5 ((wd:Nat):Int):=.inl ⟨by decide,by decide⟩
 have hh:(2:Int)+5 * ((wd:Nat):Int)=((2+5 * wd:Nat):Int):=by omega
 have hcut:L2.cutD (xa.map D.s++xb.map D.s) none (some ((2+5 * wd:Nat):Int))=((xa++xb).take (min (2+5 * wd) 7)).map D.s:=by
  rw[vW,← List.map_append,List.length_map,List.length_append,hx1,hx2,List.map_take]
 have hxl:((xa++xb).take (min (2+5 * wd) 7)).length≤7∧1≤((xa++xb).take (min (2+5 * wd) 7)).length:=by simp[hx1,hx2];omega
 generalize hxc:(xa++xb).take (min (2+5 * wd) 7)=xc at hcut hxl
 have e5:=Ext.app s3 [C.l (xc.map D.s)]
 have n5:=aU s3 (C.l (xc.map D.s))
 have av5:=av3.ext e5
 have hb5:=h.kp av5
 have hW4:W<s3.length:=by obtain⟨ws,q,_⟩:=(h.kp av3).w;exact(List.getElem?_eq_some_iff.mp q).1
 generalize hs5:s3++[C.l (xc.map D.s)]=s5 at e5 n5 av5 hb5
 generalize hl5:s3.length=T at n5 hW4
 obtain⟨y13,s',g1,g2⟩:=aCf (o1:=some (.r N)) (o2:=o2) (o3:=o3) (o4:=o4) (o5:=o5) (o6:=o6) (o7:=o7) (o10:=some (.i (wd:Nat))) (o11:=o11) (o12:=o12) hne (by omega) hW4 xc s5 23 0 x13 hb5 n5 (by omega) (by omega)
 refine⟨y13,s',_,_,?_,g2,by omega,by omega⟩
 simp only[List.map_cons,List.map_nil,List.cons_append,List.nil_append,List.replicate,Nat.sub_self,aW,cE,cX,cQ,dD,dI,aG,aI,bW,aM,List.set_cons_succ,List.set_cons_zero,cL,dG,cP,bC,cA,aV,bD,aZ,bK,eK,eI,fA,eU,fH,fB,fP,fO,fR,fT,dS,dU,dW,dX,dY,cY,cW,bE,bM,bT,cD,bN,bB,aT,aO,bA,aS,cR,cH,dE,dA,dF,dN,eD,eE,cZ,eB,dZ,eA,dO,cF,bV,bZ,cI,bU,bY,dH,dM,bX,dP,cB,dC,bI,cJ,bJ,fY,fZ,fU,gA,gB,gC,lB,oA hN,hc1,hs1,oA hN1,hc2,hs2,hadd,hl3,nO,aX hm,hh,oA n3',hcut,hs5,hl5,jX n5,g1]
theorem aFQ(hN:st[N]?=some (.l (ns.map D.s)))(hns:Nms ns)(hp:p<N)(sd:Sd p st):∃ (a b c:Str) (bk:D) (st':Sto),kP [.r p, .r N] st=some (bk,st')∧Bk p a b c bk st'∧Wd p a b c bk st'∧Av p st st':=by
 obtain⟨a,b,c,x3,x4,x5,x6,x7,x8,x9,rest,hex,hr,hok,hne⟩:=hns.ex
 have hNl:=(List.getElem?_eq_some_iff.mp hN).1
 have h1:=aGv (s:=st) (o0:=some (.r p)) (o2:=none) (o3:=none) (o4:=none) (E:=[none,none,none,none,none,none,none,none,none]) hN ⟨_,hex⟩
 have e1:=Ext.app st [C.l [.s a, .s b, .s c]]
 generalize st++[C.l [.s a, .s b, .s c]]=s1 at h1 e1
 obtain⟨y0,y1,y2,y3,y4,y5,y6,s2,gr,h2,e2,hgr,hg⟩:=aGw (s:=s1) (o0:=some (.r p)) (o2:=some (.s a)) (o3:=some (.s b)) (o4:=some (.s c)) (o5:=none) (E:=[none,none,none,none,none,none,none,none]) (e1 _ _ hN) hns
 have hgl:=(List.getElem?_eq_some_iff.mp hg).1
 have h3:=aGx (s:=s2) (o0:=some (.r p)) (o1:=some (.r N)) (o2:=some (.s a)) (o6:=none) (E:=[none,none,none,none,none,none,none]) hne hg
 have e3:=Ext.app s2 [C.d [(Sum.inr b, .r (s2.length+1)),(Sum.inr c, .r (s2.length+2))],C.l [.t [.s y0, .t []], .t [.s y1, .t [.s b]]],C.l [.t [.s y2, .t []], .t [.s y3, .t [.s b, .s c]]]]
 have e13:=(e1.trans e2).trans e3
 have hF3:(s2++[C.d [(Sum.inr b, .r (s2.length+1)),(Sum.inr c, .r (s2.length+2))],C.l [.t [.s y0, .t []], .t [.s y1, .t [.s b]]],C.l [.t [.s y2, .t []], .t [.s y3, .t [.s b, .s c]]]])[s2.length]?=some (C.d [(Sum.inr b, .r (s2.length+1)),(Sum.inr c, .r (s2.length+2))]):=by simp
 have hb3:LbOk (s2.length+1) a b c 1 (s2++[C.d [(Sum.inr b, .r (s2.length+1)),(Sum.inr c, .r (s2.length+2))],C.l [.t [.s y0, .t []], .t [.s y1, .t [.s b]]],C.l [.t [.s y2, .t []], .t [.s y3, .t [.s b, .s c]]]]):=⟨y0,[.t [.s y1, .t [.s b]]],by simp,by simp,fun x hx=>by simp at hx;subst hx;exact⟨y1,[b],rfl,by simp[KsOk]⟩⟩
 have hc3:LcOk (s2.length+2) a b c 1 (s2++[C.d [(Sum.inr b, .r (s2.length+1)),(Sum.inr c, .r (s2.length+2))],C.l [.t [.s y0, .t []], .t [.s y1, .t [.s b]]],C.l [.t [.s y2, .t []], .t [.s y3, .t [.s b, .s c]]]]):=⟨y2,[],[.t [.s y3, .t [.s b, .s c]]],by simp,by simp,fun x hx=>by simp at hx;subst hx;exact⟨y3,[b,c],rfl,by simp[KsOk]⟩, .inl rfl⟩
 have hl12:=(e1.trans e2).len
 have hl1:=e1.len
 generalize s2++[C.d [(Sum.inr b, .r (s2.length+1)),(Sum.inr c, .r (s2.length+2))],C.l [.t [.s y0, .t []], .t [.s y1, .t [.s b]]],C.l [.t [.s y2, .t []], .t [.s y3, .t [.s b, .s c]]]]=s3 at h3 e3 e13 hF3 hb3 hc3
 have hch:Ch st p N gr s2.length (s2.length+1) (s2.length+2):=⟨hp,by omega,hgl,by omega,by omega,by omega⟩
 have hFS:FS st p N gr s2.length (s2.length+1) (s2.length+2) a b c ns y0 y1 y2 y3 y4 y5 y6 s3:=⟨sd.ext e13,Kp.of e13,e13 _ _ hN,e3 _ _ hg,hF3⟩
 generalize hLb:s2.length+1=Lb at h3 hb3 hch hFS hF3
 generalize hLc:s2.length+2=Lc at h3 hc3 hch hFS hF3
 generalize hFF:s2.length=F at h3 hch hFS hF3 hLb hLc hl12
 obtain⟨s4,h4,hF4,hb4,hc4⟩:=aGs (E:=[none,none,none,none,none,none,none]) hch hFS hb3 hc3
 obtain⟨s5,m,h5,hF5,hb5,hc5,hm⟩:=aGt (E:=[none,none,none,none,none,none,none]) hne hch hF4 hb4 hc4
 obtain⟨s6,h6,hF6,hb6,hc6⟩:=aGu (E:=[none,none,none,none,none,none,none]) hne hch hF5 hb5 hc5
 obtain⟨n1,fb,qb1,qb2,qb3⟩:=hb6
 obtain⟨n2,k2,fc,qc1,qc2,qc3,qc4⟩:=hc6
 obtain⟨u0,u1,u2,h7⟩:=aGy (s:=s6) (a:=a) (b:=b) (o0:=some (.r p)) (o4:=some (.s c)) (o5:=some (.r gr)) (o6:=some (.r F)) (o7:=none) (E:=[none,none,none,none,none,none]) hF6.n hns
 have e7:=Ext.app s6 [C.l [.t [.s u0, .t [], .s a], .t [.s u1, .t [.s a, .s b], .s a], .t [.s u2, .t [.s b], .s b]]]
 have q7:=aU s6 (C.l [.t [.s u0, .t [], .s a], .t [.s u1, .t [.s a, .s b], .s a], .t [.s u2, .t [.s b], .s b]])
 have hZc:Lc<s6.length:=(List.getElem?_eq_some_iff.mp qc1).1
 generalize s6++[C.l [.t [.s u0, .t [], .s a], .t [.s u1, .t [.s a, .s b], .s a], .t [.s u2, .t [.s b], .s b]]]=s7 at h7 e7 q7
 generalize s6.length=Z at h7 q7 hZc
 have h8:=aGz (s:=s7) (a:=a) (o0:=some (.r p)) (o1:=some (.r N)) (o5:=some (.r gr)) (o7:=some (.r Z)) (o8:=none) (E:=[none,none,none,none,none]) hne (e7 _ _ hF6.f) (e7 _ _ qb1) (e7 _ _ qc1)
 have e8:=Ext.app s7 [C.l [.t [.s "open", .s a], .t [.s "kind", .s b, .t (.t [.s n1, .t []]::fb)], .t [.s "kind", .s c, .t (.t [.s n2, .t (k2.map D.s)]::fc)]]]
 have q8:=aU s7 (C.l [.t [.s "open", .s a], .t [.s "kind", .s b, .t (.t [.s n1, .t []]::fb)], .t [.s "kind", .s c, .t (.t [.s n2, .t (k2.map D.s)]::fc)]])
 have hZs7:Z<s7.length:=(List.getElem?_eq_some_iff.mp q7).1
 generalize s7++[C.l [.t [.s "open", .s a], .t [.s "kind", .s b, .t (.t [.s n1, .t []]::fb)], .t [.s "kind", .s c, .t (.t [.s n2, .t (k2.map D.s)]::fc)]]]=s8 at h8 e8 q8
 generalize s7.length=R0 at h8 q8 hZs7
 obtain⟨zs,h9,hz1,hz2⟩:=aGA (s:=s8) (o0:=some (.r p)) (o1:=some (.r N)) (o2:=some (.s a)) (o3:=some (.s b)) (o4:=some (.s c)) (o5:=some (.r gr)) (o6:=some (.r F)) (E:=[none,none,none,none,none]) q8 (e8 _ _ q7) (by simp) (fun x hx=>by
  simp at hx
  rcases hx with rfl|rfl|rfl<;>exact⟨_,_,_,rfl⟩)
 have e9:=(Ext.app s8 [C.l zs]).trans (Ext.app (s8++[C.l zs]) [C.l ([.t [.s "open", .s a], .t [.s "kind", .s b, .t (.t [.s n1, .t []]::fb)], .t [.s "kind", .s c, .t (.t [.s n2, .t (k2.map D.s)]::fc)]]++zs)])
 have q9:=aU (s8++[C.l zs]) (C.l ([.t [.s "open", .s a], .t [.s "kind", .s b, .t (.t [.s n1, .t []]::fb)], .t [.s "kind", .s c, .t (.t [.s n2, .t (k2.map D.s)]::fc)]]++zs))
 have hRs:R0 < (s8++[C.l zs]).length:=by have:=(List.getElem?_eq_some_iff.mp q8).1;simp;omega
 generalize s8++[C.l zs]++[C.l ([.t [.s "open", .s a], .t [.s "kind", .s b, .t (.t [.s n1, .t []]::fb)], .t [.s "kind", .s c, .t (.t [.s n2, .t (k2.map D.s)]::fc)]]++zs)]=s9 at h9 e9 q9
 generalize (s8++[C.l zs]).length=R at h9 q9 hRs
 have h10:=aFL (s:=s9) (a:=a) (b:=b) (c:=c) (F:=F) (Z:=Z) (R:=R) (o0:=some (.r p)) (o1:=some (.r N)) (o5:=some (.r gr)) (o9:=none) (E:=[none,none,none,none])
 have e10:=((Ext.app s9 [C.l [.s a, .s b, .s c]]).trans (Ext.app (s9++[C.l [.s a, .s b, .s c]]) [C.d []])).trans (Ext.app (s9++[C.l [.s a, .s b, .s c]]++[C.d []]) [C.l []])
 have hk10:(s9++[C.l [.s a, .s b, .s c]]++[C.d []]++[C.l []])[s9.length]?=some (C.l [.s a, .s b, .s c]):=by simp
 have hg10:(s9++[C.l [.s a, .s b, .s c]]++[C.d []]++[C.l []])[s9.length+1]?=some (C.d []):=by simp
 have hw10:(s9++[C.l [.s a, .s b, .s c]]++[C.d []]++[C.l []])[s9.length+2]?=some (C.l []):=by simp
 have hRs9:R<s9.length:=(List.getElem?_eq_some_iff.mp q9).1
 generalize s9++[C.l [.s a, .s b, .s c]]++[C.d []]++[C.l []]=s10 at h10 e10 hk10 hg10 hw10
 have e610:=((e7.trans e8).trans e9).trans e10
 obtain⟨hc1,hc2,hc3',hc4',hc5',hc6'⟩:=hch
 have hBS:BS st p N F Lb Lc Z R s9.length (s9.length+1) (s9.length+2) a b c ns 13 2 0 0 s10:=by
  refine⟨⟨hc1,by omega,hc4',hc5',hZc,by omega,hRs9,by omega,by omega,hc6'⟩,hF6.sd.ext e610,hF6.k0.trans (Kp.of e610),e610 _ _ hF6.n,e610 _ _ hF6.f,⟨n1,fb,e610 _ _ qb1,by omega,qb3⟩,⟨n2,k2,fc,e610 _ _ qc1,by omega,qc3,qc4⟩,⟨u0,_,e10 _ _ (e9 _ _ (e8 _ _ q7)),by simp,fun x hx=>?_⟩,⟨_,e10 _ _ q9,by simp,by simp;omega,fun x hx=>hz2 x (by simpa using hx)⟩,hk10,⟨[],hg10,by simp⟩,⟨[],hw10,rfl,by simp⟩⟩
  simp at hx
  rcases hx with rfl|rfl
  ·exact⟨u1,[a,b],a,rfl,by simp[KsOk]⟩
  ·exact⟨u2,[b],b,rfl,by simp[KsOk]⟩
 generalize s9.length=K at h10 hBS
 generalize K+1=G at h10 hBS
 generalize K+2=W at h10 hBS
 obtain⟨wd,s11,h11,av11,hwd⟩:=aFM (o1:=some (.r N)) (o2:=some (.s a)) (o3:=some (.s b)) (o4:=some (.s c)) (o5:=some (.r gr)) (o6:=some (.r F)) (o7:=some (.r Z)) (o8:=some (.r R)) (o9:=some (bkD R F Z K G W)) (o10:=none) (E:=[none,none,none]) hBS.sd
 obtain⟨y11,y12,s12,h12,hB12⟩:=aFN (o2:=some (.s a)) (o3:=some (.s b)) (o4:=some (.s c)) (o5:=some (.r gr)) (o6:=some (.r F)) (x11:=none) (x12:=none) (o13:=none) hne hns hwd (hBS.kp av11)
 obtain⟨z12,s13,h13,ng,hB13⟩:=aFO (o1:=some (.r N)) (o2:=some (.s a)) (o3:=some (.s b)) (o4:=some (.s c)) (o5:=some (.r gr)) (o6:=some (.r F)) (o7:=some (.r Z)) (o10:=some (.i (wd:Nat))) (o11:=y11) (x12:=y12) (o13:=none) hB12
 obtain⟨z13,s14,nr,nw,h14,hB14,hw1,hw2⟩:=aFP (o2:=some (.s a)) (o3:=some (.s b)) (o4:=some (.s c)) (o5:=some (.r gr)) (o6:=some (.r F)) (o7:=some (.r Z)) (o11:=y11) (o12:=z12) (x13:=none) hne hns hwd hB13
 obtain⟨ws,q1,q2,q3⟩:=hB14.w
 have cz:=hB14.cz
 refine⟨a,b,c,bkD R F Z K G W,s14,?_,hB14.bk (by omega) hne,⟨R,F,Z,K,G,W,ws,rfl,by have:=cz.c1;have:=cz.c2;have:=cz.c3;have:=cz.c4;have:=cz.c5;have:=cz.c6;have:=cz.c7;have:=cz.c8;have:=cz.c9;omega,q1,by intro z;rw[z] at q2;simp at q2;omega,by omega,q3⟩,⟨hB14.sd,hB14.k0⟩⟩
 rw[kP,eZ (p:=2) rfl,mD]
 simp only[List.map_cons,List.map_nil,List.cons_append,List.nil_append,List.replicate,aW,h1,h2,h3,h4,h5,h6,h7,h8,h9,h10,h11,h12,h13,h14,cL,cQ,fT,aG,aM,cP]
end
end K61
end
section
namespace K61
open PySem L2 PyProof.Rows
section
variable{st s:Sto}{p:Nat}{a b c:Str}{bk:D}
theorem aCg{g:D→En→M En}{tb:Sm'}{x d:D}{xs:List D}{env env1 env2:En}{st st1 st2:Sto}(h1:g x env st=some (env1,st1))(h2:tb env1 st1=some ((.rt d,env2),st2)):forD (fun _=>True) g tb (x::xs) env st=some ((.rt d,env2),st2):=by
 rw[forD]
 simp[h1,h2]
theorem Fl.trm{d:Nat}{r r':RT}{ts:List RT}(h:Fl d r ts r'):terms r'=ts:=by
 induction h with
 |fls=>exact kF
 |same=>exact iQ _ _
 |atom=>exact jJ _ _
 |bnd hw _ ih=>rw[lF hw];exact ih
 |con hw _ _ ih1 ih2=>rw[lG hw,ih1,ih2]
structure Good (r:RT):Prop where
 sm:Sm 8 5 r
 le:sz r≤3000000
 tm:∀ c∈terms r,sz c≤2809
theorem aFR{l n:Nat}{xs:List D}(h:s[l]?=some (.l xs))(hn:n≤100)(hl:(List.replicate n xs).flatten.length≤sizeLine):mulD (.r l) (.i (n:Nat)) s=some (.r s.length,s++[C.l (List.replicate n xs).flatten]):=by
 show bnd (getL l) _ s=_
 rw[fW (jY h),aO,aX ⟨by omega,by omega⟩,Int.toNat_natCast,bA,aX hl,aS]
theorem aCh{r t:RT}{x:Str}{m:Nat}(hm:m≤3)(hr:Sm 4 m r)(hs:sz r≤1711)(hc:∀ c∈terms r,sz c≤53)(ht:Tm 4 t)(hts:sz t≤53):Good (fin (fre x) t r):=by
 have hf:=(wZ (u:=t) (Tm.free 0 x) hr).2.1
 have htm:∀ y∈fins (fre x) t (terms r),Tm 8 y∧sz y≤2809:=by
  intro y hy
  rw[rG] at hy
  obtain⟨z,hz,rfl⟩:=List.mem_map.mp hy
  refine⟨(yR (t:=fre x) ht (hr.tm z hz)).2,?_⟩
  have h1:=uI (fre x) t z
  have h2:=hc z hz
  have h3:sz z * sz t≤53 * 53:=Nat.mul_le_mul h2 hts
  omega
 refine⟨(hf.sm fun y hy=>(htm y hy).1).monoD (by omega),?_,?_⟩
 ·have h1:=uI (fre x) t r
  have h3:sz r * sz t≤1711 * 53:=Nat.mul_le_mul hs hts
  omega
 ·rw[hf.trm];exact fun y hy=>(htm y hy).2
noncomputable abbrev drB:Sm':=seqS (sA (eCl (bQ 14) (aC (eCl (gV 5) (aC (eV 0) (aC (eV 1) (aC (eOp addD (eV 2) (eOp mulD (eL (aC (eT (aC (eV 3) (aC (eV 4) (aN)))) (aN))) (eC (.i (2))))) (aC (eL (aN)) (aC (eV 7) (aN))))))) (aC (eV 3) (aC (eV 5) (aN))))) (gN 8))
   (seqS (sA (eCl sumD (aC (eCo [] (iS (eCl (cN 6) (aC (eV 8) (aN)))) bd1 ((fun _=>ret true)) (eCl (cU 14) (aC (eV 0) (aN)))) (aN))) (gN 9))
   (seqS (sA (eOp addD (eOp mulD (eCl (gJ) (aC (eV 8) (aC (eV 5) (aN)))) (eOp addD (eC (.i (5))) (eCl (cU 14) (aC (eV 6) (aN))))) (eOp mulD (eCl (gJ) (aC (eV 8) (aC (eV 6) (aN)))) (eOp addD (eC (.i (5))) (eCl (cU 14) (aC (eV 5) (aN)))))) (gN 10))
   (sI (tAn (tCm leD (eV 9) (eC (.i (400)))) (tCm leD (eV 10) (eC (.i (600))))) (sR (eV 8)) (sN))))
theorem aFS{r:RT}{E:En}(hr:Good r)(h8:∀ t,eV 8 E t=some (enD r,t)):∃ (v:Int) (l:Nat) (s':Sto),eCo [] (iS (eCl (cN 6) (aC (eV 8) (aN)))) bd1 ((fun _=>L2.ret true)) (eCl (cU 14) (aC (eV 0) (aN))) E s=some (.r l,s')∧sumD [.r l] s'=some (.i v,s')∧Ext s s':=by
 obtain⟨l,st1,h1,e1,hl1,hc1⟩:=uG (m:=8) 5 r s hr.sm (by have:=hr.le;omega)
 have htz:=lH r
 have hls:=iA (terms r)
 have hle:=hr.le
 obtain⟨st2,g1,g2⟩:=comp_map (c:=fun s=>s[l]?=some (.l (enDs (terms r)))) (te:=eCl (cU 14) (aC (eV 0) (aN))) (cap:=[]) (I:=fun s=>Ext st1 s) (f:=enD) (g:=fun p=>D.i (sz p:Nat)) (terms r) [] st1 (by
  intro q hq t ht
  have hz:=hr.tm q hq
  obtain⟨t',q1,q2⟩:=uJ 8 q t (hr.sm.tm q hq) (by omega) 14 (by omega)
  refine⟨t',?_,ht.trans q2⟩
  simp only[aV,bD,eK,aG,aI,aZ,aM,q1]) (fun s hs=>hs _ _ hc1) (Ext.refl _)
 have hlt:(enDs (terms r)).length<sizeLine:=by rw[cK,sizeLine_eq];omega
 have hsum:=xJ (f:=fun p=>((sz p:Nat):Int)) (ps:=terms r) (aU st2 (C.l ((terms r).map fun p=>D.i (sz p:Nat))))
 refine⟨_,st2.length,_,?_,hsum,(e1.trans g2).trans (Ext.app st2 [C.l ((terms r).map fun p=>D.i (sz p:Nat))])⟩
 rw[← eJ] at g1
 simp only[aV,bD,fI,cB,h8,aG,aI,aZ,aM,h1,jX hc1,aO,aX hlt,show capD [] E=[] from rfl,g1,List.nil_append,aS]
theorem aDI{T:Nat}{x k:Str}{t u:RT}{m:Nat}{x8 x9 x10:Option D}(hm:m≤3)(hB:Bk p a b c bk s)(hW:Wd p a b c bk s)(hT:T≠p∧∃ ths,s[T]?=some (.l ths)∧ths.length≤50∧∀ x∈ths,∃ n k,x=D.t [.s n, .s k])(sd:Sd p s)
  (ht:Tm 4 t)(hts:sz t≤53)(hu:Tm 8 u)(hus:sz u≤2809):
  ∃ fl e' s',drB [some (.r p),some bk,some (.r T),some (.s x),some (.s k),some (enD t),some (enD u),some (.i (m:Nat)),x8,x9,x10] s=some ((fl,e'),s')∧Av p s s'∧
   ((fl=.nx∧∃ y8 y9 y10,e'=[some (.r p),some bk,some (.r T),some (.s x),some (.s k),some (enD t),some (enD u),some (.i (m:Nat)),y8,y9,y10])∨∃ r,fl=.rt (enD r)∧Good r):=by
 obtain⟨hTp,ths,hT1,hT2,hT3⟩:=hT
 have e1:=Ext.app s [C.l [.t [.s x, .s k]]]
 have n1:=aU s (C.l [.t [.s x, .s k]])
 generalize hs1:s++[C.l [.t [.s x, .s k]]]=s1 at e1 n1
 generalize hl1:s.length=l1 at n1
 have hmul:mulD (.r l1) (.i 2) s1=some (.r s1.length,s1++[C.l [.t [.s x, .s k], .t [.s x, .s k]]]):=aFR (n:=2) n1 (by omega) (by rw[sizeLine_eq];simp)
 have e2:=Ext.app s1 [C.l [.t [.s x, .s k], .t [.s x, .s k]]]
 have n2:=aU s1 (C.l [.t [.s x, .s k], .t [.s x, .s k]])
 generalize hs2:s1++[C.l [.t [.s x, .s k], .t [.s x, .s k]]]=s2 at e2 n2 hmul
 have hadd:=lR (e2 _ _ (e1 _ _ hT1)) n2 (by rw[sizeLine_eq];simp;omega)
 have e3:=Ext.app s2 [C.l (ths++[.t [.s x, .s k], .t [.s x, .s k]])]
 have n3':=aU s2 (C.l (ths++[.t [.s x, .s k], .t [.s x, .s k]]))
 have hlp3:s2.length≠p:=by have:=sd.lt;have:=(e1.trans e2).len;omega
 generalize hs3:s2++[C.l (ths++[.t [.s x, .s k], .t [.s x, .s k]])]=s3 at e3 n3' hadd
 generalize hl3:s2.length=l3 at n3' hadd hlp3
 have e4:=Ext.app s3 [C.l []]
 have n4:=aU s3 (C.l [])
 have av3:=(Av.refl sd).ext ((e1.trans e2).trans e3)
 have hlp4:s3.length≠p:=by have:=av3.sd.lt;omega
 have av4:=av3.ext e4
 have n34:=e4 _ _ n3'
 generalize hs4:s3++[C.l []]=s4 at e4 n4 av4 n34
 generalize hl4:s3.length=l4 at n4 hlp4
 obtain⟨z,s5,g1,g2,g3⟩:=aFC (p:=p) (T:=l3) 4 m l4 s4 (by omega) (by omega) (hB.kp av4.kp) (hW.kp av4.kp) ⟨hlp3,_,n34,by simp;omega,fun y hy=>by
  rcases List.mem_append.mp hy with hy|hy
  ·exact hT3 y hy
  ·simp at hy;subst hy;exact⟨x,k,rfl⟩⟩ ⟨hlp4,[],n4,by simp,by simp⟩ av4.sd
 obtain⟨r0,rfl,hr0,hz0,hc0⟩:=g2
 have av5:=av4.trans g3
 have hssz:ssz m≤1711:=by
  rcases m with _|_|_|_|m
  ·decide
  ·decide
  ·decide
  ·decide
  ·omega
 obtain⟨s6,h6,e6⟩:=aBW (x:=x) (t:=t) (m:=4) (by omega) m r0 s5 (by omega) hr0 (by omega) 14 (by omega)
 have av6:=av5.ext e6
 have hG:=aCh (x:=x) hm hr0 (by omega) hc0 ht hts
 generalize fin (fre x) t r0=r at h6 hG
 obtain⟨v9,l9,s7,h7,h7',e7⟩:=aFS (s:=s6) (E:=[some (.r p),some bk,some (.r T),some (.s x),some (.s k),some (enD t),some (enD u),some (.i (m:Nat)),some (enD r),x9,x10]) hG (fun _=>rfl)
 have av7:=av6.ext e7
 obtain⟨w1,s8,h8,e8,hw1,hw1'⟩:=vV (st:=s7) hG.sm hG.le ht (by omega) (by omega)
 obtain⟨s9,h9,e9⟩:=uJ 8 u s8 hu (by omega) 14 (by omega)
 obtain⟨w2,s10,h10,e10,hw2,hw2'⟩:=vV (st:=s9) hG.sm hG.le hu (by omega) (by omega)
 obtain⟨s11,h11,e11⟩:=uJ 4 t s10 ht (by omega) 14 (by omega)
 have hm1:CMul w1 (5+((sz u:Nat):Int)):=.inl ⟨by omega,by omega⟩
 have hm2:CMul w2 (5+((sz t:Nat):Int)):=.inl ⟨by omega,by omega⟩
 have av11:=(((av7.ext e8).ext e9).ext e10).ext e11
 by_cases hv:v9≤400∧w1 * (5+((sz u:Nat):Int))+w2 * (5+((sz t:Nat):Int))≤600
 ·refine⟨.rt (enD r),[some (.r p),some bk,some (.r T),some (.s x),some (.s k),some (enD t),some (enD u),some (.i (m:Nat)),some (enD r),some (.i v9),some (.i (w1 * (5+((sz u:Nat):Int))+w2 * (5+((sz t:Nat):Int))))],s11,?_,av11, .inr ⟨r,rfl,hG⟩⟩
  ·simp only[List.map_cons,List.map_nil,List.cons_append,List.nil_append,List.replicate,Nat.sub_self,aW,cE,cX,cQ,dD,dI,aG,aI,bW,aM,List.set_cons_succ,List.set_cons_zero,cL,dG,cP,bC,cA,aV,bD,aZ,bK,eK,eI,fA,eU,fH,fB,fP,fO,fR,fT,dS,dU,dW,dX,dY,cY,cW,bE,bM,bT,cD,bN,bB,aT,aO,bA,aS,cR,cH,dE,dA,dF,dN,eD,eE,cZ,eB,dZ,eA,dO,cF,bV,bZ,cI,bU,bY,dH,dM,bX,dP,cB,dC,bI,cJ,bJ,fY,fZ,fU,gA,gB,gC,hs1,hl1,hmul,hadd,hs4,hl4,g1,h6,h7,h7',h8,h9,h10,h11,nO,aX hm1,aX hm2,decide_eq_true hv.1,decide_eq_true hv.2]
 ·refine⟨.nx,_,s11,?_,av11, .inl ⟨rfl,some (enD r),some (.i v9),some (.i (w1 * (5+((sz u:Nat):Int))+w2 * (5+((sz t:Nat):Int)))),rfl⟩⟩
  by_cases h1:v9≤400
  ·have h2:¬ w1 * (5+((sz u:Nat):Int))+w2 * (5+((sz t:Nat):Int))≤600:=fun z=>hv ⟨h1,z⟩
   simp only[List.map_cons,List.map_nil,List.cons_append,List.nil_append,List.replicate,Nat.sub_self,aW,cE,cX,cQ,dD,dI,aG,aI,bW,aM,List.set_cons_succ,List.set_cons_zero,cL,dG,cP,bC,cA,aV,bD,aZ,bK,eK,eI,fA,eU,fH,fB,fP,fO,fR,fT,dS,dU,dW,dX,dY,cY,cW,bE,bM,bT,cD,bN,bB,aT,aO,bA,aS,cR,cH,dE,dA,dF,dN,eD,eE,cZ,eB,dZ,eA,dO,cF,bV,bZ,cI,bU,bY,dH,dM,bX,dP,cB,dC,bI,cJ,bJ,fY,fZ,fU,gA,gB,gC,hs1,hl1,hmul,hadd,hs4,hl4,g1,h6,h7,h7',h8,h9,h10,h11,nO,aX hm1,aX hm2,decide_eq_true h1,decide_eq_false h2]
  ·simp only[List.map_cons,List.map_nil,List.cons_append,List.nil_append,List.replicate,Nat.sub_self,aW,cE,cX,cQ,dD,dI,aG,aI,bW,aM,List.set_cons_succ,List.set_cons_zero,cL,dG,cP,bC,cA,aV,bD,aZ,bK,eK,eI,fA,eU,fH,fB,fP,fO,fR,fT,dS,dU,dW,dX,dY,cY,cW,bE,bM,bT,cD,bN,bB,aT,aO,bA,aS,cR,cH,dE,dA,dF,dN,eD,eE,cZ,eB,dZ,eA,dO,cF,bV,bZ,cI,bU,bY,dH,dM,bX,dP,cB,dC,bI,cJ,bJ,fY,fZ,fU,gA,gB,gC,hs1,hl1,hmul,hadd,hs4,hl4,g1,h6,h7,h7',h8,h9,h10,h11,nO,aX hm1,aX hm2,decide_eq_false h1]
theorem zB{T:Nat}{x k:Str}{t u:RT}{ths:List D}(hTp:T≠p)(hT2:ths.length≤50)(hT3:∀ x∈ths,∃ n k,x=D.t [.s n, .s k])(ht:Tm 4 t)(hts:sz t≤53)(hu:Tm 8 u)(hus:sz u≤2809):∀ (xs:List Nat) (s:Sto) (x7 x8 x9 x10:Option D),(∀ m∈xs,m≤3)→Bk p a b c bk s→Wd p a b c bk s→s[T]?=some (.l ths)→Sd p s→
  ∃ fl e' s',forD (fun _=>True) (gN 7) drB (xs.map fun m:Nat=>D.i (m:Nat)) [some (.r p),some bk,some (.r T),some (.s x),some (.s k),some (enD t),some (enD u),x7,x8,x9,x10] s=some ((fl,e'),s')∧Av p s s'∧
   ((fl=.nx∧∃ y7 y8 y9 y10,e'=[some (.r p),some bk,some (.r T),some (.s x),some (.s k),some (enD t),some (enD u),y7,y8,y9,y10])∨∃ r,fl=.rt (enD r)∧Good r)
 |[],s,x7,x8,x9,x10,_,_,_,_,sd=>⟨.nx,_,s,jT, .refl sd, .inl ⟨rfl,x7,x8,x9,x10,rfl⟩⟩
 |m::xs,s,x7,x8,x9,x10,hm,hB,hW,hT,sd=>by
  obtain⟨fl,e',s1,g1,av,hh⟩:=aDI (T:=T) (x:=x) (k:=k) (x8:=x8) (x9:=x9) (x10:=x10) (hm m (by simp)) hB hW ⟨hTp,ths,hT,hT2,hT3⟩ sd ht hts hu hus
  have hg:gN 7 (D.i (m:Nat)) [some (.r p),some bk,some (.r T),some (.s x),some (.s k),some (enD t),some (enD u),x7,x8,x9,x10] s=some ([some (.r p),some bk,some (.r T),some (.s x),some (.s k),some (enD t),some (enD u),some (.i (m:Nat)),x8,x9,x10],s):=by simp only[bW,List.set_cons_succ,List.set_cons_zero]
  rcases hh with⟨rfl,y8,y9,y10,rfl⟩|⟨r,rfl,hr⟩
  ·obtain⟨fl,e',s2,g2,av2,hh⟩:=zB (x:=x) (k:=k) hTp hT2 hT3 ht hts hu hus xs s1 (some (.i (m:Nat))) y8 y9 y10 (fun y hy=>hm y (List.mem_cons_of_mem _ hy)) (hB.kp av.kp) (hW.kp av.kp) (av.kp _ _ hTp hT) av.sd
   exact⟨fl,e',s2,by rw[List.map_cons,jK hg g1,g2],av.trans av2,hh⟩
  ·exact⟨.rt (enD r),e',s1,by rw[List.map_cons,aCg hg g1],av, .inr ⟨r,rfl,hr⟩⟩
theorem aDJ{T:Nat}{x k:Str}{t u:RT}{ths:List D}(hTp:T≠p)(hT:s[T]?=some (.l ths))(hT2:ths.length≤50)(hT3:∀ x∈ths,∃ n k,x=D.t [.s n, .s k])(ht:Tm 4 t)(hts:sz t≤53)(hu:Tm 8 u)(hus:sz u≤2809)(hB:Bk p a b c bk s)(hW:Wd p a b c bk s)(sd:Sd p s):
  ∃ r s',iJ [.r p,bk, .r T, .s x, .s k,enD t,enD u] s=some (enD r,s')∧Good r∧Av p s s':=by
 obtain⟨fl,e',s1,g1,av,hh⟩:=zB (x:=x) (k:=k) hTp hT2 hT3 ht hts hu hus [3,2,1] s none none none none (by simp) hB hW hT sd
 have g1':forD (fun _=>True) (gN 7) drB [.i 3, .i 2, .i 1] [some (.r p),some bk,some (.r T),some (.s x),some (.s k),some (enD t),some (enD u),none,none,none,none] s=some ((fl,e'),s1):=g1
 rcases hh with⟨rfl,y7,y8,y9,y10,rfl⟩|⟨r,rfl,hr⟩
 ·refine⟨.mk "same" .no [t,t],s1,?_,⟨.same _ (ht.mono (by omega)) (ht.mono (by omega)),by rw[sz2];omega,by rw[iQ];intro y hy;simp at hy;subst hy;omega⟩,av⟩
  rw[iJ,eZ (p:=7) rfl,kA,eM jO]
  simp only[List.map_cons,List.map_nil,List.cons_append,List.nil_append,List.replicate,Nat.sub_self,aW,cE,cX,cQ,dD,dI,aG,aI,bW,aM,List.set_cons_succ,List.set_cons_zero,cL,dG,cP,bC,cA,aV,bD,aZ,bK,eK,eI,fA,eU,fH,fB,fP,fO,fR,fT,dS,dU,dW,dX,dY,cY,cW,bE,bM,bT,cD,bN,bB,aT,aO,bA,aS,cR,cH,dE,dA,dF,dN,eD,eE,cZ,eB,dZ,eA,dO,cF,bV,bZ,cI,bU,bY,dH,dM,bX,dP,cB,dC,bI,cJ,bJ,fY,fZ,fU,gA,gB,gC,lB,g1']
 ·refine⟨r,s1,?_,hr,av⟩
  rw[iJ,eZ (p:=7) rfl,kA]
  simp only[List.map_cons,List.map_nil,List.cons_append,List.nil_append,List.replicate,Nat.sub_self,aW,cE,cX,cQ,dD,dI,aG,aI,bW,aM,List.set_cons_succ,List.set_cons_zero,cL,dG,cP,bC,cA,aV,bD,aZ,bK,eK,eI,fA,eU,fH,fB,fP,fO,fR,fT,dS,dU,dW,dX,dY,cY,cW,bE,bM,bT,cD,bN,bB,aT,aO,bA,aS,cR,cH,dE,dA,dF,dN,eD,eE,cZ,eB,dZ,eA,dO,cF,bV,bZ,cI,bU,bY,dH,dM,bX,dP,cB,dC,bI,cJ,bJ,fY,fZ,fU,gA,gB,gC,lB,g1']
theorem aCi{ns:List Int}(hl:ns.length≤63):∃ st',sQ [.f (ns.map D.i)] []=some (.b true,st'):=by
 obtain⟨s1,h1,sd1,e1⟩:=aDB (st:=[]) (ns:=ns) (by omega)
 have sd1':Sd 0 s1:=sd1
 have h1':gZ [.f (ns.map D.i)] []=some (.r 0,s1):=h1
 obtain⟨N,nm,s2,h2,av2,hN0,hN,hnm⟩:=aDF sd1'
 obtain⟨a,b,c,bk,s3,h3,hB3,hW3,av3⟩:=aFQ hN hnm (by omega) av2.sd
 have hN3:=av3.kp _ _ hN0 hN
 obtain⟨k,s4,h4,hk,av4⟩:=pickK (st:=s3) (E:=[some (.f (ns.map D.i)),some (.r 0),some (.r N),some bk,none,none,none,none,none]) (i:=3) (j:=1) hB3 av3.sd (fun _=>rfl) (fun _=>rfl)
 have hN4:=av4.kp _ _ hN0 hN3
 obtain⟨v0,hv0⟩:=hnm.at (i:=0) (by omega)
 obtain⟨v7,hv7⟩:=hnm.at (i:=7) (by omega)
 obtain⟨v11,hv11⟩:=hnm.at (i:=11) (by omega)
 obtain⟨v20,hv20⟩:=hnm.at (i:=20) (by omega)
 have hv0':atI (nm.map D.s) 0=some (.s v0):=hv0
 have hv7':atI (nm.map D.s) 7=some (.s v7):=hv7
 have hv11':atI (nm.map D.s) 11=some (.s v11):=hv11
 have hv20':atI (nm.map D.s) 20=some (.s v20):=hv20
 have hB4:=hB3.kp av4.kp
 obtain⟨k5,s5,h5,hk5,av5⟩:=pickK (st:=s4) (E:=[some (.f (ns.map D.i)),some (.r 0),some (.r N),some bk,some (.s k),none,none,none,none]) (i:=3) (j:=1) hB4 av4.sd (fun _=>rfl) (fun _=>rfl)
 have av05:=(av3.trans av4).trans av5
 have e6:=Ext.app s5 [C.l [.t [.s v0, .s k], .t [.s v7, .s k5]]]
 have n6:=aU s5 (C.l [.t [.s v0, .s k], .t [.s v7, .s k5]])
 have hT0:s5.length≠0:=by have:=av05.sd.lt;omega
 have av6:=(av4.trans av5).ext e6
 generalize hs6:s5++[C.l [.t [.s v0, .s k], .t [.s v7, .s k5]]]=s6 at e6 n6 av6
 generalize hlT:s5.length=T at n6 hT0
 have hths:∀ x∈[D.t [.s v0, .s k], .t [.s v7, .s k5]],∃ n k,x=D.t [.s n, .s k]:=fun x hx=>by
  simp at hx
  rcases hx with rfl|rfl<;>exact⟨_,_,rfl⟩
 have hB6:=hB3.kp av6.kp
 have e7:=Ext.app s6 [C.l []]
 have n7:=aU s6 (C.l [])
 have hI7:s6.length≠0:=by have:=av6.sd.lt;omega
 have av7:=av6.ext e7
 have n67:=e7 _ _ n6
 generalize hs7:s6++[C.l []]=s7 at e7 n7 av7 n67
 generalize hlI:s6.length=I at n7 hI7
 obtain⟨d8,s8,h8,hd8,av8⟩:=fN (n:=2) av7.sd (by omega) (by omega)
 have h8':aF [.r 0, .i 2] s7=some (.i (d8:Nat),s8):=h8
 have av08:=av7.trans av8
 have n78:=av8.kp _ _ hT0 n67
 obtain⟨t',s9,h9,ht',av9⟩:=rF (p:=0) 4 (1+d8) k s8 (by omega) (by omega) hk (tE (j:=10) (hB3.kp av08.kp) ⟨hT0,_,n78,by simp,hths⟩ ⟨hI7,[],av8.kp _ _ hI7 n7,by simp,by simp⟩ (by omega)) av08.sd
 have hcast:(1:Int)+((d8:Nat):Int)=((1+d8:Nat):Int):=by omega
 obtain⟨t,rfl,ht,hts⟩:=ht'.mono (n':=4) (s':=53) (by omega) (aBY (by omega))
 have av09:=av08.trans av9
 have n9:=av9.kp _ _ hT0 n78
 have e10:=Ext.app s9 [C.l []]
 have n10:=aU s9 (C.l [])
 have hI10:s9.length≠0:=by have:=av09.sd.lt;omega
 have av10:=av09.ext e10
 have n910:=e10 _ _ n9
 generalize hs10:s9++[C.l []]=s10 at e10 n10 av10 n910
 generalize hlJ:s9.length=J at n10 hI10
 obtain⟨u',s11,h11,hu',av11⟩:=rF (p:=0) 4 2 k s10 (by omega) (by omega) hk (tE (j:=10) (hB3.kp av10.kp) ⟨hT0,_,n910,by simp,hths⟩ ⟨hI10,[],n10,by simp,by simp⟩ (by omega)) av10.sd
 have h11':cG 5 [.r 0,bk, .s k, .r T, .r J, .i 2, .no] s10=some (u',s11):=h11
 obtain⟨u0,rfl,hu0,hus0⟩:=hu'.mono (n':=4) (s':=53) (by omega) (aBY (by omega))
 have av011:=av10.trans av11
 have n11:=av11.kp _ _ hT0 n910
 obtain⟨d12,s12,h12,hd12,av12⟩:=fN (n:=3) av011.sd (by omega) (by omega)
 have h12':aF [.r 0, .i 3] s11=some (.i (d12:Nat),s12):=h12
 have av012:=av011.trans av12
 have n12:=av12.kp _ _ hT0 n11
 have hN12:=av012.kp _ _ hN0 hN3
 have tail:∀ (u:RT) (s:Sto),Tm 8 u→sz u≤2809→Av 0 s3 s→s[T]?=some (.l [.t [.s v0, .s k], .t [.s v7, .s k5]])→
   ∃ st',f3 (seqS (sA (eCl (iJ) (aC (eV 1) (aC (eV 3) (aC (eV 5) (aC (eIx (eV 2) (eC (.i (11)))) (aC (eV 4) (aC (eV 6) (aC (eV 7) (aN))))))))) (gN 8))
   (sR (eAn (eCl (fK) (aC (eV 8) (aC (eV 6) (aC (eV 7) (aN))))) (eAn (eCl (fK) (aC (eV 8) (aC (eV 7) (aC (eV 6) (aN))))) (eCl (fK) (aC (eV 8) (aC (eT (aC (eC (.s "free")) (aC (eIx (eV 2) (eC (.i (20)))) (aN)))) (aC (eV 7) (aN)))))))) [some (.f (ns.map D.i)),some (.r 0),some (.r N),some bk,some (.s k),some (.r T),some (enD t),some (enD u),none] s)=some (.b true,st'):=by
  intro u s hu hus av hTs
  obtain⟨r,s',g1,hG,av'⟩:=aDJ (x:=v11) (k:=k) hT0 hTs (by simp) hths ht hts hu hus (hB3.kp av.kp) (hW3.kp av.kp) av.sd
  have hNs:=av.kp _ _ hN0 hN3
  have hNs':=av'.kp _ _ hN0 hNs
  obtain⟨q1,r1,x1⟩:=uH (st:=s') hG.sm ht hu (by omega) (by omega) (by omega) hus hG.le hG.tm
  obtain⟨q2,r2,x2⟩:=uH (st:=q1) hG.sm hu ht (by omega) (by omega) (by omega) (by omega) hG.le hG.tm
  obtain⟨q3,r3,x3⟩:=uH (st:=q2) hG.sm (Tm.free 0 v20) hu (by omega) (by omega) (by omega) hus hG.le hG.tm
  rw[gR] at r3
  refine⟨q3,?_⟩
  simp only[List.map_cons,List.map_nil,List.cons_append,List.nil_append,List.replicate,Nat.sub_self,aW,cE,cX,cQ,dD,dI,aG,aI,bW,aM,List.set_cons_succ,List.set_cons_zero,cL,dG,cP,bC,cA,aV,bD,aZ,bK,eK,eI,fA,eU,fH,fB,fP,fO,fR,fT,dS,dU,dW,dX,dY,cY,cW,bE,bM,bT,cD,bN,bB,aT,aO,bA,aS,cR,cH,dE,dA,dF,dN,eD,eE,cZ,eB,dZ,eA,dO,cF,bV,bZ,cI,bU,bY,dH,dM,bX,dP,cB,dC,bI,cJ,bJ,fY,fZ,fU,gA,gB,gC,aFl,fF hNs,hv11',g1,r1,r2,fF (x2 _ _ (x1 _ _ hNs')),hv20',r3]
 simp only[bE,eU,eI,aG,aI,bK,cR,cH,aV,bD,aZ,aM] at h4 h5
 by_cases hd:d12=0
 ·subst hd
  obtain⟨s13,h13,e13⟩:=oB (x:=v0) (t:=t) 4 u0 s12 (by omega) hu0 (by omega) 14 (by omega)
  have hut:=(yR (t:=fre v0) ht hu0).2
  have hus:sz (fin (fre v0) t u0)≤2809:=by
   have h1:=uI (fre v0) t u0
   have h3:sz u0 * sz t≤53 * 53:=Nat.mul_le_mul hus0 hts
   omega
  obtain⟨st',q⟩:=tail (fin (fre v0) t u0) s13 hut hus (av012.ext e13) (e13 _ _ n12)
  refine⟨st',?_⟩
  rw[← q,sQ,eZ (p:=1) rfl,yG]
  simp only[List.map_cons,List.map_nil,List.cons_append,List.nil_append,List.replicate,Nat.sub_self,aW,cE,cX,cQ,dD,dI,aG,aI,bW,aM,List.set_cons_succ,List.set_cons_zero,cL,dG,cP,bC,cA,aV,bD,aZ,bK,eK,eI,fA,eU,fH,fB,fP,fO,fR,fT,dS,dU,dW,dX,dY,cY,cW,bE,bM,bT,cD,bN,bB,aT,aO,bA,aS,cR,cH,dE,dA,dF,dN,eD,eE,cZ,eB,dZ,eA,dO,cF,bV,bZ,cI,bU,bY,dH,dM,bX,dP,cB,dC,bI,cJ,bJ,fY,fZ,fU,gA,gB,gC,h1',h2,h3,h4,fF hN4,hv0',hv7',h5,hs6,hlT,hs7,hlI,h8',hcast,h9,hs10,hlJ,h11',h12',show(((0:Nat):Int)==0)=true from rfl,fF hN12,h13]
 ·have c0:(((d12:Nat):Int)==0)=false:=by simp;omega
  obtain⟨st',q⟩:=tail u0 s12 (hu0.mono (by omega)) (by omega) av012 n12
  refine⟨st',?_⟩
  rw[← q,sQ,eZ (p:=1) rfl,yG]
  simp only[List.map_cons,List.map_nil,List.cons_append,List.nil_append,List.replicate,Nat.sub_self,aW,cE,cX,cQ,dD,dI,aG,aI,bW,aM,List.set_cons_succ,List.set_cons_zero,cL,dG,cP,bC,cA,aV,bD,aZ,bK,eK,eI,fA,eU,fH,fB,fP,fO,fR,fT,dS,dU,dW,dX,dY,cY,cW,bE,bM,bT,cD,bN,bB,aT,aO,bA,aS,cR,cH,dE,dA,dF,dN,eD,eE,cZ,eB,dZ,eA,dO,cF,bV,bZ,cI,bU,bY,dH,dM,bX,dP,cB,dC,bI,cJ,bJ,fY,fZ,fU,gA,gB,gC,h1',h2,h3,h4,fF hN4,hv0',hv7',h5,hs6,hlT,hs7,hlI,h8',hcast,h9,hs10,hlJ,h11',h12',c0]
end
end K61
end
section
namespace K61
open PySem L2 PyProof.Rows
section
variable{P:Program}{w:World}{K:PySem.W.Frag}{mg:Str→Option Value}{base:Heap}
theorem pQ:FnScope ["thing","word"] ["thing"] (defScope (top 4)):=⟨rfl,rfl,rfl,by decide +kernel,rfl,by decide +kernel,by decide +kernel⟩
theorem iU(R:Reg K mg)(T:Txt K mg):FnOk P w K mg base CX0 1 R.f4 R.g4 ["thing"] (LF K dB):=by
  have sc:=pQ
  obtain⟨a_ARGS_WORDS,e_ARGS_WORDS,h_ARGS_WORDS⟩:=T.c_ARGS_WORDS
  obtain⟨a_BIND_WORDS,e_BIND_WORDS,h_BIND_WORDS⟩:=T.c_BIND_WORDS
  obtain⟨a_PAIR_WORDS,e_PAIR_WORDS,h_PAIR_WORDS⟩:=T.c_PAIR_WORDS
  exact jE (k:=0) (N:=["thing","word"]) (ts:=iB) R.d4.F pQ fun cdv A outer s H E hr=>aE (aY (i:=1) sc.nd rfl (by first|exact Or.inl rfl|exact Or.inr rfl) (aK (hu1 hr) (qv 0) (aD) (fun _ _=>rfl)))
   (aE (eP (bH (mB (hu1 hr)) (qv 1) (kM (v:=.ref a_ARGS_WORDS) c_ARGS_WORDS rfl e_ARGS_WORDS rfl (fun _ _=>vN h_ARGS_WORDS)) (by with_unfolding_all rfl)) (aL (bG (aK (hu1 hr) (qv 0) (aD) (fun _ _=>rfl)))) (bS))
   (aE (eP (bH (mB (hu1 hr)) (qv 1) (kM (v:=.ref a_PAIR_WORDS) c_PAIR_WORDS rfl e_PAIR_WORDS rfl (fun _ _=>vN h_PAIR_WORDS)) (by with_unfolding_all rfl)) (aL (bG (aQ (aA (aK (hu1 hr) (qv 0) (aD) (fun _ _=>rfl)) (aA (aK (hu1 hr) (qv 0) (aD) (fun _ _=>rfl)) (aB)))))) (bS))
   (aE (eP (bH (mB (hu1 hr)) (qv 1) (kM (v:=.ref a_BIND_WORDS) c_BIND_WORDS rfl e_BIND_WORDS rfl (fun _ _=>vN h_BIND_WORDS)) (by with_unfolding_all rfl)) (aL (bG (aQ (aA (aK (hu1 hr) (qv 0) (aD) (fun _ _=>rfl)) (aB))))) (bS))
   (aL (bG (aQ (aB)))))))
theorem rH:FnScope ["thing","word","named"] ["thing"] (defScope (top 6)):=⟨rfl,rfl,rfl,by decide +kernel,rfl,by decide +kernel,by decide +kernel⟩
theorem rJ(R:Reg K mg)(T:Txt K mg):FnOk P w K mg base CX0 2 R.f6 R.g6 ["thing"] (LF K gD):=by
  have sc:=rH
  obtain⟨a_PAIR_WORDS,e_PAIR_WORDS,h_PAIR_WORDS⟩:=T.c_PAIR_WORDS
  exact jE (k:=1) (N:=["thing","word","named"]) (ts:=iR) R.d6.F rH fun cdv A outer s H E hr=>aE (aY (i:=1) sc.nd rfl (by first|exact Or.inl rfl|exact Or.inr rfl) (aK (hu1 hr) (qv 0) (aD) (fun _ _=>rfl)))
   (aE (aY (i:=2) sc.nd rfl (by first|exact Or.inl rfl|exact Or.inr rfl) (vE (qN (qM (bH (eY (hu60' hr)) (qv 1) (bP) (nomark _)) (nM (bH (mB (hu1 hr)) (qv 1) (kM (v:=.ref a_PAIR_WORDS) c_PAIR_WORDS rfl e_PAIR_WORDS rfl (fun _ _=>vN h_PAIR_WORDS)) (by with_unfolding_all rfl))))) (lW) (aK (hu1 hr) (qv 0) (aD) (fun _ _=>rfl))))
   (aL (bG (aQ (aA (qv 1) (aA (qv 2) (aA (eG jF (by rfl) T.b_len (by decide +kernel) (aA (aH (iU R T) (hr.mono (by omega)) rfl R.d4.m R.d4.k R.d4.b pass0 (aA (qv 0) (aB))) (aB))) (aB))))))))
theorem vX:FnScope ["one","other","pending","part","twin"] ["one","other"] (defScope (top 7)):=⟨rfl,rfl,rfl,by decide +kernel,rfl,by decide +kernel,by decide +kernel⟩
theorem aCj(R:Reg K mg)(T:Txt K mg):FnOk P w K mg base CX0 3 R.f7 R.g7 ["one","other"] (LF K mO):=by
  have sc:=vX
  exact jE (k:=2) (N:=["one","other","pending","part","twin"]) (ts:=qB) R.d7.F vX fun cdv A outer s H E hr=>aE (aY (i:=2) sc.nd rfl (by first|exact Or.inl rfl|exact Or.inr rfl) (eQ (aA (aQ (aA (qv 0) (aA (qv 1) (aB)))) (aB))))
   (aE (vJ PassesOwn.never (tO (qv 2)) (aE (jV (tS PySem.F.plainAttrs_list PySem.F.slot_list_pop PySem.F.type_list_pop oR (qv 2)) (kU rfl (dQ (cV (i:=3) sc.nd rfl (by first|exact Or.inl rfl|exact Or.inr rfl)) (dQ (cV (i:=4) sc.nd rfl (by first|exact Or.inl rfl|exact Or.inr rfl)) (jN)))))
   (aE (eP (bH (yB (hu60' hr)) (aH (rJ R T) (hr.mono (by omega)) rfl R.d6.m R.d6.k R.d6.b pass0 (aA (qv 3) (aB))) (aH (rJ R T) (hr.mono (by omega)) rfl R.d6.m R.d6.k R.d6.b pass0 (aA (qv 4) (aB))) (nomark _)) (aL (bG (xZ))) (bS))
   (aL (gK (iV PySem.F.plainAttrs_list PySem.F.slot_list_extend PySem.F.type_list_extend oU (qv 2) (aA (aCT (aCN rfl rfl T.b_list rfl T.b_zip (aA (aH (iU R T) (hr.mono (by omega)) rfl R.d4.m R.d4.k R.d4.b pass0 (aA (qv 3) (aB))) (aA (aH (iU R T) (hr.mono (by omega)) rfl R.d4.m R.d4.k R.d4.b pass0 (aA (qv 4) (aB))) (aB))))) (aB))))))))
   (aL (bG (xZ))))
theorem rK:FnScope ["A","t","found","pending","way","part","depth","inmost","parts"] ["A","t"] (defScope (top 10)):=⟨rfl,rfl,rfl,by decide +kernel,rfl,by decide +kernel,by decide +kernel⟩
theorem xN(R:Reg K mg)(T:Txt K mg):FnOk P w K mg base CX0 4 R.f10 R.g10 ["A","t"] (LF K mP):=by
  have sc:=rK
  obtain⟨a_BIND_WORDS,e_BIND_WORDS,h_BIND_WORDS⟩:=T.c_BIND_WORDS
  exact jE (k:=3) (N:=["A","t","found","pending","way","part","depth","inmost","parts"]) (ts:=oX) R.d10.F rK fun cdv A outer s H E hr=>aE (aY (i:=2) sc.nd rfl (by first|exact Or.inl rfl|exact Or.inr rfl) (eQ (aB)))
   (aE (aY (i:=3) sc.nd rfl (by first|exact Or.inl rfl|exact Or.inr rfl) (eQ (aA (aQ (aA (aQ (aB)) (aA (qv 0) (aA (aD) (aB))))) (aB))))
   (aE (vJ PassesOwn.never (tO (qv 3)) (aE (jV (tS PySem.F.plainAttrs_list PySem.F.slot_list_pop PySem.F.type_list_pop oR (qv 3)) (kU rfl (dQ (cV (i:=4) sc.nd rfl (by first|exact Or.inl rfl|exact Or.inr rfl)) (dQ (cV (i:=5) sc.nd rfl (by first|exact Or.inl rfl|exact Or.inr rfl)) (dQ (cV (i:=6) sc.nd rfl (by first|exact Or.inl rfl|exact Or.inr rfl)) (jN))))))
   (aL (eP (tO (aH (aCj R T) (hr.mono (by omega)) rfl R.d7.m R.d7.k R.d7.b pass0 (aA (qv 5) (aA (qv 1) (aB))))) (aL (gK (iV PySem.F.plainAttrs_list PySem.F.slot_list_append PySem.F.type_list_append gO (qv 2) (aA (aQ (aA (qv 4) (aA (qv 6) (aB)))) (aB))))) (aE (aY (i:=7) sc.nd rfl (by first|exact Or.inl rfl|exact Or.inr rfl) (vE (bH (mB (hu1 hr)) (aK (hu1 hr) (qv 5) (aD) (fun _ _=>rfl)) (kM (v:=.ref a_BIND_WORDS) c_BIND_WORDS rfl e_BIND_WORDS rfl (fun _ _=>vN h_BIND_WORDS)) (by with_unfolding_all rfl)) (bR cO (qv 6) (aD)) (qv 6)))
   (aE (aY (i:=8) sc.nd rfl (by first|exact Or.inl rfl|exact Or.inr rfl) (aH (iU R T) (hr.mono (by omega)) rfl R.d4.m R.d4.k R.d4.b pass0 (aA (qv 5) (aB))))
   (aL (gK (iV PySem.F.plainAttrs_list PySem.F.slot_list_extend PySem.F.type_list_extend oU (qv 3) (aA (gG (xs:=["k"]) (x:="k") hX rfl (aCS rfl T.b_reversed rfl T.b_range (aA (eG jF (by rfl) T.b_len (by decide +kernel) (aA (qv 8) (aB))) (aB)) (aCO rfl T.b_reversed rfl T.b_range (aA (eG jF (by rfl) T.b_len (by decide +kernel) (aA (qv 8) (aB))) (aB)))) (fX (cn:=["inmost","parts","way"]) (caps:=[7,8,4]) [(".0", .local),("k", .local),("inmost", .cell),("parts", .cell),("way", .cell)] rfl (by decide +kernel) rfl (by decide +kernel) rfl (by decide +kernel) rfl rfl (List.forall_mem_cons.mpr ⟨rfl,List.forall_mem_cons.mpr ⟨rfl,List.forall_mem_cons.mpr ⟨rfl,fun _ h=>nomatch h⟩⟩⟩) (by intro yk h;repeat (first|(rcases List.mem_cons.mp h with h|h;(subst h;intro hk;first|exact⟨_,rfl⟩|(rcases hk with hk|hk<;>cases hk)))|exact absurd h (by simp))) (List.forall_mem_cons.mpr ⟨⟨rfl,(by first|exact Or.inl rfl|exact Or.inr (Or.inl rfl)|exact Or.inr (Or.inr rfl)),(by first|exact Or.inl rfl|exact Or.inr rfl),(by first|exact Or.inl rfl|exact Or.inr rfl)⟩,List.forall_mem_cons.mpr ⟨⟨rfl,(by first|exact Or.inl rfl|exact Or.inr (Or.inl rfl)|exact Or.inr (Or.inr rfl)),(by first|exact Or.inl rfl|exact Or.inr rfl),(by first|exact Or.inl rfl|exact Or.inr rfl)⟩,List.forall_mem_cons.mpr ⟨⟨rfl,(by first|exact Or.inl rfl|exact Or.inr (Or.inl rfl)|exact Or.inr (Or.inr rfl)),(by first|exact Or.inl rfl|exact Or.inr rfl),(by first|exact Or.inl rfl|exact Or.inr rfl)⟩,fun _ h=>nomatch h⟩⟩⟩)) (fun C ex s' H'=>pgc (i:=0) (by decide +kernel) rfl rfl) (fun C ex s' H'=>gP) (fun C ex s' H'=>aQ (aA (bR cO (qv 3) (aQ (aA (qv 0) (aB)))) (aA (aK (hu1 hr) (qv 2) (qv 0) (fun _ _=>rfl)) (aA (qv 1) (aB)))))) (aB)))))))))))
   (aL (bG (qv 2)))))
theorem mY:FnScope ["thing","parts","word"] ["thing","parts"] (defScope (top 5)):=⟨rfl,rfl,rfl,by decide +kernel,rfl,by decide +kernel,by decide +kernel⟩
theorem rN(R:Reg K mg)(T:Txt K mg):FnOk P w K mg base CX0 1 R.f5 R.g5 ["thing","parts"] (LF K gX):=by
  have sc:=mY
  obtain⟨a_ARGS_WORDS,e_ARGS_WORDS,h_ARGS_WORDS⟩:=T.c_ARGS_WORDS
  obtain⟨a_BIND_WORDS,e_BIND_WORDS,h_BIND_WORDS⟩:=T.c_BIND_WORDS
  obtain⟨a_PAIR_WORDS,e_PAIR_WORDS,h_PAIR_WORDS⟩:=T.c_PAIR_WORDS
  exact jE (k:=0) (N:=["thing","parts","word"]) (ts:=iW) R.d5.F mY fun cdv A outer s H E hr=>aE (aY (i:=2) sc.nd rfl (by first|exact Or.inl rfl|exact Or.inr rfl) (aK (hu1 hr) (qv 0) (aD) (fun _ _=>rfl)))
   (aE (eP (bH (mB (hu1 hr)) (qv 2) (kM (v:=.ref a_ARGS_WORDS) c_ARGS_WORDS rfl e_ARGS_WORDS rfl (fun _ _=>vN h_ARGS_WORDS)) (by with_unfolding_all rfl)) (aL (bG (aQ (aA (qv 2) (aA (aK (hu1 hr) (qv 0) (aD) (fun _ _=>rfl)) (aA (eF gM (by rfl) T.b_tuple (by decide +kernel) (aA (qv 1) (aB))) (aB))))))) (bS))
   (aE (eP (bH (mB (hu1 hr)) (qv 2) (kM (v:=.ref a_PAIR_WORDS) c_PAIR_WORDS rfl e_PAIR_WORDS rfl (fun _ _=>vN h_PAIR_WORDS)) (by with_unfolding_all rfl)) (aL (bG (aQ (aA (qv 2) (aA (aK (hu1 hr) (qv 1) (aD) (fun _ _=>rfl)) (aA (aK (hu1 hr) (qv 1) (aD) (fun _ _=>rfl)) (aB))))))) (bS))
   (aE (eP (bH (mB (hu1 hr)) (qv 2) (kM (v:=.ref a_BIND_WORDS) c_BIND_WORDS rfl e_BIND_WORDS rfl (fun _ _=>vN h_BIND_WORDS)) (by with_unfolding_all rfl)) (aL (bG (aQ (aA (qv 2) (aA (aK (hu1 hr) (qv 0) (aD) (fun _ _=>rfl)) (aA (aK (hu1 hr) (qv 1) (aD) (fun _ _=>rfl)) (aB))))))) (bS))
   (aL (bG (qv 0))))))
theorem mZ:FnScope ["t","place","u","around","part","k","made","parts"] ["t","place","u"] (defScope (top 8)):=⟨rfl,rfl,rfl,by decide +kernel,rfl,by decide +kernel,by decide +kernel⟩
theorem rO(R:Reg K mg)(T:Txt K mg):FnOk P w K mg base CX0 2 R.f8 R.g8 ["t","place","u"] (LF K iX):=by
  have sc:=mZ
  exact jE (k:=1) (N:=["t","place","u","around","part","k","made","parts"]) (ts:=lO) R.d8.F mZ fun cdv A outer s H E hr=>aE (aY (i:=3) sc.nd rfl (by first|exact Or.inl rfl|exact Or.inr rfl) (eQ (aB)))
   (aE (aY (i:=4) sc.nd rfl (by first|exact Or.inl rfl|exact Or.inr rfl) (qv 0))
   (aE (jI PassesOwn.never rfl (fM (qv 1)) (cV (i:=5) sc.nd rfl (by first|exact Or.inl rfl|exact Or.inr rfl)) (aE (gK (iV PySem.F.plainAttrs_list PySem.F.slot_list_append PySem.F.type_list_append gO (qv 3) (aA (qv 4) (aB))))
   (aL (aY (i:=4) sc.nd rfl (by first|exact Or.inl rfl|exact Or.inr rfl) (aK (hu1 hr) (aH (iU R T) (hr.mono (by omega)) rfl R.d4.m R.d4.k R.d4.b pass0 (aA (qv 4) (aB))) (qv 5) (fun _ _=>rfl))))))
   (aE (aY (i:=6) sc.nd rfl (by first|exact Or.inl rfl|exact Or.inr rfl) (qv 2))
   (aE (jI PassesOwn.never rfl (fM (aGk (qv 1) (vF qO (aD)))) (cV (i:=5) sc.nd rfl (by first|exact Or.inl rfl|exact Or.inr rfl)) (aE (aY (i:=4) sc.nd rfl (by first|exact Or.inl rfl|exact Or.inr rfl) (tS PySem.F.plainAttrs_list PySem.F.slot_list_pop PySem.F.type_list_pop oR (qv 3)))
   (aE (aY (i:=7) sc.nd rfl (by first|exact Or.inl rfl|exact Or.inr rfl) (eF nY (by rfl) T.b_list (by decide +kernel) (aA (aH (iU R T) (hr.mono (by omega)) rfl R.d4.m R.d4.k R.d4.b pass0 (aA (qv 4) (aB))) (aB))))
   (aE (jV (qv 6) (oV (hu1 hr) (qv 7) (qv 5)))
   (aL (aY (i:=6) sc.nd rfl (by first|exact Or.inl rfl|exact Or.inr rfl) (aH (rN R T) (hr.mono (by omega)) rfl R.d5.m R.d5.k R.d5.b pass0 (aA (qv 4) (aA (qv 7) (aB))))))))))
   (aL (bG (qv 6)))))))
theorem zC:FnScope ["A","t","u","told","way","depth"] ["A","t","u"] (defScope (top 11)):=⟨rfl,rfl,rfl,by decide +kernel,rfl,by decide +kernel,by decide +kernel⟩
theorem zD(R:Reg K mg)(T:Txt K mg):FnOk P w K mg base CX0 5 R.f11 R.g11 ["A","t","u"] (LF K qU):=by
  have sc:=zC
  exact jE (k:=4) (N:=["A","t","u","told","way","depth"]) (ts:=wV) R.d11.F zC fun cdv A outer s H E hr=>aE (aY (i:=3) sc.nd rfl (by first|exact Or.inl rfl|exact Or.inr rfl) (eQ (aA (qv 0) (aB))))
   (aE (jI PassesOwn.never rfl (fM (aH (xN R T) (hr.mono (by omega)) rfl R.d10.m R.d10.k R.d10.b pass0 (aA (qv 0) (aA (qv 1) (aB))))) (kU rfl (dQ (cV (i:=4) sc.nd rfl (by first|exact Or.inl rfl|exact Or.inr rfl)) (dQ (cV (i:=5) sc.nd rfl (by first|exact Or.inl rfl|exact Or.inr rfl)) (jN)))) (aL (gK (iV PySem.F.plainAttrs_list PySem.F.slot_list_append PySem.F.type_list_append gO (qv 3) (aA (aH (rO R T) (hr.mono (by omega)) rfl R.d8.m R.d8.k R.d8.b pass0 (aA (aK (hu1 hr) (qv 3) (vF qO (aD)) (fun _ _=>rfl)) (aA (qv 4) (aA (qv 2) (aB))))) (aB))))))
   (aL (bG (qv 3))))
end
end K61
end
section
namespace K61
open PySem L2 PyProof.Rows
section
variable{P:Program}{w:World}{K:PySem.W.Frag}{mg:Str→Option Value}{base:Heap}
theorem oC:FnScope ["_law_t"] ["_law_t"] (defScope (top 23)):=⟨rfl,rfl,rfl,by decide +kernel,rfl,by decide +kernel,by decide +kernel⟩
theorem oD(R:Reg K mg)(T:Txt K mg):FnOk P w K mg base CX0 1 R.f23 R.g23 ["_law_t"] (LF K iC):=by
  have sc:=oC
  exact jE (k:=0) (N:=["_law_t"]) (ts:=jR) R.d23.F oC fun cdv A outer s H E hr=>aE (eP (qN (qM (bH (eY (hu60' hr)) (aK (hu1 hr) (qv 0) (aD) (fun _ _=>rfl)) (bP) (nomark _)) (nM (bH (eY (hu60' hr)) (aK (hu1 hr) (qv 0) (aD) (fun _ _=>rfl)) (bP) (nomark _))))) (aL (bG (aK (hu1 hr) (qv 0) (aD) (fun _ _=>rfl)))) (bS))
   (aL (bG (aQ (aB))))
theorem nA:FnScope ["_law_t","_law_one","_law_place","_law_found","_law_k","_law_part"] ["_law_t","_law_one","_law_place"] (defScope (top 26)):=⟨rfl,rfl,rfl,by decide +kernel,rfl,by decide +kernel,by decide +kernel⟩
theorem kX(R:Reg K mg)(T:Txt K mg):∀ n:Nat,FnOk P w K mg base CX0 (n+1) R.f26 R.g26 ["_law_t","_law_one","_law_place"] (LF K (cS n))
 |0=>lN
 |n+1=>by
  have G:=kX R T n
  have sc:=nA
  exact jE (k:=n+1) (N:=["_law_t","_law_one","_law_place","_law_found","_law_k","_law_part"]) (ts:=iI (cS n)) R.d26.F nA fun cdv A outer s H E hr=>aE (eP (bH (eY (hu60' hr)) (qv 0) (qv 1) (nomark _)) (aL (bG (eQ (aA (qv 2) (aB))))) (bS))
   (aE (aY (i:=3) sc.nd rfl (by first|exact Or.inl rfl|exact Or.inr rfl) (eQ (aB)))
   (aE (jI PassesOwn.never rfl (tU rfl T.b_enumerate (aA (aH (oD R T) (hr.mono (by omega)) rfl R.d23.m R.d23.k R.d23.b pass0 (aA (qv 0) (aB))) (aB))) (kU rfl (dQ (cV (i:=4) sc.nd rfl (by first|exact Or.inl rfl|exact Or.inr rfl)) (dQ (cV (i:=5) sc.nd rfl (by first|exact Or.inl rfl|exact Or.inr rfl)) (jN)))) (aL (gK (iV PySem.F.plainAttrs_list PySem.F.slot_list_extend PySem.F.type_list_extend oU (qv 3) (aA (aH G hr rfl R.d26.m R.d26.k R.d26.b pass0 (aA (qv 5) (aA (qv 1) (aA (bR cO (qv 2) (aQ (aA (qv 4) (aB)))) (aB))))) (aB))))))
   (aL (bG (qv 3)))))
theorem oE:FnScope ["_law_told","_law_terms_here","_law_one"] ["_law_told","_law_terms_here"] (defScope (top 25)):=⟨rfl,rfl,rfl,by decide +kernel,rfl,by decide +kernel,by decide +kernel⟩
theorem oF(R:Reg K mg)(T:Txt K mg):∀ n:Nat,FnOk P w K mg base CX0 (n+0) R.f25 R.g25 ["_law_told","_law_terms_here"] (LF K (fC n))
 |0=>lN
 |n+1=>by
  have G:=oF R T n
  have sc:=oE
  exact jE (k:=n+0) (N:=["_law_told","_law_terms_here","_law_one"]) (ts:=iE (fC n)) R.d25.F oE fun cdv A outer s H E hr=>aE (eP (bH (eY (hu60' hr)) (aK (hu1 hr) (qv 0) (aD) (fun _ _=>rfl)) (bP) (nomark _)) (aL (bG (qv 0))) (bS))
   (aE (eP (bH (eY (hu60' hr)) (aK (hu1 hr) (qv 0) (aD) (fun _ _=>rfl)) (bP) (nomark _)) (aE (aY (i:=2) sc.nd rfl (by first|exact Or.inl rfl|exact Or.inr rfl) (iV PySem.F.plainAttrs_list PySem.F.slot_list_pop PySem.F.type_list_pop oR (qv 1) (aA (aD) (aB))))
   (aL (bG (aQ (aA (bP) (aA (qv 2) (aA (iV PySem.F.plainAttrs_list PySem.F.slot_list_pop PySem.F.type_list_pop oR (qv 1) (aA (aD) (aB))) (aB)))))))) (bS))
   (aE (eP (bH (eY (hu60' hr)) (aK (hu1 hr) (qv 0) (aD) (fun _ _=>rfl)) (bP) (nomark _)) (aL (bG (aQ (aA (bP) (aA (aK (hu1 hr) (qv 0) (aD) (fun _ _=>rfl)) (aA (eF gM (by rfl) T.b_tuple (by decide +kernel) (aA (gG (xs:=["_law_part"]) (x:="_law_part") hX rfl (fM (aK (hu1 hr) (qv 0) (aD) (fun _ _=>rfl))) (fX (cn:=["_law_terms_here"]) (caps:=[1]) [(".0", .local),("_law_part", .local),("_law_terms_here", .cell)] rfl (by decide +kernel) rfl (by decide +kernel) rfl (by decide +kernel) rfl rfl (List.forall_mem_cons.mpr ⟨rfl,fun _ h=>nomatch h⟩) (by intro yk h;repeat (first|(rcases List.mem_cons.mp h with h|h;(subst h;intro hk;first|exact⟨_,rfl⟩|(rcases hk with hk|hk<;>cases hk)))|exact absurd h (by simp))) (List.forall_mem_cons.mpr ⟨⟨rfl,(by first|exact Or.inl rfl|exact Or.inr (Or.inl rfl)|exact Or.inr (Or.inr rfl)),(by first|exact Or.inl rfl|exact Or.inr rfl),(by first|exact Or.inl rfl|exact Or.inr rfl)⟩,fun _ h=>nomatch h⟩)) (fun C ex s' H'=>pgc (i:=0) (by decide +kernel) rfl rfl) (fun C ex s' H'=>gP) (fun C ex s' H'=>iV PySem.F.plainAttrs_list PySem.F.slot_list_pop PySem.F.type_list_pop oR (qv 1) (aA (aD) (aB)))) (aB))) (aB))))))) (bS))
   (aE (eP (qN (qM (bH (eY (hu60' hr)) (aK (hu1 hr) (qv 0) (aD) (fun _ _=>rfl)) (bP) (nomark _)) (nM (bH (eY (hu60' hr)) (aK (hu1 hr) (qv 0) (aD) (fun _ _=>rfl)) (bP) (nomark _))))) (aL (bG (aQ (aA (aK (hu1 hr) (qv 0) (aD) (fun _ _=>rfl)) (aA (aK (hu1 hr) (qv 0) (aD) (fun _ _=>rfl)) (aA (aH G hr rfl R.d25.m R.d25.k R.d25.b pass0 (aA (aK (hu1 hr) (qv 0) (aD) (fun _ _=>rfl)) (aA (qv 1) (aB)))) (aB))))))) (bS))
   (aE (aY (i:=2) sc.nd rfl (by first|exact Or.inl rfl|exact Or.inr rfl) (aH G hr rfl R.d25.m R.d25.k R.d25.b pass0 (aA (aK (hu1 hr) (qv 0) (aD) (fun _ _=>rfl)) (aA (qv 1) (aB)))))
   (aL (bG (aQ (aA (aK (hu1 hr) (qv 0) (aD) (fun _ _=>rfl)) (aA (qv 2) (aA (aH G hr rfl R.d25.m R.d25.k R.d25.b pass0 (aA (aK (hu1 hr) (qv 0) (aD) (fun _ _=>rfl)) (aA (qv 1) (aB)))) (aB)))))))))))
theorem pR:FnScope ["_law_t","_law_place","_law_u","_law_k"] ["_law_t","_law_place","_law_u"] (defScope (top 27)):=⟨rfl,rfl,rfl,by decide +kernel,rfl,by decide +kernel,by decide +kernel⟩
theorem pS(R:Reg K mg)(T:Txt K mg):∀ n:Nat,FnOk P w K mg base CX0 (n+0) R.f27 R.g27 ["_law_t","_law_place","_law_u"] (LF K (gY n))
 |0=>lN
 |n+1=>by
  have G:=pS R T n
  have sc:=pR
  exact jE (k:=n+0) (N:=["_law_t","_law_place","_law_u","_law_k"]) (ts:=kL (gY n)) R.d27.F pR fun cdv A outer s H E hr=>aE (eP (bH (eY (hu60' hr)) (qv 1) (aQ (aB)) (nomark _)) (aL (bG (qv 2))) (bS))
   (aE (aY (i:=3) sc.nd rfl (by first|exact Or.inl rfl|exact Or.inr rfl) (aK (hu1 hr) (qv 1) (aD) (fun _ _=>rfl)))
   (aL (bG (aQ (aA (aK (hu1 hr) (qv 0) (aD) (fun _ _=>rfl)) (aA (aK (hu1 hr) (qv 0) (aD) (fun _ _=>rfl)) (aA (bR cO (bR cO (eR (aK (hu1 hr) (qv 0) (aD) (fun _ _=>rfl)) (gW) (eO (qv 3))) (aQ (aA (aH G hr rfl R.d27.m R.d27.k R.d27.b pass0 (aA (aK (hu1 hr) (aK (hu1 hr) (qv 0) (aD) (fun _ _=>rfl)) (qv 3) (fun _ _=>rfl)) (aA (eR (qv 1) (eO (aD)) (gW)) (aA (qv 2) (aB))))) (aB)))) (eR (aK (hu1 hr) (qv 0) (aD) (fun _ _=>rfl)) (eO (bR cO (qv 3) (aD))) (gW))) (aB))))))))
theorem nB:FnScope ["_law_told"] ["_law_told"] (defScope (top 24)):=⟨rfl,rfl,rfl,by decide +kernel,rfl,by decide +kernel,by decide +kernel⟩
theorem jP(R:Reg K mg)(T:Txt K mg):∀ n:Nat,FnOk P w K mg base CX0 (n+0) R.f24 R.g24 ["_law_told"] (LF K (cN n))
 |0=>lN
 |n+1=>by
  have G:=jP R T n
  have sc:=nB
  exact jE (k:=n+0) (N:=["_law_told"]) (ts:=fJ (cN n)) R.d24.F nB fun cdv A outer s H E hr=>aE (eP (bH (eY (hu60' hr)) (aK (hu1 hr) (qv 0) (aD) (fun _ _=>rfl)) (bP) (nomark _)) (aL (bG (eQ (aB)))) (bS))
   (aE (eP (bH (eY (hu60' hr)) (aK (hu1 hr) (qv 0) (aD) (fun _ _=>rfl)) (bP) (nomark _)) (aL (bG (eQ (aA (aK (hu1 hr) (qv 0) (aD) (fun _ _=>rfl)) (aA (aK (hu1 hr) (qv 0) (aD) (fun _ _=>rfl)) (aB)))))) (bS))
   (aE (eP (bH (eY (hu60' hr)) (aK (hu1 hr) (qv 0) (aD) (fun _ _=>rfl)) (bP) (nomark _)) (aL (bG (eF nY (by rfl) T.b_list (by decide +kernel) (aA (aK (hu1 hr) (qv 0) (aD) (fun _ _=>rfl)) (aB))))) (bS))
   (aE (eP (qN (qM (bH (eY (hu60' hr)) (aK (hu1 hr) (qv 0) (aD) (fun _ _=>rfl)) (bP) (nomark _)) (nM (bH (eY (hu60' hr)) (aK (hu1 hr) (qv 0) (aD) (fun _ _=>rfl)) (bP) (nomark _))))) (aL (bG (aH G hr rfl R.d24.m R.d24.k R.d24.b pass0 (aA (aK (hu1 hr) (qv 0) (aD) (fun _ _=>rfl)) (aB))))) (bS))
   (aL (bG (bR cO (aH G hr rfl R.d24.m R.d24.k R.d24.b pass0 (aA (aK (hu1 hr) (qv 0) (aD) (fun _ _=>rfl)) (aB))) (aH G hr rfl R.d24.m R.d24.k R.d24.b pass0 (aA (aK (hu1 hr) (qv 0) (aD) (fun _ _=>rfl)) (aB)))))))))
theorem oG:FnScope ["_law_told","_law_t","_law_u","_law_found","_law_terms_here","_law_k","_law_place"] ["_law_told","_law_t","_law_u"] (defScope (top 28)):=⟨rfl,rfl,rfl,by decide +kernel,rfl,by decide +kernel,by decide +kernel⟩
theorem uK(R:Reg K mg)(T:Txt K mg):FnOk P w K mg base CX0 16 R.f28 R.g28 ["_law_told","_law_t","_law_u"] (LF K kN):=by
  have sc:=oG
  exact jE (k:=15) (N:=["_law_told","_law_t","_law_u","_law_found","_law_terms_here","_law_k","_law_place"]) (ts:=mC) R.d28.F oG fun cdv A outer s H E hr=>aE (aY (i:=3) sc.nd rfl (by first|exact Or.inl rfl|exact Or.inr rfl) (eQ (aA (qv 0) (aB))))
   (aE (aY (i:=4) sc.nd rfl (by first|exact Or.inl rfl|exact Or.inr rfl) (aH (jP R T 6) (hr.mono (by omega)) rfl R.d24.m R.d24.k R.d24.b pass0 (aA (qv 0) (aB))))
   (aE (jI PassesOwn.never rfl (jH rfl T.b_range (aA (eG jF (by rfl) T.b_len (by decide +kernel) (aA (qv 4) (aB))) (aB))) (cV (i:=5) sc.nd rfl (by first|exact Or.inl rfl|exact Or.inr rfl)) (aL (jI PassesOwn.never rfl (fM (aH (kX R T 14) (hr.mono (by omega)) rfl R.d26.m R.d26.k R.d26.b pass0 (aA (aK (hu1 hr) (qv 4) (qv 5) (fun _ _=>rfl)) (aA (qv 1) (aA (aQ (aB)) (aB)))))) (cV (i:=6) sc.nd rfl (by first|exact Or.inl rfl|exact Or.inr rfl)) (aE (jV (aH (pS R T 14) (hr.mono (by omega)) rfl R.d27.m R.d27.k R.d27.b pass0 (aA (aK (hu1 hr) (qv 4) (qv 5) (fun _ _=>rfl)) (aA (qv 6) (aA (qv 2) (aB))))) (oV (hu1 hr) (qv 4) (qv 5)))
   (aL (gK (iV PySem.F.plainAttrs_list PySem.F.slot_list_append PySem.F.type_list_append gO (qv 3) (aA (aH (oF R T 6) (hr.mono (by omega)) rfl R.d25.m R.d25.k R.d25.b pass0 (aA (qv 0) (aA (eF nY (by rfl) T.b_list (by decide +kernel) (aA (qv 4) (aB))) (aB)))) (aB)))))))))
   (aL (bG (qv 3)))))
theorem nD:FnScope ["_law_told","_law_t","_law_u","_law_due","_law_found"] ["_law_told","_law_t","_law_u"] (defScope (top 32)):=⟨rfl,rfl,rfl,by decide +kernel,rfl,by decide +kernel,by decide +kernel⟩
theorem kY(R:Reg K mg)(T:Txt K mg):FnOk P w K mg base CX0 17 R.f32 R.g32 ["_law_told","_law_t","_law_u"] (LF K fK):=by
  have sc:=nD
  exact jE (k:=16) (N:=["_law_told","_law_t","_law_u","_law_due","_law_found"]) (ts:=jZ) R.d32.F nD fun cdv A outer s H E hr=>aE (eP (bH (eY (hu60' hr)) (qv 1) (qv 2) (nomark _)) (aL (bG (xZ))) (bS))
   (aE (aY (i:=3) sc.nd rfl (by first|exact Or.inl rfl|exact Or.inr rfl) (aH (uK R T) (hr.mono (by omega)) rfl R.d28.m R.d28.k R.d28.b pass0 (aA (qv 0) (aA (qv 1) (aA (qv 2) (aB))))))
   (aE (aY (i:=4) sc.nd rfl (by first|exact Or.inl rfl|exact Or.inr rfl) (aH (zD R T) (hr.mono (by omega)) rfl R.d11.m R.d11.k R.d11.b pass0 (aA (qv 0) (aA (qv 1) (aA (qv 2) (aB))))))
   (aE (eP (qN (qM (aEU (tO (eG aAf (by rfl) T.b_isinstance (by decide +kernel) (aA (qv 4) (aA (aGi (n:="list") rfl T.b_list (by decide +kernel)) (aB)))))) (nM (bH (yB (hu60' hr)) (qv 4) (qv 3) (nomark _))))) (aL (bG (xZ))) (bS))
   (aE (gK (tS PySem.F.plainAttrs_list PySem.F.slot_list_reverse PySem.F.type_list_reverse wR (qv 4)))
   (aE (gK (iV PySem.F.plainAttrs_list PySem.F.slot_list_append PySem.F.type_list_append gO (qv 4) (aA (qv 0) (aB))))
   (aL (bG (aBg (eY (hu60' hr)) (aH (zD R T) (hr.mono (by omega)) rfl R.d11.m R.d11.k R.d11.b pass0 (aA (qv 0) (aA (qv 1) (aA (qv 2) (aB))))) (qv 3) (nomark _)))))))))
end
end K61
end
section
namespace K61
open PySem L2 PyProof.Rows
section
variable{P:Program}{w:World}{K:PySem.W.Frag}{mg:Str→Option Value}{base:Heap}
theorem mL:FnScope ["_law_told","_law_t"] ["_law_told","_law_t"] (defScope (top 30)):=⟨rfl,rfl,rfl,by decide +kernel,rfl,by decide +kernel,by decide +kernel⟩
theorem mM(R:Reg K mg)(T:Txt K mg):FnOk P w K mg base CX0 16 R.f30 R.g30 ["_law_told","_law_t"] (LF K gJ):=by
  have sc:=mL
  exact jE (k:=15) (N:=["_law_told","_law_t"]) (ts:=kW) R.d30.F mL fun cdv A outer s H E hr=>aL (bG (eG (wO rfl) (by rfl) T.b_sum (by decide +kernel) (aA (gG (xs:=["_law_one"]) (x:="_law_one") hX rfl (fM (aH (jP R T 6) (hr.mono (by omega)) rfl R.d24.m R.d24.k R.d24.b pass0 (aA (qv 0) (aB)))) (fX (cn:=["_law_t"]) (caps:=[1]) [(".0", .local),("_law_one", .local),("len", .globalImplicit),("_law_spots", .globalImplicit),("_law_t", .cell)] rfl (by decide +kernel) rfl (by decide +kernel) rfl (by decide +kernel) rfl rfl (List.forall_mem_cons.mpr ⟨rfl,fun _ h=>nomatch h⟩) (by intro yk h;repeat (first|(rcases List.mem_cons.mp h with h|h;(subst h;intro hk;first|exact⟨_,rfl⟩|(rcases hk with hk|hk<;>cases hk)))|exact absurd h (by simp))) (List.forall_mem_cons.mpr ⟨⟨rfl,(by first|exact Or.inl rfl|exact Or.inr (Or.inl rfl)|exact Or.inr (Or.inr rfl)),(by first|exact Or.inl rfl|exact Or.inr rfl),(by first|exact Or.inl rfl|exact Or.inr rfl)⟩,fun _ h=>nomatch h⟩)) (fun C ex s' H'=>pgc (i:=0) (by decide +kernel) rfl rfl) (fun C ex s' H'=>gP) (fun C ex s' H'=>eG jF (by rfl) T.b_len (by decide +kernel) (aA (aH (kX R T 14) (hr.mono (by omega)) rfl R.d26.m R.d26.k R.d26.b pass0 (aA (qv 0) (aA (qv 1) (aA (aQ (aB)) (aB))))) (aB)))) (aB))))
theorem nE:FnScope ["_law_t"] ["_law_t"] (defScope (top 29)):=⟨rfl,rfl,rfl,by decide +kernel,rfl,by decide +kernel,by decide +kernel⟩
theorem jQ(R:Reg K mg)(T:Txt K mg):∀ n:Nat,FnOk P w K mg base CX0 (n+1) R.f29 R.g29 ["_law_t"] (LF K (cU n))
 |0=>lN
 |n+1=>by
  have G:=jQ R T n
  have sc:=nE
  exact jE (k:=n+1) (N:=["_law_t"]) (ts:=lP (cU n)) R.d29.F nE fun cdv A outer s H E hr=>aL (bG (bR cO (aD) (eG (wO rfl) (by rfl) T.b_sum (by decide +kernel) (aA (gG (xs:=["_law_part"]) (x:="_law_part") hX rfl (fM (aH (oD R T) (hr.mono (by omega)) rfl R.d23.m R.d23.k R.d23.b pass0 (aA (qv 0) (aB)))) (caps0 (by decide +kernel) (by decide +kernel) rfl (by decide +kernel) rfl) (fun C ex s' H'=>pgc (i:=0) (by decide +kernel) rfl rfl) (fun C ex s' H'=>gP) (fun C ex s' H'=>aH G hr rfl R.d29.m R.d29.k R.d29.b pass0 (aA (qv 0) (aB)))) (aB)))))
theorem oH:FnScope ["_law_state","_law_many","_law_digit"] ["_law_state","_law_many"] (defScope (top 14)):=⟨rfl,rfl,rfl,by decide +kernel,rfl,by decide +kernel,by decide +kernel⟩
theorem aR(R:Reg K mg)(T:Txt K mg):FnOk P w K mg base CX0 1 R.f14 R.g14 ["_law_state","_law_many"] (LF K aF):=by
  have sc:=oH
  exact jE (k:=0) (N:=["_law_state","_law_many","_law_digit"]) (ts:=kO) R.d14.F oH fun cdv A outer s H E hr=>aE (eP (bH aDO (aK (hu1 hr) (qv 0) (aD) (fun _ _=>rfl)) (aD) (nomark _)) (aE (jV (eG aAd (by rfl) T.b_divmod (by decide +kernel) (aA (aK (hu1 hr) (qv 0) (aD) (fun _ _=>rfl)) (aA (qv 1) (aB)))) (kU rfl (dQ (oV (hu1 hr) (qv 0) (aD)) (dQ (cV (i:=2) sc.nd rfl (by first|exact Or.inl rfl|exact Or.inr rfl)) (jN)))))
   (aL (bG (qv 2)))) (bS))
   (aE (jV (bR lX (bR cO (bR lY (aK (hu1 hr) (qv 0) (aD) (fun _ _=>rfl)) (aD)) (aD)) (aD)) (oV (hu1 hr) (qv 0) (aD)))
   (aL (bG (bR lX (bR yA (aK (hu1 hr) (qv 0) (aD) (fun _ _=>rfl)) (aD)) (qv 1)))))
theorem nF:FnScope ["_law_book_here","_law_kind","_law_name","_law_parts"] ["_law_book_here","_law_kind"] (defScope (top 17)):=⟨rfl,rfl,rfl,by decide +kernel,rfl,by decide +kernel,by decide +kernel⟩
theorem nG(R:Reg K mg)(T:Txt K mg):∀ n:Nat,FnOk P w K mg base CX0 (n+0) R.f17 R.g17 ["_law_book_here","_law_kind"] (LF K (dJ n))
 |0=>lN
 |n+1=>by
  have G:=nG R T n
  have sc:=nF
  exact jE (k:=n+0) (N:=["_law_book_here","_law_kind","_law_name","_law_parts"]) (ts:=iY (dJ n)) R.d17.F nF fun cdv A outer s H E hr=>aE (eP (bH (eY (hu60' hr)) (qv 1) (aK (hu1 hr) (aK (hu1 hr) (qv 0) (aD) (fun _ _=>rfl)) (aD) (fun _ _=>rfl)) (nomark _)) (aL (bG (aQ (aA (bP) (aA (aK (hu1 hr) (aK (hu1 hr) (aK (hu1 hr) (qv 0) (aD) (fun _ _=>rfl)) (aD) (fun _ _=>rfl)) (aD) (fun _ _=>rfl)) (aA (aQ (aB)) (aB))))))) (bS))
   (aE (jV (aK (hu1 hr) (aK (hu1 hr) (aK (hu1 hr) (qv 0) (aD) (fun _ _=>rfl)) (qv 1) (fun _ _=>rfl)) (aD) (fun _ _=>rfl)) (kU rfl (dQ (cV (i:=2) sc.nd rfl (by first|exact Or.inl rfl|exact Or.inr rfl)) (dQ (cV (i:=3) sc.nd rfl (by first|exact Or.inl rfl|exact Or.inr rfl)) (jN)))))
   (aL (bG (aQ (aA (bP) (aA (qv 2) (aA (eF gM (by rfl) T.b_tuple (by decide +kernel) (aA (gG (xs:=["_law_part"]) (x:="_law_part") hX rfl (fM (qv 3)) (fX (cn:=["_law_book_here"]) (caps:=[0]) [(".0", .local),("_law_part", .local),("_law_least", .globalImplicit),("_law_book_here", .cell)] rfl (by decide +kernel) rfl (by decide +kernel) rfl (by decide +kernel) rfl rfl (List.forall_mem_cons.mpr ⟨rfl,fun _ h=>nomatch h⟩) (by intro yk h;repeat (first|(rcases List.mem_cons.mp h with h|h;(subst h;intro hk;first|exact⟨_,rfl⟩|(rcases hk with hk|hk<;>cases hk)))|exact absurd h (by simp))) (List.forall_mem_cons.mpr ⟨⟨rfl,(by first|exact Or.inl rfl|exact Or.inr (Or.inl rfl)|exact Or.inr (Or.inr rfl)),(by first|exact Or.inl rfl|exact Or.inr rfl),(by first|exact Or.inl rfl|exact Or.inr rfl)⟩,fun _ h=>nomatch h⟩)) (fun C ex s' H'=>pgc (i:=0) (by decide +kernel) rfl rfl) (fun C ex s' H'=>gP) (fun C ex s' H'=>aH G hr rfl R.d17.m R.d17.k R.d17.b pass0 (aA (qv 1) (aA (qv 0) (aB))))) (aB))) (aB))))))))
theorem oI:FnScope ["_law_state","_law_book_here","_law_kind","_law_things","_law_inner","_law_room","_law_own","_law_leaves","_law_pick","_law_head","_law_args_here","_law_ways","_law_word","_law_name","_law_parts"] ["_law_state","_law_book_here","_law_kind","_law_things","_law_inner","_law_room","_law_own"] (defScope (top 18)):=⟨rfl,rfl,rfl,by decide +kernel,rfl,by decide +kernel,by decide +kernel⟩
theorem gH(R:Reg K mg)(T:Txt K mg):∀ n:Nat,FnOk P w K mg base CX0 (n+4) R.f18 R.g18 ["_law_state","_law_book_here","_law_kind","_law_things","_law_inner","_law_room","_law_own"] (LF K (cG n))
 |0=>lN
 |n+1=>by
  have G:=gH R T n
  have sc:=oI
  exact jE (k:=n+4) (N:=["_law_state","_law_book_here","_law_kind","_law_things","_law_inner","_law_room","_law_own","_law_leaves","_law_pick","_law_head","_law_args_here","_law_ways","_law_word","_law_name","_law_parts"]) (ts:=jS (cG n)) R.d18.F oI fun cdv A outer s H E hr=>aE (lM (i:=7) (xs:=["_law_x","_law_other"]) (x:="_law_x") oW sc.nd rfl (by first|exact Or.inl rfl|exact Or.inr rfl) rfl (fM (qv 3)) (fX (cn:=["_law_kind"]) (caps:=[2]) [(".0", .local),("_law_x", .local),("_law_other", .local),("_law_kind", .cell)] rfl (by decide +kernel) rfl (by decide +kernel) rfl (by decide +kernel) rfl rfl (List.forall_mem_cons.mpr ⟨rfl,fun _ h=>nomatch h⟩) (by intro yk h;repeat (first|(rcases List.mem_cons.mp h with h|h;(subst h;intro hk;first|exact⟨_,rfl⟩|(rcases hk with hk|hk<;>cases hk)))|exact absurd h (by simp))) (List.forall_mem_cons.mpr ⟨⟨rfl,(by first|exact Or.inl rfl|exact Or.inr (Or.inl rfl)|exact Or.inr (Or.inr rfl)),(by first|exact Or.inl rfl|exact Or.inr rfl),(by first|exact Or.inl rfl|exact Or.inr rfl)⟩,fun _ h=>nomatch h⟩)) (fun C ex s' H'=>qL (nL rfl (cM (pgc (i:=0) (by decide +kernel) rfl rfl) (cM (pgc (i:=1) (by decide +kernel) rfl rfl) (iG)))) (lK rfl (cM (pgc (i:=0) (by decide +kernel) rfl rfl) (cM (pgc (i:=1) (by decide +kernel) rfl rfl) (iG))))) (fun C ex s' H'=>tV (bH (eY (hu60' hr)) (qv 1) (qv 2) (nomark _))) (fun C ex s' H'=>aQ (aA (bP) (aA (qv 0) (aB)))))
   (aE (aY (i:=7) sc.nd rfl (by first|exact Or.inl rfl|exact Or.inr rfl) (bR cO (qv 7) (gG (xs:=["_law_k","_law_other"]) (x:="_law_k") oW rfl (tU rfl T.b_enumerate (aA (qv 4) (aB))) (fX (cn:=["_law_kind"]) (caps:=[2]) [(".0", .local),("_law_k", .local),("_law_other", .local),("_law_kind", .cell)] rfl (by decide +kernel) rfl (by decide +kernel) rfl (by decide +kernel) rfl rfl (List.forall_mem_cons.mpr ⟨rfl,fun _ h=>nomatch h⟩) (by intro yk h;repeat (first|(rcases List.mem_cons.mp h with h|h;(subst h;intro hk;first|exact⟨_,rfl⟩|(rcases hk with hk|hk<;>cases hk)))|exact absurd h (by simp))) (List.forall_mem_cons.mpr ⟨⟨rfl,(by first|exact Or.inl rfl|exact Or.inr (Or.inl rfl)|exact Or.inr (Or.inr rfl)),(by first|exact Or.inl rfl|exact Or.inr rfl),(by first|exact Or.inl rfl|exact Or.inr rfl)⟩,fun _ h=>nomatch h⟩)) (fun C ex s' H'=>qL (nL rfl (cM (pgc (i:=0) (by decide +kernel) rfl rfl) (cM (pgc (i:=1) (by decide +kernel) rfl rfl) (iG)))) (lK rfl (cM (pgc (i:=0) (by decide +kernel) rfl rfl) (cM (pgc (i:=1) (by decide +kernel) rfl rfl) (iG))))) (fun C ex s' H'=>tV (bH (eY (hu60' hr)) (qv 1) (qv 2) (nomark _))) (fun C ex s' H'=>aQ (aA (bP) (aA (qv 0) (aB)))))))
   (aE (aY (i:=8) sc.nd rfl (by first|exact Or.inl rfl|exact Or.inr rfl) (aH (aR R T) (hr.mono (by omega)) rfl R.d14.m R.d14.k R.d14.b pass0 (aA (qv 0) (aA (aD) (aB)))))
   (aE (eP (qN (oP (bH (yB (hu60' hr)) (qv 7) (eQ (aB)) (nomark _)) (pY (qN (qM (bH (eY (hu60' hr)) (qv 5) (aD) (nomark _)) (nM (bH (eY (hu60' hr)) (qv 8) (aD) (nomark _)))))))) (aL (bG (aK (hu1 hr) (qv 7) (aH (aR R T) (hr.mono (by omega)) rfl R.d14.m R.d14.k R.d14.b pass0 (aA (qv 0) (aA (eG jF (by rfl) T.b_len (by decide +kernel) (aA (qv 7) (aB))) (aB)))) (fun _ _=>rfl)))) (bS))
   (aE (eP (bH (eY (hu60' hr)) (qv 5) (aD) (nomark _)) (aL (bG (aH (nG R T 4) (hr.mono (by omega)) rfl R.d17.m R.d17.k R.d17.b pass0 (aA (qv 1) (aA (qv 2) (aB)))))) (bS))
   (aE (eP (qN (oP (bH aBl (qv 6) (lW) (nomark _)) (oP (bH (eY (hu60' hr)) (aK (hu1 hr) (qv 6) (aD) (fun _ _=>rfl)) (qv 2) (nomark _)) (oP (bH (yB (hu60' hr)) (aK (hu1 hr) (qv 6) (aD) (fun _ _=>rfl)) (eQ (aB)) (nomark _)) (pY (bH (eY (hu60' hr)) (qv 8) (aD) (nomark _))))))) (aE (aY (i:=9) sc.nd rfl (by first|exact Or.inl rfl|exact Or.inr rfl) (aQ (aA (bP) (aA (aK (hu1 hr) (aK (hu1 hr) (qv 6) (aD) (fun _ _=>rfl)) (aH (aR R T) (hr.mono (by omega)) rfl R.d14.m R.d14.k R.d14.b pass0 (aA (qv 0) (aA (eG jF (by rfl) T.b_len (by decide +kernel) (aA (aK (hu1 hr) (qv 6) (aD) (fun _ _=>rfl)) (aB))) (aB)))) (fun _ _=>rfl)) (aB)))))
   (aE (lM (i:=10) (xs:=["_law_part"]) (x:="_law_part") hX sc.nd rfl (by first|exact Or.inl rfl|exact Or.inr rfl) rfl (fM (eR (aK (hu1 hr) (qv 6) (aD) (fun _ _=>rfl)) (eO (aD)) (gW))) (fX (cn:=["_law_book_here","_law_inner","_law_own","_law_room","_law_state","_law_things"]) (caps:=[1,4,6,5,0,3]) [(".0", .local),("_law_part", .local),("_law_term", .globalImplicit),("_law_book_here", .cell),("_law_inner", .cell),("_law_own", .cell),("_law_room", .cell),("_law_state", .cell),("_law_things", .cell)] rfl (by decide +kernel) rfl (by decide +kernel) rfl (by decide +kernel) rfl rfl (List.forall_mem_cons.mpr ⟨rfl,List.forall_mem_cons.mpr ⟨rfl,List.forall_mem_cons.mpr ⟨rfl,List.forall_mem_cons.mpr ⟨rfl,List.forall_mem_cons.mpr ⟨rfl,List.forall_mem_cons.mpr ⟨rfl,fun _ h=>nomatch h⟩⟩⟩⟩⟩⟩) (by intro yk h;repeat (first|(rcases List.mem_cons.mp h with h|h;(subst h;intro hk;first|exact⟨_,rfl⟩|(rcases hk with hk|hk<;>cases hk)))|exact absurd h (by simp))) (List.forall_mem_cons.mpr ⟨⟨rfl,(by first|exact Or.inl rfl|exact Or.inr (Or.inl rfl)|exact Or.inr (Or.inr rfl)),(by first|exact Or.inl rfl|exact Or.inr rfl),(by first|exact Or.inl rfl|exact Or.inr rfl)⟩,List.forall_mem_cons.mpr ⟨⟨rfl,(by first|exact Or.inl rfl|exact Or.inr (Or.inl rfl)|exact Or.inr (Or.inr rfl)),(by first|exact Or.inl rfl|exact Or.inr rfl),(by first|exact Or.inl rfl|exact Or.inr rfl)⟩,List.forall_mem_cons.mpr ⟨⟨rfl,(by first|exact Or.inl rfl|exact Or.inr (Or.inl rfl)|exact Or.inr (Or.inr rfl)),(by first|exact Or.inl rfl|exact Or.inr rfl),(by first|exact Or.inl rfl|exact Or.inr rfl)⟩,List.forall_mem_cons.mpr ⟨⟨rfl,(by first|exact Or.inl rfl|exact Or.inr (Or.inl rfl)|exact Or.inr (Or.inr rfl)),(by first|exact Or.inl rfl|exact Or.inr rfl),(by first|exact Or.inl rfl|exact Or.inr rfl)⟩,List.forall_mem_cons.mpr ⟨⟨rfl,(by first|exact Or.inl rfl|exact Or.inr (Or.inl rfl)|exact Or.inr (Or.inr rfl)),(by first|exact Or.inl rfl|exact Or.inr rfl),(by first|exact Or.inl rfl|exact Or.inr rfl)⟩,List.forall_mem_cons.mpr ⟨⟨rfl,(by first|exact Or.inl rfl|exact Or.inr (Or.inl rfl)|exact Or.inr (Or.inr rfl)),(by first|exact Or.inl rfl|exact Or.inr rfl),(by first|exact Or.inl rfl|exact Or.inr rfl)⟩,fun _ h=>nomatch h⟩⟩⟩⟩⟩⟩)) (fun C ex s' H'=>pgc (i:=0) (by decide +kernel) rfl rfl) (fun C ex s' H'=>gP) (fun C ex s' H'=>aH G hr rfl R.d18.m R.d18.k R.d18.b pass0 (aA (qv 5) (aA (qv 1) (aA (qv 0) (aA (qv 6) (aA (qv 2) (aA (bR nN (qv 4) (aD)) (aA (qv 3) (aB))))))))))
   (aL (bG (aQ (aA (bP) (aA (aK (hu1 hr) (qv 6) (aD) (fun _ _=>rfl)) (aA (bR cO (aQ (aA (qv 9) (aB))) (eF gM (by rfl) T.b_tuple (by decide +kernel) (aA (qv 10) (aB)))) (aB))))))))) (bS))
   (aE (lM (i:=11) (xs:=["_law_name","_law_parts"]) (x:="_law_name") oW sc.nd rfl (by first|exact Or.inl rfl|exact Or.inr rfl) rfl (fM (aCQ (hu1 hr) (aK (hu1 hr) (qv 1) (aD) (fun _ _=>rfl)) (qv 2) (eQ (aB)) ⟨rfl,rfl,rfl,rfl⟩)) (caps0 (by decide +kernel) (by decide +kernel) rfl (by decide +kernel) rfl) (fun C ex s' H'=>qL (nL rfl (cM (pgc (i:=0) (by decide +kernel) rfl rfl) (cM (pgc (i:=1) (by decide +kernel) rfl rfl) (iG)))) (lK rfl (cM (pgc (i:=0) (by decide +kernel) rfl rfl) (cM (pgc (i:=1) (by decide +kernel) rfl rfl) (iG))))) (fun C ex s' H'=>gP) (fun C ex s' H'=>aQ (aA (bP) (aA (qv 0) (aA (qv 1) (aB))))))
   (aE (aY (i:=11) sc.nd rfl (by first|exact Or.inl rfl|exact Or.inr rfl) (bR cO (qv 11) (gG (xs:=["_law_f","_law_parts","_law_other"]) (x:="_law_f") oW rfl (fM (aK (hu1 hr) (qv 1) (aD) (fun _ _=>rfl))) (fX (cn:=["_law_kind"]) (caps:=[2]) [(".0", .local),("_law_f", .local),("_law_parts", .local),("_law_other", .local),("_law_kind", .cell)] rfl (by decide +kernel) rfl (by decide +kernel) rfl (by decide +kernel) rfl rfl (List.forall_mem_cons.mpr ⟨rfl,fun _ h=>nomatch h⟩) (by intro yk h;repeat (first|(rcases List.mem_cons.mp h with h|h;(subst h;intro hk;first|exact⟨_,rfl⟩|(rcases hk with hk|hk<;>cases hk)))|exact absurd h (by simp))) (List.forall_mem_cons.mpr ⟨⟨rfl,(by first|exact Or.inl rfl|exact Or.inr (Or.inl rfl)|exact Or.inr (Or.inr rfl)),(by first|exact Or.inl rfl|exact Or.inr rfl),(by first|exact Or.inl rfl|exact Or.inr rfl)⟩,fun _ h=>nomatch h⟩)) (fun C ex s' H'=>qL (nL rfl (cM (pgc (i:=0) (by decide +kernel) rfl rfl) (cM (pgc (i:=1) (by decide +kernel) rfl rfl) (cM (pgc (i:=2) (by decide +kernel) rfl rfl) (iG))))) (lK rfl (cM (pgc (i:=0) (by decide +kernel) rfl rfl) (cM (pgc (i:=1) (by decide +kernel) rfl rfl) (cM (pgc (i:=2) (by decide +kernel) rfl rfl) (iG)))))) (fun C ex s' H'=>tV (bH (eY (hu60' hr)) (qv 2) (qv 3) (nomark _))) (fun C ex s' H'=>aQ (aA (bP) (aA (qv 0) (aA (qv 1) (aB))))))))
   (aE (jV (aK (hu1 hr) (qv 11) (aH (aR R T) (hr.mono (by omega)) rfl R.d14.m R.d14.k R.d14.b pass0 (aA (qv 0) (aA (eG jF (by rfl) T.b_len (by decide +kernel) (aA (qv 11) (aB))) (aB)))) (fun _ _=>rfl)) (kU rfl (dQ (cV (i:=12) sc.nd rfl (by first|exact Or.inl rfl|exact Or.inr rfl)) (dQ (cV (i:=13) sc.nd rfl (by first|exact Or.inl rfl|exact Or.inr rfl)) (dQ (cV (i:=14) sc.nd rfl (by first|exact Or.inl rfl|exact Or.inr rfl)) (jN))))))
   (aL (bG (aQ (aA (qv 12) (aA (qv 13) (aA (eF gM (by rfl) T.b_tuple (by decide +kernel) (aA (gG (xs:=["_law_part"]) (x:="_law_part") hX rfl (fM (qv 14)) (fX (cn:=["_law_book_here","_law_inner","_law_own","_law_room","_law_state","_law_things"]) (caps:=[1,4,6,5,0,3]) [(".0", .local),("_law_part", .local),("_law_term", .globalImplicit),("_law_book_here", .cell),("_law_inner", .cell),("_law_own", .cell),("_law_room", .cell),("_law_state", .cell),("_law_things", .cell)] rfl (by decide +kernel) rfl (by decide +kernel) rfl (by decide +kernel) rfl rfl (List.forall_mem_cons.mpr ⟨rfl,List.forall_mem_cons.mpr ⟨rfl,List.forall_mem_cons.mpr ⟨rfl,List.forall_mem_cons.mpr ⟨rfl,List.forall_mem_cons.mpr ⟨rfl,List.forall_mem_cons.mpr ⟨rfl,fun _ h=>nomatch h⟩⟩⟩⟩⟩⟩) (by intro yk h;repeat (first|(rcases List.mem_cons.mp h with h|h;(subst h;intro hk;first|exact⟨_,rfl⟩|(rcases hk with hk|hk<;>cases hk)))|exact absurd h (by simp))) (List.forall_mem_cons.mpr ⟨⟨rfl,(by first|exact Or.inl rfl|exact Or.inr (Or.inl rfl)|exact Or.inr (Or.inr rfl)),(by first|exact Or.inl rfl|exact Or.inr rfl),(by first|exact Or.inl rfl|exact Or.inr rfl)⟩,List.forall_mem_cons.mpr ⟨⟨rfl,(by first|exact Or.inl rfl|exact Or.inr (Or.inl rfl)|exact Or.inr (Or.inr rfl)),(by first|exact Or.inl rfl|exact Or.inr rfl),(by first|exact Or.inl rfl|exact Or.inr rfl)⟩,List.forall_mem_cons.mpr ⟨⟨rfl,(by first|exact Or.inl rfl|exact Or.inr (Or.inl rfl)|exact Or.inr (Or.inr rfl)),(by first|exact Or.inl rfl|exact Or.inr rfl),(by first|exact Or.inl rfl|exact Or.inr rfl)⟩,List.forall_mem_cons.mpr ⟨⟨rfl,(by first|exact Or.inl rfl|exact Or.inr (Or.inl rfl)|exact Or.inr (Or.inr rfl)),(by first|exact Or.inl rfl|exact Or.inr rfl),(by first|exact Or.inl rfl|exact Or.inr rfl)⟩,List.forall_mem_cons.mpr ⟨⟨rfl,(by first|exact Or.inl rfl|exact Or.inr (Or.inl rfl)|exact Or.inr (Or.inr rfl)),(by first|exact Or.inl rfl|exact Or.inr rfl),(by first|exact Or.inl rfl|exact Or.inr rfl)⟩,List.forall_mem_cons.mpr ⟨⟨rfl,(by first|exact Or.inl rfl|exact Or.inr (Or.inl rfl)|exact Or.inr (Or.inr rfl)),(by first|exact Or.inl rfl|exact Or.inr rfl),(by first|exact Or.inl rfl|exact Or.inr rfl)⟩,fun _ h=>nomatch h⟩⟩⟩⟩⟩⟩)) (fun C ex s' H'=>pgc (i:=0) (by decide +kernel) rfl rfl) (fun C ex s' H'=>gP) (fun C ex s' H'=>aH G hr rfl R.d18.m R.d18.k R.d18.b pass0 (aA (qv 5) (aA (qv 1) (aA (qv 0) (aA (qv 6) (aA (qv 2) (aA (bR nN (qv 4) (aD)) (aA (qv 3) (aB)))))))))) (aB))) (aB)))))))))))))))
theorem oJ:FnScope ["_law_state","_law_book_here","_law_things","_law_inner","_law_room","_law_way","_law_word","_law_kinds","_law_some","_law_kind","_law_one"] ["_law_state","_law_book_here","_law_things","_law_inner","_law_room"] (defScope (top 21)):=⟨rfl,rfl,rfl,by decide +kernel,rfl,by decide +kernel,by decide +kernel⟩
theorem oK(R:Reg K mg)(T:Txt K mg):∀ n:Nat,FnOk P w K mg base CX0 (n+9) R.f21 R.g21 ["_law_state","_law_book_here","_law_things","_law_inner","_law_room"] (LF K (gV n))
 |0=>lN
 |n+1=>by
  have G:=oK R T n
  have sc:=oJ
  exact jE (k:=n+9) (N:=["_law_state","_law_book_here","_law_things","_law_inner","_law_room","_law_way","_law_word","_law_kinds","_law_some","_law_kind","_law_one"]) (ts:=gU (gV n)) R.d21.F oJ fun cdv A outer s H E hr=>aE (aY (i:=5) sc.nd rfl (by first|exact Or.inl rfl|exact Or.inr rfl) (aH (aR R T) (hr.mono (by omega)) rfl R.d14.m R.d14.k R.d14.b pass0 (aA (qv 0) (aA (aD) (aB)))))
   (aE (eP (bH (eY (hu60' hr)) (qv 5) (aD) (nomark _)) (aL (bG (aQ (aA (bP) (aB))))) (bS))
   (aE (eP (bH (eY (hu60' hr)) (qv 5) (aD) (nomark _)) (aE (jV (aK (hu1 hr) (aK (hu1 hr) (qv 1) (aD) (fun _ _=>rfl)) (aH (aR R T) (hr.mono (by omega)) rfl R.d14.m R.d14.k R.d14.b pass0 (aA (qv 0) (aA (eG jF (by rfl) T.b_len (by decide +kernel) (aA (aK (hu1 hr) (qv 1) (aD) (fun _ _=>rfl)) (aB))) (aB)))) (fun _ _=>rfl)) (kU rfl (dQ (cV (i:=6) sc.nd rfl (by first|exact Or.inl rfl|exact Or.inr rfl)) (dQ (cV (i:=7) sc.nd rfl (by first|exact Or.inl rfl|exact Or.inr rfl)) (jN)))))
   (aE (lM (i:=8) (xs:=["_law_kind"]) (x:="_law_kind") hX sc.nd rfl (by first|exact Or.inl rfl|exact Or.inr rfl) rfl (fM (qv 7)) (fX (cn:=["_law_book_here","_law_inner","_law_room","_law_state","_law_things"]) (caps:=[1,3,4,0,2]) [(".0", .local),("_law_kind", .local),("_law_term", .globalImplicit),("min", .globalImplicit),("_law_book_here", .cell),("_law_inner", .cell),("_law_room", .cell),("_law_state", .cell),("_law_things", .cell)] rfl (by decide +kernel) rfl (by decide +kernel) rfl (by decide +kernel) rfl rfl (List.forall_mem_cons.mpr ⟨rfl,List.forall_mem_cons.mpr ⟨rfl,List.forall_mem_cons.mpr ⟨rfl,List.forall_mem_cons.mpr ⟨rfl,List.forall_mem_cons.mpr ⟨rfl,fun _ h=>nomatch h⟩⟩⟩⟩⟩) (by intro yk h;repeat (first|(rcases List.mem_cons.mp h with h|h;(subst h;intro hk;first|exact⟨_,rfl⟩|(rcases hk with hk|hk<;>cases hk)))|exact absurd h (by simp))) (List.forall_mem_cons.mpr ⟨⟨rfl,(by first|exact Or.inl rfl|exact Or.inr (Or.inl rfl)|exact Or.inr (Or.inr rfl)),(by first|exact Or.inl rfl|exact Or.inr rfl),(by first|exact Or.inl rfl|exact Or.inr rfl)⟩,List.forall_mem_cons.mpr ⟨⟨rfl,(by first|exact Or.inl rfl|exact Or.inr (Or.inl rfl)|exact Or.inr (Or.inr rfl)),(by first|exact Or.inl rfl|exact Or.inr rfl),(by first|exact Or.inl rfl|exact Or.inr rfl)⟩,List.forall_mem_cons.mpr ⟨⟨rfl,(by first|exact Or.inl rfl|exact Or.inr (Or.inl rfl)|exact Or.inr (Or.inr rfl)),(by first|exact Or.inl rfl|exact Or.inr rfl),(by first|exact Or.inl rfl|exact Or.inr rfl)⟩,List.forall_mem_cons.mpr ⟨⟨rfl,(by first|exact Or.inl rfl|exact Or.inr (Or.inl rfl)|exact Or.inr (Or.inr rfl)),(by first|exact Or.inl rfl|exact Or.inr rfl),(by first|exact Or.inl rfl|exact Or.inr rfl)⟩,List.forall_mem_cons.mpr ⟨⟨rfl,(by first|exact Or.inl rfl|exact Or.inr (Or.inl rfl)|exact Or.inr (Or.inr rfl)),(by first|exact Or.inl rfl|exact Or.inr rfl),(by first|exact Or.inl rfl|exact Or.inr rfl)⟩,fun _ h=>nomatch h⟩⟩⟩⟩⟩)) (fun C ex s' H'=>pgc (i:=0) (by decide +kernel) rfl rfl) (fun C ex s' H'=>gP) (fun C ex s' H'=>aH (gH R T 5) (hr.mono (by omega)) rfl R.d18.m R.d18.k R.d18.b pass0 (aA (qv 4) (aA (qv 1) (aA (qv 0) (aA (qv 5) (aA (qv 2) (aA (eG (wQ rfl) (by rfl) T.b_min (by decide +kernel) (aA (aD) (aA (qv 3) (aB)))) (aA (lW) (aB))))))))))
   (aL (bG (aQ (aA (bP) (aA (qv 6) (aA (eF gM (by rfl) T.b_tuple (by decide +kernel) (aA (qv 8) (aB))) (aB))))))))) (bS))
   (aE (aY (i:=9) sc.nd rfl (by first|exact Or.inl rfl|exact Or.inr rfl) (aK (hu1 hr) (aK (hu1 hr) (qv 1) (aD) (fun _ _=>rfl)) (aH (aR R T) (hr.mono (by omega)) rfl R.d14.m R.d14.k R.d14.b pass0 (aA (qv 0) (aA (aD) (aB)))) (fun _ _=>rfl)))
   (aE (eP (qN (qM (bH aDM (qv 5) (aD) (nomark _)) (nM (bH (eY (hu60' hr)) (qv 4) (aD) (nomark _))))) (aE (aY (i:=10) sc.nd rfl (by first|exact Or.inl rfl|exact Or.inr rfl) (aH (gH R T 5) (hr.mono (by omega)) rfl R.d18.m R.d18.k R.d18.b pass0 (aA (qv 0) (aA (qv 1) (aA (qv 9) (aA (qv 2) (aA (qv 3) (aA (eG (wQ rfl) (by rfl) T.b_min (by decide +kernel) (aA (aD) (aA (qv 4) (aB)))) (aA (lW) (aB))))))))))
   (aL (bG (aQ (aA (bP) (aA (qv 10) (aA (aH (gH R T 5) (hr.mono (by omega)) rfl R.d18.m R.d18.k R.d18.b pass0 (aA (qv 0) (aA (qv 1) (aA (qv 9) (aA (qv 2) (aA (qv 3) (aA (eG (wQ rfl) (by rfl) T.b_min (by decide +kernel) (aA (aD) (aA (qv 4) (aB)))) (aA (lW) (aB))))))))) (aB)))))))) (bS))
   (aE (eP (bH aDM (qv 5) (aD) (nomark _)) (aL (bG (aQ (aA (aK (hu1 hr) (eQ (aA (bP) (aA (bP) (aB)))) (bR nN (qv 5) (aD)) (fun _ _=>rfl)) (aA (qv 9) (aA (aH G hr rfl R.d21.m R.d21.k R.d21.b pass0 (aA (qv 0) (aA (qv 1) (aA (qv 2) (aA (bR cO (eQ (aA (qv 9) (aB))) (qv 3)) (aA (bR nN (qv 4) (aD)) (aB))))))) (aB))))))) (bS))
   (aE (aY (i:=6) sc.nd rfl (by first|exact Or.inl rfl|exact Or.inr rfl) (aK (hu1 hr) (eQ (aA (bP) (aA (bP) (aA (bP) (aB))))) (aH (aR R T) (hr.mono (by omega)) rfl R.d14.m R.d14.k R.d14.b pass0 (aA (qv 0) (aA (aD) (aB)))) (fun _ _=>rfl)))
   (aE (aY (i:=10) sc.nd rfl (by first|exact Or.inl rfl|exact Or.inr rfl) (aH G hr rfl R.d21.m R.d21.k R.d21.b pass0 (aA (qv 0) (aA (qv 1) (aA (qv 2) (aA (qv 3) (aA (bR nN (qv 4) (aD)) (aB))))))))
   (aL (bG (aQ (aA (qv 6) (aA (qv 10) (aA (aH G hr rfl R.d21.m R.d21.k R.d21.b pass0 (aA (qv 0) (aA (qv 1) (aA (qv 2) (aA (qv 3) (aA (bR nN (qv 4) (aD)) (aB))))))) (aB))))))))))))))
theorem lT:FnScope ["_law_thing","_law_x","_law_t"] ["_law_thing","_law_x","_law_t"] (defScope (top 22)):=⟨rfl,rfl,rfl,by decide +kernel,rfl,by decide +kernel,by decide +kernel⟩
theorem jW(R:Reg K mg)(T:Txt K mg):∀ n:Nat,FnOk P w K mg base CX0 (n+0) R.f22 R.g22 ["_law_thing","_law_x","_law_t"] (LF K (bQ n))
 |0=>lN
 |n+1=>by
  have G:=jW R T n
  have sc:=lT
  exact jE (k:=n+0) (N:=["_law_thing","_law_x","_law_t"]) (ts:=dR (bQ n)) R.d22.F lT fun cdv A outer s H E hr=>aE (eP (bH (eY (hu60' hr)) (qv 0) (aQ (aA (bP) (aA (qv 1) (aB)))) (nomark _)) (aL (bG (qv 2))) (bS))
   (aE (eP (bH (mB (hu1 hr)) (aK (hu1 hr) (qv 0) (aD) (fun _ _=>rfl)) (aQ (aA (bP) (aA (bP) (aA (bP) (aB))))) (by with_unfolding_all rfl)) (aL (bG (qv 0))) (bS))
   (aE (eP (bH (mB (hu1 hr)) (aK (hu1 hr) (qv 0) (aD) (fun _ _=>rfl)) (aQ (aA (bP) (aA (bP) (aA (bP) (aB))))) (by with_unfolding_all rfl)) (aL (bG (aQ (aA (aK (hu1 hr) (qv 0) (aD) (fun _ _=>rfl)) (aA (aK (hu1 hr) (qv 0) (aD) (fun _ _=>rfl)) (aA (eF gM (by rfl) T.b_tuple (by decide +kernel) (aA (gG (xs:=["_law_part"]) (x:="_law_part") hX rfl (fM (aK (hu1 hr) (qv 0) (aD) (fun _ _=>rfl))) (fX (cn:=["_law_t","_law_x"]) (caps:=[2,1]) [(".0", .local),("_law_part", .local),("_law_planted", .globalImplicit),("_law_t", .cell),("_law_x", .cell)] rfl (by decide +kernel) rfl (by decide +kernel) rfl (by decide +kernel) rfl rfl (List.forall_mem_cons.mpr ⟨rfl,List.forall_mem_cons.mpr ⟨rfl,fun _ h=>nomatch h⟩⟩) (by intro yk h;repeat (first|(rcases List.mem_cons.mp h with h|h;(subst h;intro hk;first|exact⟨_,rfl⟩|(rcases hk with hk|hk<;>cases hk)))|exact absurd h (by simp))) (List.forall_mem_cons.mpr ⟨⟨rfl,(by first|exact Or.inl rfl|exact Or.inr (Or.inl rfl)|exact Or.inr (Or.inr rfl)),(by first|exact Or.inl rfl|exact Or.inr rfl),(by first|exact Or.inl rfl|exact Or.inr rfl)⟩,List.forall_mem_cons.mpr ⟨⟨rfl,(by first|exact Or.inl rfl|exact Or.inr (Or.inl rfl)|exact Or.inr (Or.inr rfl)),(by first|exact Or.inl rfl|exact Or.inr rfl),(by first|exact Or.inl rfl|exact Or.inr rfl)⟩,fun _ h=>nomatch h⟩⟩)) (fun C ex s' H'=>pgc (i:=0) (by decide +kernel) rfl rfl) (fun C ex s' H'=>gP) (fun C ex s' H'=>aH G hr rfl R.d22.m R.d22.k R.d22.b pass0 (aA (qv 0) (aA (qv 2) (aA (qv 1) (aB)))))) (aB))) (aB))))))) (bS))
   (aE (eP (bH (mB (hu1 hr)) (aK (hu1 hr) (qv 0) (aD) (fun _ _=>rfl)) (aQ (aA (bP) (aA (bP) (aB)))) (by with_unfolding_all rfl)) (aL (bG (aQ (aA (aK (hu1 hr) (qv 0) (aD) (fun _ _=>rfl)) (aA (aK (hu1 hr) (qv 0) (aD) (fun _ _=>rfl)) (aA (aH G hr rfl R.d22.m R.d22.k R.d22.b pass0 (aA (aK (hu1 hr) (qv 0) (aD) (fun _ _=>rfl)) (aA (qv 1) (aA (qv 2) (aB))))) (aB))))))) (bS))
   (aL (bG (aQ (aA (aK (hu1 hr) (qv 0) (aD) (fun _ _=>rfl)) (aA (aH G hr rfl R.d22.m R.d22.k R.d22.b pass0 (aA (aK (hu1 hr) (qv 0) (aD) (fun _ _=>rfl)) (aA (qv 1) (aA (qv 2) (aB))))) (aA (aH G hr rfl R.d22.m R.d22.k R.d22.b pass0 (aA (aK (hu1 hr) (qv 0) (aD) (fun _ _=>rfl)) (aA (qv 1) (aA (qv 2) (aB))))) (aB))))))))))
end
end K61
end
section
namespace K61
open PySem L2 PyProof.Rows
section
variable{P:Program}{w:World}{K:PySem.W.Frag}{mg:Str→Option Value}{base:Heap}
theorem nH:FnScope ["_law_state","_law_book_here","_law_things","_law_x","_law_kind","_law_t","_law_u","_law_room","_law_told","_law_many","_law_more"] ["_law_state","_law_book_here","_law_things","_law_x","_law_kind","_law_t","_law_u"] (defScope (top 31)):=⟨rfl,rfl,rfl,by decide +kernel,rfl,by decide +kernel,by decide +kernel⟩
theorem rP(R:Reg K mg)(T:Txt K mg):FnOk P w K mg base CX0 17 R.f31 R.g31 ["_law_state","_law_book_here","_law_things","_law_x","_law_kind","_law_t","_law_u"] (LF K iJ):=by
  have sc:=nH
  exact jE (k:=16) (N:=["_law_state","_law_book_here","_law_things","_law_x","_law_kind","_law_t","_law_u","_law_room","_law_told","_law_many","_law_more"]) (ts:=kA) R.d31.F nH fun cdv A outer s H E hr=>aE (jI PassesOwn.never rfl (fM (aQ (aA (aD) (aA (aD) (aA (aD) (aB)))))) (cV (i:=7) sc.nd rfl (by first|exact Or.inl rfl|exact Or.inr rfl)) (aE (aY (i:=8) sc.nd rfl (by first|exact Or.inl rfl|exact Or.inr rfl) (aH (jW R T 14) (hr.mono (by omega)) rfl R.d22.m R.d22.k R.d22.b pass0 (aA (aH (oK R T 5) (hr.mono (by omega)) rfl R.d21.m R.d21.k R.d21.b pass0 (aA (qv 0) (aA (qv 1) (aA (bR cO (qv 2) (bR lY (eQ (aA (aQ (aA (qv 3) (aA (qv 4) (aB)))) (aB))) (aD))) (aA (eQ (aB)) (aA (qv 7) (aB))))))) (aA (qv 3) (aA (qv 5) (aB))))))
   (aE (aY (i:=9) sc.nd rfl (by first|exact Or.inl rfl|exact Or.inr rfl) (eG (wO rfl) (by rfl) T.b_sum (by decide +kernel) (aA (gG (xs:=["_law_one"]) (x:="_law_one") hX rfl (fM (aH (jP R T 6) (hr.mono (by omega)) rfl R.d24.m R.d24.k R.d24.b pass0 (aA (qv 8) (aB)))) (caps0 (by decide +kernel) (by decide +kernel) rfl (by decide +kernel) rfl) (fun C ex s' H'=>pgc (i:=0) (by decide +kernel) rfl rfl) (fun C ex s' H'=>gP) (fun C ex s' H'=>aH (jQ R T 14) (hr.mono (by omega)) rfl R.d29.m R.d29.k R.d29.b pass0 (aA (qv 0) (aB)))) (aB))))
   (aE (aY (i:=10) sc.nd rfl (by first|exact Or.inl rfl|exact Or.inr rfl) (bR cO (bR lY (aH (mM R T) (hr.mono (by omega)) rfl R.d30.m R.d30.k R.d30.b pass0 (aA (qv 8) (aA (qv 5) (aB)))) (bR cO (aD) (aH (jQ R T 14) (hr.mono (by omega)) rfl R.d29.m R.d29.k R.d29.b pass0 (aA (qv 6) (aB))))) (bR lY (aH (mM R T) (hr.mono (by omega)) rfl R.d30.m R.d30.k R.d30.b pass0 (aA (qv 8) (aA (qv 6) (aB)))) (bR cO (aD) (aH (jQ R T 14) (hr.mono (by omega)) rfl R.d29.m R.d29.k R.d29.b pass0 (aA (qv 5) (aB)))))))
   (aL (eP (qN (oP (bH aDN (qv 9) (aD) (nomark _)) (pY (bH aDN (qv 10) (aD) (nomark _))))) (aL (bG (qv 8))) (bS)))))))
   (aL (bG (aQ (aA (bP) (aA (qv 5) (aA (qv 5) (aB)))))))
theorem lJ:FnScope ["_law_state","_law_book_here","_law_f","_law_kinds","_law_args_here","_law_kind","_law_first","_law_terms_here","_law_name","_law_parts","_law_own"] ["_law_state","_law_book_here","_law_f"] (defScope (top 19)):=⟨rfl,rfl,rfl,by decide +kernel,rfl,by decide +kernel,by decide +kernel⟩
theorem pI(R:Reg K mg)(T:Txt K mg):FnOk P w K mg base CX0 10 R.f19 R.g19 ["_law_state","_law_book_here","_law_f"] (LF K gE):=by
  have sc:=lJ
  exact jE (k:=9) (N:=["_law_state","_law_book_here","_law_f","_law_kinds","_law_args_here","_law_kind","_law_first","_law_terms_here","_law_name","_law_parts","_law_own"]) (ts:=iN) R.d19.F lJ fun cdv A outer s H E hr=>aE (aY (i:=3) sc.nd rfl (by first|exact Or.inl rfl|exact Or.inr rfl) (aK (hu1 hr) (qv 1) (aD) (fun _ _=>rfl)))
   (aE (eP (bH (eY (hu60' hr)) (aH (aR R T) (hr.mono (by omega)) rfl R.d14.m R.d14.k R.d14.b pass0 (aA (qv 0) (aA (aD) (aB)))) (aD) (nomark _)) (aE (aY (i:=4) sc.nd rfl (by first|exact Or.inl rfl|exact Or.inr rfl) (eF gM (by rfl) T.b_tuple (by decide +kernel) (aA (gG (xs:=["_law_k"]) (x:="_law_k") hX rfl (jH rfl T.b_range (aA (aH (aR R T) (hr.mono (by omega)) rfl R.d14.m R.d14.k R.d14.b pass0 (aA (qv 0) (aA (aD) (aB)))) (aB))) (fX (cn:=["_law_kinds","_law_state"]) (caps:=[3,0]) [(".0", .local),("_law_k", .local),("_law_next", .globalImplicit),("_law_kinds", .cell),("_law_state", .cell)] rfl (by decide +kernel) rfl (by decide +kernel) rfl (by decide +kernel) rfl rfl (List.forall_mem_cons.mpr ⟨rfl,List.forall_mem_cons.mpr ⟨rfl,fun _ h=>nomatch h⟩⟩) (by intro yk h;repeat (first|(rcases List.mem_cons.mp h with h|h;(subst h;intro hk;first|exact⟨_,rfl⟩|(rcases hk with hk|hk<;>cases hk)))|exact absurd h (by simp))) (List.forall_mem_cons.mpr ⟨⟨rfl,(by first|exact Or.inl rfl|exact Or.inr (Or.inl rfl)|exact Or.inr (Or.inr rfl)),(by first|exact Or.inl rfl|exact Or.inr rfl),(by first|exact Or.inl rfl|exact Or.inr rfl)⟩,List.forall_mem_cons.mpr ⟨⟨rfl,(by first|exact Or.inl rfl|exact Or.inr (Or.inl rfl)|exact Or.inr (Or.inr rfl)),(by first|exact Or.inl rfl|exact Or.inr rfl),(by first|exact Or.inl rfl|exact Or.inr rfl)⟩,fun _ h=>nomatch h⟩⟩)) (fun C ex s' H'=>pgc (i:=0) (by decide +kernel) rfl rfl) (fun C ex s' H'=>gP) (fun C ex s' H'=>aK (hu1 hr) (qv 1) (aH (aR R T) (hr.mono (by omega)) rfl R.d14.m R.d14.k R.d14.b pass0 (aA (qv 2) (aA (aD) (aB)))) (fun _ _=>rfl))) (aB))))
   (aE (aY (i:=5) sc.nd rfl (by first|exact Or.inl rfl|exact Or.inr rfl) (aK (hu1 hr) (qv 3) (aH (aR R T) (hr.mono (by omega)) rfl R.d14.m R.d14.k R.d14.b pass0 (aA (qv 0) (aA (aD) (aB)))) (fun _ _=>rfl)))
   (aL (bG (aQ (aA (bP) (aA (qv 2) (aA (qv 4) (aA (qv 5) (aA (aH (gH R T 5) (hr.mono (by omega)) rfl R.d18.m R.d18.k R.d18.b pass0 (aA (qv 0) (aA (qv 1) (aA (qv 5) (aA (eQ (aB)) (aA (eF nY (by rfl) T.b_list (by decide +kernel) (aA (qv 4) (aB))) (aA (aD) (aA (lW) (aB))))))))) (aB))))))))))) (bS))
   (aE (aY (i:=6) sc.nd rfl (by first|exact Or.inl rfl|exact Or.inr rfl) (aK (hu1 hr) (qv 3) (bR cO (aD) (aH (aR R T) (hr.mono (by omega)) rfl R.d14.m R.d14.k R.d14.b pass0 (aA (qv 0) (aA (aD) (aB))))) (fun _ _=>rfl)))
   (aE (aY (i:=4) sc.nd rfl (by first|exact Or.inl rfl|exact Or.inr rfl) (bR cO (aQ (aA (qv 6) (aB))) (eF gM (by rfl) T.b_tuple (by decide +kernel) (aA (gG (xs:=["_law_k"]) (x:="_law_k") hX rfl (jH rfl T.b_range (aA (aH (aR R T) (hr.mono (by omega)) rfl R.d14.m R.d14.k R.d14.b pass0 (aA (qv 0) (aA (aD) (aB)))) (aB))) (fX (cn:=["_law_kinds","_law_state"]) (caps:=[3,0]) [(".0", .local),("_law_k", .local),("_law_next", .globalImplicit),("_law_kinds", .cell),("_law_state", .cell)] rfl (by decide +kernel) rfl (by decide +kernel) rfl (by decide +kernel) rfl rfl (List.forall_mem_cons.mpr ⟨rfl,List.forall_mem_cons.mpr ⟨rfl,fun _ h=>nomatch h⟩⟩) (by intro yk h;repeat (first|(rcases List.mem_cons.mp h with h|h;(subst h;intro hk;first|exact⟨_,rfl⟩|(rcases hk with hk|hk<;>cases hk)))|exact absurd h (by simp))) (List.forall_mem_cons.mpr ⟨⟨rfl,(by first|exact Or.inl rfl|exact Or.inr (Or.inl rfl)|exact Or.inr (Or.inr rfl)),(by first|exact Or.inl rfl|exact Or.inr rfl),(by first|exact Or.inl rfl|exact Or.inr rfl)⟩,List.forall_mem_cons.mpr ⟨⟨rfl,(by first|exact Or.inl rfl|exact Or.inr (Or.inl rfl)|exact Or.inr (Or.inr rfl)),(by first|exact Or.inl rfl|exact Or.inr rfl),(by first|exact Or.inl rfl|exact Or.inr rfl)⟩,fun _ h=>nomatch h⟩⟩)) (fun C ex s' H'=>pgc (i:=0) (by decide +kernel) rfl rfl) (fun C ex s' H'=>gP) (fun C ex s' H'=>aK (hu1 hr) (qv 1) (aH (aR R T) (hr.mono (by omega)) rfl R.d14.m R.d14.k R.d14.b pass0 (aA (qv 2) (aA (aD) (aB)))) (fun _ _=>rfl))) (aB)))))
   (aE (aY (i:=5) sc.nd rfl (by first|exact Or.inl rfl|exact Or.inr rfl) (aK (hu1 hr) (qv 3) (bR lX (aH (aR R T) (hr.mono (by omega)) rfl R.d14.m R.d14.k R.d14.b pass0 (aA (qv 0) (aA (aD) (aB)))) (aD)) (fun _ _=>rfl)))
   (aE (aY (i:=7) sc.nd rfl (by first|exact Or.inl rfl|exact Or.inr rfl) (eQ (aB)))
   (aE (jI PassesOwn.never rfl (fM (aK (hu1 hr) (aK (hu1 hr) (qv 1) (aD) (fun _ _=>rfl)) (qv 6) (fun _ _=>rfl))) (kU rfl (dQ (cV (i:=8) sc.nd rfl (by first|exact Or.inl rfl|exact Or.inr rfl)) (dQ (cV (i:=9) sc.nd rfl (by first|exact Or.inl rfl|exact Or.inr rfl)) (jN)))) (aE (aY (i:=10) sc.nd rfl (by first|exact Or.inl rfl|exact Or.inr rfl) (aQ (aA (qv 2) (aA (qv 4) (aA (qv 5) (aA (gG (xs:=["_law_k","_law_part"]) (x:="_law_k") oW rfl (tU rfl T.b_enumerate (aA (qv 9) (aB))) (fX (cn:=["_law_first"]) (caps:=[6]) [(".0", .local),("_law_k", .local),("_law_part", .local),("_law_first", .cell)] rfl (by decide +kernel) rfl (by decide +kernel) rfl (by decide +kernel) rfl rfl (List.forall_mem_cons.mpr ⟨rfl,fun _ h=>nomatch h⟩) (by intro yk h;repeat (first|(rcases List.mem_cons.mp h with h|h;(subst h;intro hk;first|exact⟨_,rfl⟩|(rcases hk with hk|hk<;>cases hk)))|exact absurd h (by simp))) (List.forall_mem_cons.mpr ⟨⟨rfl,(by first|exact Or.inl rfl|exact Or.inr (Or.inl rfl)|exact Or.inr (Or.inr rfl)),(by first|exact Or.inl rfl|exact Or.inr rfl),(by first|exact Or.inl rfl|exact Or.inr rfl)⟩,fun _ h=>nomatch h⟩)) (fun C ex s' H'=>qL (nL rfl (cM (pgc (i:=0) (by decide +kernel) rfl rfl) (cM (pgc (i:=1) (by decide +kernel) rfl rfl) (iG)))) (lK rfl (cM (pgc (i:=0) (by decide +kernel) rfl rfl) (cM (pgc (i:=1) (by decide +kernel) rfl rfl) (iG))))) (fun C ex s' H'=>tV (bH (eY (hu60' hr)) (qv 1) (qv 2) (nomark _))) (fun C ex s' H'=>qv 0)) (aB)))))))
   (aL (gK (iV PySem.F.plainAttrs_list PySem.F.slot_list_append PySem.F.type_list_append gO (qv 7) (aA (aH (gH R T 5) (hr.mono (by omega)) rfl R.d18.m R.d18.k R.d18.b pass0 (aA (qv 0) (aA (qv 1) (aA (qv 5) (aA (eQ (aB)) (aA (eF nY (by rfl) T.b_list (by decide +kernel) (aA (bR cO (qv 9) (eR (qv 4) (eO (aD)) (gW))) (aB))) (aA (aD) (aA (qv 10) (aB))))))))) (aB)))))))
   (aL (bG (aQ (aA (bP) (aA (qv 2) (aA (qv 4) (aA (qv 5) (aA (eF gM (by rfl) T.b_tuple (by decide +kernel) (aA (qv 7) (aB))) (aB)))))))))))))))
theorem nI:FnScope ["_law_name"] ["_law_name"] (defScope (top 16)):=⟨rfl,rfl,rfl,by decide +kernel,rfl,by decide +kernel,by decide +kernel⟩
theorem rQ(R:Reg K mg)(T:Txt K mg):FnOk P w K mg base CX0 1 R.f16 R.g16 ["_law_name"] (LF K iK):=by
  have sc:=nI
  exact jE (k:=0) (N:=["_law_name"]) (ts:=lQ) R.d16.F nI fun cdv A outer s H E hr=>aL (bG (bR cO (aK (hu1 hr) (bP) (iV PySem.F.plainAttrs_str PySem.F.slot_str_index PySem.F.type_str_index aBp (bP) (aA (aK (hu1 hr) (qv 0) (aD) (fun _ _=>rfl)) (aB))) (fun _ _=>rfl)) (eR (qv 0) (eO (aD)) (gW))))
theorem oM:FnScope ["_law_state","_law_names_here","_law_a","_law_b","_law_c","_law_great_here","_law_forms","_law_calls","_law_rows","_law_book_here","_law_wide","_law_f","_law_row","_law_word"] ["_law_state","_law_names_here"] (defScope (top 20)):=⟨rfl,rfl,rfl,by decide +kernel,rfl,by decide +kernel,by decide +kernel⟩
theorem uL(R:Reg K mg)(T:Txt K mg):FnOk P w K mg base CX0 11 R.f20 R.g20 ["_law_state","_law_names_here"] (LF K kP):=by
  have sc:=oM
  exact jE (k:=10) (N:=["_law_state","_law_names_here","_law_a","_law_b","_law_c","_law_great_here","_law_forms","_law_calls","_law_rows","_law_book_here","_law_wide","_law_f","_law_row","_law_word"]) (ts:=mD) R.d20.F oM fun cdv A outer s H E hr=>aE (jV (eR (qv 1) (gW) (eO (aD))) (kU rfl (dQ (cV (i:=2) sc.nd rfl (by first|exact Or.inl rfl|exact Or.inr rfl)) (dQ (cV (i:=3) sc.nd rfl (by first|exact Or.inl rfl|exact Or.inr rfl)) (dQ (cV (i:=4) sc.nd rfl (by first|exact Or.inl rfl|exact Or.inr rfl)) (jN))))))
   (aE (lM (i:=5) (xs:=["_law_name"]) (x:="_law_name") hX sc.nd rfl (by first|exact Or.inl rfl|exact Or.inr rfl) rfl (fM (eR (qv 1) (eO (aD)) (eO (aD)))) (caps0 (by decide +kernel) (by decide +kernel) rfl (by decide +kernel) rfl) (fun C ex s' H'=>pgc (i:=0) (by decide +kernel) rfl rfl) (fun C ex s' H'=>gP) (fun C ex s' H'=>aH (rQ R T) (hr.mono (by omega)) rfl R.d16.m R.d16.k R.d16.b pass0 (aA (qv 0) (aB))))
   (aE (aY (i:=6) sc.nd rfl (by first|exact Or.inl rfl|exact Or.inr rfl) (aGl (uW (qv 3) (eQ (aA (aQ (aA (aK (hu1 hr) (qv 5) (aD) (fun _ _=>rfl)) (aA (aQ (aB)) (aB)))) (aA (aQ (aA (aK (hu1 hr) (qv 5) (aD) (fun _ _=>rfl)) (aA (aQ (aA (qv 3) (aB))) (aB)))) (aB)))) (uW (qv 4) (eQ (aA (aQ (aA (aK (hu1 hr) (qv 5) (aD) (fun _ _=>rfl)) (aA (aQ (aB)) (aB)))) (aA (aQ (aA (aK (hu1 hr) (qv 5) (aD) (fun _ _=>rfl)) (aA (aQ (aA (qv 3) (aA (qv 4) (aB)))) (aB)))) (aB)))) (aCJ))) rfl rfl (by simp) (by decide)))
   (aE (eP (bH (eY (hu60' hr)) (aH (aR R T) (hr.mono (by omega)) rfl R.d14.m R.d14.k R.d14.b pass0 (aA (qv 0) (aA (aD) (aB)))) (aD) (nomark _)) (aL (gK (iV PySem.F.plainAttrs_list PySem.F.slot_list_append PySem.F.type_list_append gO (aK (hu1 hr) (qv 6) (qv 3) (fun _ _=>rfl)) (aA (aQ (aA (aK (hu1 hr) (qv 5) (aD) (fun _ _=>rfl)) (aA (aQ (aA (qv 3) (aA (qv 3) (aB)))) (aB)))) (aB))))) (bS))
   (aE (eP (bH (eY (hu60' hr)) (aH (aR R T) (hr.mono (by omega)) rfl R.d14.m R.d14.k R.d14.b pass0 (aA (qv 0) (aA (aD) (aB)))) (aD) (nomark _)) (aL (gK (iV PySem.F.plainAttrs_list PySem.F.slot_list_insert PySem.F.type_list_insert aAg (aK (hu1 hr) (qv 6) (qv 4) (fun _ _=>rfl)) (aA (bR cO (aD) (aH (aR R T) (hr.mono (by omega)) rfl R.d14.m R.d14.k R.d14.b pass0 (aA (qv 0) (aA (aD) (aB))))) (aA (aQ (aA (aK (hu1 hr) (qv 5) (aD) (fun _ _=>rfl)) (aA (aQ (aA (qv 4) (aA (qv 2) (aA (qv 3) (aA (qv 4) (aB)))))) (aB)))) (aB)))))) (bS))
   (aE (eP (bH (eY (hu60' hr)) (aH (aR R T) (hr.mono (by omega)) rfl R.d14.m R.d14.k R.d14.b pass0 (aA (qv 0) (aA (aD) (aB)))) (aD) (nomark _)) (aL (jV (aQ (aA (aK (hu1 hr) (qv 5) (aD) (fun _ _=>rfl)) (aA (aQ (aA (qv 2) (aA (qv 3) (aB)))) (aB)))) (oV (hu1 hr) (aK (hu1 hr) (qv 6) (qv 4) (fun _ _=>rfl)) (aD)))) (bS))
   (aE (aY (i:=7) sc.nd rfl (by first|exact Or.inl rfl|exact Or.inr rfl) (eQ (aA (aQ (aA (aK (hu1 hr) (qv 1) (aD) (fun _ _=>rfl)) (aA (aQ (aB)) (aA (qv 2) (aB))))) (aA (aQ (aA (aK (hu1 hr) (qv 1) (aD) (fun _ _=>rfl)) (aA (aQ (aA (qv 2) (aA (qv 3) (aB)))) (aA (qv 2) (aB))))) (aA (aQ (aA (aK (hu1 hr) (qv 1) (aD) (fun _ _=>rfl)) (aA (aQ (aA (qv 3) (aB))) (aA (qv 3) (aB))))) (aB))))))
   (aE (aY (i:=8) sc.nd rfl (by first|exact Or.inl rfl|exact Or.inr rfl) (eQ (aA (aQ (aA (bP) (aA (qv 2) (aB)))) (aA (aQ (aA (bP) (aA (qv 3) (aA (eF gM (by rfl) T.b_tuple (by decide +kernel) (aA (aK (hu1 hr) (qv 6) (qv 3) (fun _ _=>rfl)) (aB))) (aB))))) (aA (aQ (aA (bP) (aA (qv 4) (aA (eF gM (by rfl) T.b_tuple (by decide +kernel) (aA (aK (hu1 hr) (qv 6) (qv 4) (fun _ _=>rfl)) (aB))) (aB))))) (aB))))))
   (aE (aY (i:=8) sc.nd rfl (by first|exact Or.inl rfl|exact Or.inr rfl) (bR cO (qv 8) (gG (xs:=["_law_f","_law_parts","_law_kind"]) (x:="_law_f") oW rfl (fM (qv 7)) (caps0 (by decide +kernel) (by decide +kernel) rfl (by decide +kernel) rfl) (fun C ex s' H'=>qL (nL rfl (cM (pgc (i:=0) (by decide +kernel) rfl rfl) (cM (pgc (i:=1) (by decide +kernel) rfl rfl) (cM (pgc (i:=2) (by decide +kernel) rfl rfl) (iG))))) (lK rfl (cM (pgc (i:=0) (by decide +kernel) rfl rfl) (cM (pgc (i:=1) (by decide +kernel) rfl rfl) (cM (pgc (i:=2) (by decide +kernel) rfl rfl) (iG)))))) (fun C ex s' H'=>gP) (fun C ex s' H'=>aQ (aA (bP) (aA (qv 0) (aA (qv 1) (aA (qv 2) (aB)))))))))
   (aE (aY (i:=9) sc.nd rfl (by first|exact Or.inl rfl|exact Or.inr rfl) (aQ (aA (qv 8) (aA (qv 6) (aA (qv 7) (aA (eQ (aA (qv 2) (aA (qv 3) (aA (qv 4) (aB))))) (aA (aGm) (aA (eQ (aB)) (aB)))))))))
   (aE (aY (i:=10) sc.nd rfl (by first|exact Or.inl rfl|exact Or.inr rfl) (eF aFb (by rfl) T.b_int (by decide +kernel) (aA (aBg (eY (hu60' hr)) (aH (aR R T) (hr.mono (by omega)) rfl R.d14.m R.d14.k R.d14.b pass0 (aA (qv 0) (aA (aD) (aB)))) (aD) (nomark _)) (aB))))
   (aE (jI PassesOwn.never rfl (fM (eR (bR cO (eR (qv 1) (eO (aD)) (eO (aD))) (eR (qv 1) (eO (aD)) (eO (aD)))) (gW) (eO (bR cO (bR cO (aD) (bR lY (aD) (qv 10))) (aH (aR R T) (hr.mono (by omega)) rfl R.d14.m R.d14.k R.d14.b pass0 (aA (qv 0) (aA (bR nN (aD) (qv 10)) (aB)))))))) (cV (i:=11) sc.nd rfl (by first|exact Or.inl rfl|exact Or.inr rfl)) (aE (aY (i:=12) sc.nd rfl (by first|exact Or.inl rfl|exact Or.inr rfl) (aH (pI R T) (hr.mono (by omega)) rfl R.d19.m R.d19.k R.d19.b pass0 (aA (qv 0) (aA (qv 9) (aA (qv 11) (aB))))))
   (aE (gK (iV PySem.F.plainAttrs_list PySem.F.slot_list_append PySem.F.type_list_append gO (qv 8) (aA (qv 12) (aB))))
   (aL (gK (iV PySem.F.plainAttrs_list PySem.F.slot_list_append PySem.F.type_list_append gO (qv 7) (aA (aQ (aA (aK (hu1 hr) (qv 12) (aD) (fun _ _=>rfl)) (aA (aK (hu1 hr) (qv 12) (aD) (fun _ _=>rfl)) (aA (aK (hu1 hr) (qv 12) (aD) (fun _ _=>rfl)) (aB))))) (aB))))))))
   (aE (jI PassesOwn.never rfl (fM (eR (qv 8) (eO (aD)) (gW))) (cV (i:=12) sc.nd rfl (by first|exact Or.inl rfl|exact Or.inr rfl)) (aL (jV (qv 12) (oV (hu1 hr) (aK (hu1 hr) (qv 9) (aD) (fun _ _=>rfl)) (aK (hu1 hr) (qv 12) (aD) (fun _ _=>rfl))))))
   (aE (jI PassesOwn.never rfl (fM (eR (bR cO (eR (qv 1) (eO (aD)) (eO (aD))) (eR (qv 1) (eO (aD)) (eO (aD)))) (gW) (eO (bR cO (aD) (bR lY (aD) (qv 10)))))) (cV (i:=13) sc.nd rfl (by first|exact Or.inl rfl|exact Or.inr rfl)) (aE (gK (iV PySem.F.plainAttrs_list PySem.F.slot_list_append PySem.F.type_list_append gO (aK (hu1 hr) (qv 9) (aD) (fun _ _=>rfl)) (aA (aQ (aA (qv 13) (aA (eF gM (by rfl) T.b_tuple (by decide +kernel) (aA (gG (xs:=["_law_j"]) (x:="_law_j") hX rfl (jH rfl T.b_range (aA (aH (aR R T) (hr.mono (by omega)) rfl R.d14.m R.d14.k R.d14.b pass0 (aA (qv 0) (aA (aD) (aB)))) (aB))) (fX (cn:=["_law_book_here","_law_state"]) (caps:=[9,0]) [(".0", .local),("_law_j", .local),("_law_next", .globalImplicit),("_law_book_here", .cell),("_law_state", .cell)] rfl (by decide +kernel) rfl (by decide +kernel) rfl (by decide +kernel) rfl rfl (List.forall_mem_cons.mpr ⟨rfl,List.forall_mem_cons.mpr ⟨rfl,fun _ h=>nomatch h⟩⟩) (by intro yk h;repeat (first|(rcases List.mem_cons.mp h with h|h;(subst h;intro hk;first|exact⟨_,rfl⟩|(rcases hk with hk|hk<;>cases hk)))|exact absurd h (by simp))) (List.forall_mem_cons.mpr ⟨⟨rfl,(by first|exact Or.inl rfl|exact Or.inr (Or.inl rfl)|exact Or.inr (Or.inr rfl)),(by first|exact Or.inl rfl|exact Or.inr rfl),(by first|exact Or.inl rfl|exact Or.inr rfl)⟩,List.forall_mem_cons.mpr ⟨⟨rfl,(by first|exact Or.inl rfl|exact Or.inr (Or.inl rfl)|exact Or.inr (Or.inr rfl)),(by first|exact Or.inl rfl|exact Or.inr rfl),(by first|exact Or.inl rfl|exact Or.inr rfl)⟩,fun _ h=>nomatch h⟩⟩)) (fun C ex s' H'=>pgc (i:=0) (by decide +kernel) rfl rfl) (fun C ex s' H'=>gP) (fun C ex s' H'=>aK (hu1 hr) (aK (hu1 hr) (qv 1) (aD) (fun _ _=>rfl)) (aH (aR R T) (hr.mono (by omega)) rfl R.d14.m R.d14.k R.d14.b pass0 (aA (qv 2) (aA (aD) (aB)))) (fun _ _=>rfl))) (aB))) (aB)))) (aB))))
   (aL (gK (iV PySem.F.plainAttrs_list PySem.F.slot_list_append PySem.F.type_list_append gO (qv 8) (aA (bR cO (aQ (aA (bP) (aB))) (aK (hu1 hr) (aK (hu1 hr) (qv 9) (aD) (fun _ _=>rfl)) (vF qO (aD)) (fun _ _=>rfl))) (aB)))))))
   (aL (bG (qv 9))))))))))))))))
theorem nJ:FnScope ["_law_state","_law_letters","_law_stem","_law_k","_law_turn","_law_some","_law_at","_law_names_here"] ["_law_state"] (defScope (top 15)):=⟨rfl,rfl,rfl,by decide +kernel,rfl,by decide +kernel,by decide +kernel⟩
theorem rR(R:Reg K mg)(T:Txt K mg):FnOk P w K mg base CX0 2 R.f15 R.g15 ["_law_state"] (LF K iZ):=by
  have sc:=nJ
  exact jE (k:=1) (N:=["_law_state","_law_letters","_law_stem","_law_k","_law_turn","_law_some","_law_at","_law_names_here"]) (ts:=kB) R.d15.F nJ fun cdv A outer s H E hr=>aE (aY (i:=1) sc.nd rfl (by first|exact Or.inl rfl|exact Or.inr rfl) (bP))
   (aE (aY (i:=2) sc.nd rfl (by first|exact Or.inl rfl|exact Or.inr rfl) (bP))
   (aE (jI PassesOwn.never rfl (jH rfl T.b_range (aA (aH (aR R T) (hr.mono (by omega)) rfl R.d14.m R.d14.k R.d14.b pass0 (aA (qv 0) (aA (aD) (aB)))) (aB))) (cV (i:=3) sc.nd rfl (by first|exact Or.inl rfl|exact Or.inr rfl)) (aL (aY (i:=2) sc.nd rfl (by first|exact Or.inl rfl|exact Or.inr rfl) (bR cO (qv 2) (aK (hu1 hr) (qv 1) (aH (aR R T) (hr.mono (by omega)) rfl R.d14.m R.d14.k R.d14.b pass0 (aA (qv 0) (aA (aD) (aB)))) (fun _ _=>rfl))))))
   (aE (aY (i:=4) sc.nd rfl (by first|exact Or.inl rfl|exact Or.inr rfl) (aH (aR R T) (hr.mono (by omega)) rfl R.d14.m R.d14.k R.d14.b pass0 (aA (qv 0) (aA (aD) (aB)))))
   (aE (aY (i:=5) sc.nd rfl (by first|exact Or.inl rfl|exact Or.inr rfl) (gG (xs:=["_law_k"]) (x:="_law_k") hX rfl (jH rfl T.b_range (aA (aD) (aB))) (fX (cn:=["_law_letters","_law_turn"]) (caps:=[1,4]) [(".0", .local),("_law_k", .local),("_law_letters", .cell),("_law_turn", .cell)] rfl (by decide +kernel) rfl (by decide +kernel) rfl (by decide +kernel) rfl rfl (List.forall_mem_cons.mpr ⟨rfl,List.forall_mem_cons.mpr ⟨rfl,fun _ h=>nomatch h⟩⟩) (by intro yk h;repeat (first|(rcases List.mem_cons.mp h with h|h;(subst h;intro hk;first|exact⟨_,rfl⟩|(rcases hk with hk|hk<;>cases hk)))|exact absurd h (by simp))) (List.forall_mem_cons.mpr ⟨⟨rfl,(by first|exact Or.inl rfl|exact Or.inr (Or.inl rfl)|exact Or.inr (Or.inr rfl)),(by first|exact Or.inl rfl|exact Or.inr rfl),(by first|exact Or.inl rfl|exact Or.inr rfl)⟩,List.forall_mem_cons.mpr ⟨⟨rfl,(by first|exact Or.inl rfl|exact Or.inr (Or.inl rfl)|exact Or.inr (Or.inr rfl)),(by first|exact Or.inl rfl|exact Or.inr rfl),(by first|exact Or.inl rfl|exact Or.inr rfl)⟩,fun _ h=>nomatch h⟩⟩)) (fun C ex s' H'=>pgc (i:=0) (by decide +kernel) rfl rfl) (fun C ex s' H'=>gP) (fun C ex s' H'=>aK (hu1 hr) (qv 1) (bR lX (bR cO (qv 2) (bR lY (aD) (qv 0))) (aD)) (fun _ _=>rfl))))
   (aE (aY (i:=6) sc.nd rfl (by first|exact Or.inl rfl|exact Or.inr rfl) (aH (aR R T) (hr.mono (by omega)) rfl R.d14.m R.d14.k R.d14.b pass0 (aA (qv 0) (aA (bR cO (eG jF (by rfl) T.b_len (by decide +kernel) (aA (qv 2) (aB))) (aD)) (aB)))))
   (aE (lM (i:=7) (xs:=["_law_sign"]) (x:="_law_sign") hX sc.nd rfl (by first|exact Or.inl rfl|exact Or.inr rfl) rfl (fM (qv 5)) (fX (cn:=["_law_at","_law_stem"]) (caps:=[6,2]) [(".0", .local),("_law_sign", .local),("_law_at", .cell),("_law_stem", .cell)] rfl (by decide +kernel) rfl (by decide +kernel) rfl (by decide +kernel) rfl rfl (List.forall_mem_cons.mpr ⟨rfl,List.forall_mem_cons.mpr ⟨rfl,fun _ h=>nomatch h⟩⟩) (by intro yk h;repeat (first|(rcases List.mem_cons.mp h with h|h;(subst h;intro hk;first|exact⟨_,rfl⟩|(rcases hk with hk|hk<;>cases hk)))|exact absurd h (by simp))) (List.forall_mem_cons.mpr ⟨⟨rfl,(by first|exact Or.inl rfl|exact Or.inr (Or.inl rfl)|exact Or.inr (Or.inr rfl)),(by first|exact Or.inl rfl|exact Or.inr rfl),(by first|exact Or.inl rfl|exact Or.inr rfl)⟩,List.forall_mem_cons.mpr ⟨⟨rfl,(by first|exact Or.inl rfl|exact Or.inr (Or.inl rfl)|exact Or.inr (Or.inr rfl)),(by first|exact Or.inl rfl|exact Or.inr rfl),(by first|exact Or.inl rfl|exact Or.inr rfl)⟩,fun _ h=>nomatch h⟩⟩)) (fun C ex s' H'=>pgc (i:=0) (by decide +kernel) rfl rfl) (fun C ex s' H'=>gP) (fun C ex s' H'=>bR cO (bR cO (eR (qv 2) (gW) (eO (qv 1))) (qv 0)) (eR (qv 2) (eO (qv 1)) (gW))))
   (aE (eP (bH (eY (hu60' hr)) (aH (aR R T) (hr.mono (by omega)) rfl R.d14.m R.d14.k R.d14.b pass0 (aA (qv 0) (aA (aD) (aB)))) (aD) (nomark _)) (aL (lM (i:=7) (xs:=["_law_k"]) (x:="_law_k") hX sc.nd rfl (by first|exact Or.inl rfl|exact Or.inr rfl) rfl (jH rfl T.b_range (aA (aD) (aB))) (fX (cn:=["_law_some","_law_stem"]) (caps:=[5,2]) [(".0", .local),("_law_k", .local),("len", .globalImplicit),("_law_some", .cell),("_law_stem", .cell)] rfl (by decide +kernel) rfl (by decide +kernel) rfl (by decide +kernel) rfl rfl (List.forall_mem_cons.mpr ⟨rfl,List.forall_mem_cons.mpr ⟨rfl,fun _ h=>nomatch h⟩⟩) (by intro yk h;repeat (first|(rcases List.mem_cons.mp h with h|h;(subst h;intro hk;first|exact⟨_,rfl⟩|(rcases hk with hk|hk<;>cases hk)))|exact absurd h (by simp))) (List.forall_mem_cons.mpr ⟨⟨rfl,(by first|exact Or.inl rfl|exact Or.inr (Or.inl rfl)|exact Or.inr (Or.inr rfl)),(by first|exact Or.inl rfl|exact Or.inr rfl),(by first|exact Or.inl rfl|exact Or.inr rfl)⟩,List.forall_mem_cons.mpr ⟨⟨rfl,(by first|exact Or.inl rfl|exact Or.inr (Or.inl rfl)|exact Or.inr (Or.inr rfl)),(by first|exact Or.inl rfl|exact Or.inr rfl),(by first|exact Or.inl rfl|exact Or.inr rfl)⟩,fun _ h=>nomatch h⟩⟩)) (fun C ex s' H'=>pgc (i:=0) (by decide +kernel) rfl rfl) (fun C ex s' H'=>gP) (fun C ex s' H'=>bR cO (aK (hu1 hr) (qv 1) (qv 0) (fun _ _=>rfl)) (eR (qv 2) (gW) (eO (bR lX (qv 0) (bR cO (eG jF (by rfl) T.b_len (by decide +kernel) (aA (qv 2) (aB))) (aD)))))))) (bS))
   (aL (bG (bR cO (qv 7) (gG (xs:=["_law_name"]) (x:="_law_name") hX rfl (fM (qv 7)) (caps0 (by decide +kernel) (by decide +kernel) rfl (by decide +kernel) rfl) (fun C ex s' H'=>pgc (i:=0) (by decide +kernel) rfl rfl) (fun C ex s' H'=>gP) (fun C ex s' H'=>bR cO (bR cO (eR (qv 0) (gW) (eO (aD))) (bP)) (eR (qv 0) (eO (aD)) (gW))))))))))))))
theorem nK:FnScope ["_law_script","_law_seed","_law_cell","_law_first"] ["_law_script"] (defScope (top 13)):=⟨rfl,rfl,rfl,by decide +kernel,rfl,by decide +kernel,by decide +kernel⟩
theorem rS(R:Reg K mg)(T:Txt K mg):FnOk P w K mg base CX0 1 R.f13 R.g13 ["_law_script"] (LF K gZ):=by
  have sc:=nK
  exact jE (k:=0) (N:=["_law_script","_law_seed","_law_cell","_law_first"]) (ts:=jA) R.d13.F nK fun cdv A outer s H E hr=>aE (aY (i:=1) sc.nd rfl (by first|exact Or.inl rfl|exact Or.inr rfl) (bR cO (eG jF (by rfl) T.b_len (by decide +kernel) (aA (qv 0) (aB))) (aD)))
   (aE (jI PassesOwn.never rfl (fM (qv 0)) (cV (i:=2) sc.nd rfl (by first|exact Or.inl rfl|exact Or.inr rfl)) (aL (aY (i:=1) sc.nd rfl (by first|exact Or.inl rfl|exact Or.inr rfl) (bR lX (bR cO (bR cO (bR lY (qv 1) (aD)) (bR lX (qv 2) (bR aEW (aD) (aD)))) (aD)) (aD)))))
   (aE (aY (i:=3) sc.nd rfl (by first|exact Or.inl rfl|exact Or.inr rfl) (aD))
   (aE (eP (qN (oP (bH aDO (eG jF (by rfl) T.b_len (by decide +kernel) (aA (qv 0) (aB))) (aD) (nomark _)) (pY (bH (eY (hu60' hr)) (bR lX (aK (hu1 hr) (qv 0) (vF qO (aD)) (fun _ _=>rfl)) (aD)) (aD) (nomark _))))) (aL (aY (i:=3) sc.nd rfl (by first|exact Or.inl rfl|exact Or.inr rfl) (bR yA (eG aFa (by rfl) T.b_abs (by decide +kernel) (aA (aK (hu1 hr) (qv 0) (vF qO (aD)) (fun _ _=>rfl)) (aB))) (aD)))) (bS))
   (aL (bG (eQ (aA (qv 1) (aA (qv 3) (aB)))))))))
theorem aCk:FnScope ["_law_script","_law_state","_law_names_here","_law_book_here","_law_kind","_law_things","_law_t","_law_u","_law_told"] ["_law_script"] (defScope (top 33)):=⟨rfl,rfl,rfl,by decide +kernel,rfl,by decide +kernel,by decide +kernel⟩
theorem aFT(R:Reg K mg)(T:Txt K mg):FnOk P w K mg base CX0 18 R.f33 R.g33 ["_law_script"] (LF K sQ):=by
  have sc:=aCk
  exact jE (k:=17) (N:=["_law_script","_law_state","_law_names_here","_law_book_here","_law_kind","_law_things","_law_t","_law_u","_law_told"]) (ts:=yG) R.d33.F aCk fun cdv A outer s H E hr=>aE (aY (i:=1) sc.nd rfl (by first|exact Or.inl rfl|exact Or.inr rfl) (aH (rS R T) (hr.mono (by omega)) rfl R.d13.m R.d13.k R.d13.b pass0 (aA (qv 0) (aB))))
   (aE (aY (i:=2) sc.nd rfl (by first|exact Or.inl rfl|exact Or.inr rfl) (aH (rR R T) (hr.mono (by omega)) rfl R.d15.m R.d15.k R.d15.b pass0 (aA (qv 1) (aB))))
   (aE (aY (i:=3) sc.nd rfl (by first|exact Or.inl rfl|exact Or.inr rfl) (aH (uL R T) (hr.mono (by omega)) rfl R.d20.m R.d20.k R.d20.b pass0 (aA (qv 1) (aA (qv 2) (aB)))))
   (aE (aY (i:=4) sc.nd rfl (by first|exact Or.inl rfl|exact Or.inr rfl) (aK (hu1 hr) (aK (hu1 hr) (qv 3) (aD) (fun _ _=>rfl)) (aH (aR R T) (hr.mono (by omega)) rfl R.d14.m R.d14.k R.d14.b pass0 (aA (qv 1) (aA (aD) (aB)))) (fun _ _=>rfl)))
   (aE (aY (i:=5) sc.nd rfl (by first|exact Or.inl rfl|exact Or.inr rfl) (eQ (aA (aQ (aA (aK (hu1 hr) (qv 2) (aD) (fun _ _=>rfl)) (aA (qv 4) (aB)))) (aA (aQ (aA (aK (hu1 hr) (qv 2) (aD) (fun _ _=>rfl)) (aA (aK (hu1 hr) (aK (hu1 hr) (qv 3) (aD) (fun _ _=>rfl)) (aH (aR R T) (hr.mono (by omega)) rfl R.d14.m R.d14.k R.d14.b pass0 (aA (qv 1) (aA (aD) (aB)))) (fun _ _=>rfl)) (aB)))) (aB)))))
   (aE (aY (i:=6) sc.nd rfl (by first|exact Or.inl rfl|exact Or.inr rfl) (aH (gH R T 5) (hr.mono (by omega)) rfl R.d18.m R.d18.k R.d18.b pass0 (aA (qv 1) (aA (qv 3) (aA (qv 4) (aA (qv 5) (aA (eQ (aB)) (aA (bR cO (aD) (aH (aR R T) (hr.mono (by omega)) rfl R.d14.m R.d14.k R.d14.b pass0 (aA (qv 1) (aA (aD) (aB))))) (aA (lW) (aB))))))))))
   (aE (aY (i:=7) sc.nd rfl (by first|exact Or.inl rfl|exact Or.inr rfl) (aH (gH R T 5) (hr.mono (by omega)) rfl R.d18.m R.d18.k R.d18.b pass0 (aA (qv 1) (aA (qv 3) (aA (qv 4) (aA (qv 5) (aA (eQ (aB)) (aA (aD) (aA (lW) (aB))))))))))
   (aE (eP (bH (eY (hu60' hr)) (aH (aR R T) (hr.mono (by omega)) rfl R.d14.m R.d14.k R.d14.b pass0 (aA (qv 1) (aA (aD) (aB)))) (aD) (nomark _)) (aL (aY (i:=7) sc.nd rfl (by first|exact Or.inl rfl|exact Or.inr rfl) (aH (jW R T 14) (hr.mono (by omega)) rfl R.d22.m R.d22.k R.d22.b pass0 (aA (qv 7) (aA (aK (hu1 hr) (qv 2) (aD) (fun _ _=>rfl)) (aA (qv 6) (aB))))))) (bS))
   (aE (aY (i:=8) sc.nd rfl (by first|exact Or.inl rfl|exact Or.inr rfl) (aH (rP R T) (hr.mono (by omega)) rfl R.d31.m R.d31.k R.d31.b pass0 (aA (qv 1) (aA (qv 3) (aA (qv 5) (aA (aK (hu1 hr) (qv 2) (aD) (fun _ _=>rfl)) (aA (qv 4) (aA (qv 6) (aA (qv 7) (aB))))))))))
   (aL (bG (aBh (aH (kY R T) (hr.mono (by omega)) rfl R.d32.m R.d32.k R.d32.b pass0 (aA (qv 8) (aA (qv 6) (aA (qv 7) (aB))))) (aBh (aH (kY R T) (hr.mono (by omega)) rfl R.d32.m R.d32.k R.d32.b pass0 (aA (qv 8) (aA (qv 7) (aA (qv 6) (aB))))) (aEV (aH (kY R T) (hr.mono (by omega)) rfl R.d32.m R.d32.k R.d32.b pass0 (aA (qv 8) (aA (aQ (aA (bP) (aA (aK (hu1 hr) (qv 2) (aD) (fun _ _=>rfl)) (aB)))) (aA (qv 7) (aB))))))))))))))))))
end
end K61
end
section
namespace K61
open PySem PySem.W L2 PyProof.Rows
theorem xO{α β:Type}{l:List α}{f g:α→β}(h:l.map f=l.map g){x:α}(m:x∈l):f x=g x:=List.map_inj_left.mp h x m
theorem fnd{K:Frag}(h:yf K=yv)(x:Str)(i:Nat)(m:(x,i)∈fns):Fnd K x (top i):=aFi (xO (l:=fns) (f:=fun p=>fnAt K p.1) (g:=fun p=>fnWant p.1 (top p.2)) (congrArg Prod.fst h) m)
theorem tup{K:Frag}{hp:Heap}{mg:Str→Option Value}(X:K.In hp)(G:hp.Ns mainGlobals mg)(h:yf K=yv)(x:Str)(ws:List Str)(m:(x,ws)∈tps):∃ a,mg x=some (.ref a)∧∀ H,SqT K H a (ws.map V.str):=aFj X G (xO (l:=tps) (f:=fun p=>tupAt K p.1) (g:=fun p=>some p.2) (congrArg (fun y=>y.2.1) h) m)
theorem bl{K:Frag}{hp:Heap}{mg:Str→Option Value}(X:K.In hp)(G:hp.Ns mainGlobals mg)(h:yf K=yv)(x:Str)(m:x∈bls):mg x=none:=mg_none_of X G (xO (l:=bls) (f:=fun x=>nsIn K mainGlobals x) (g:=fun _=>some none) (congrArg (fun y=>y.2.2) h) m)
theorem at_{α:Type}{l:List α}{x:α}(i:Nat)(h:l[i]?=some x:=by rfl):x∈l:=List.mem_of_getElem? h
theorem all_mk{l:OpenLaw}{w:World}{K:Frag}{h:Heap}{mg:Str→Option Value}{fa:Addr}(Y:yf K=yv)(X:K.In h)(G:h.Ns mainGlobals mg)(hfa:mg (recOf (top 33)).name=some (.ref fa)):
  ∃ fd:FuncData,(∀ (s:Shared) (v:Value),BindsTo s fd ⟨[v],[]⟩ [("_law_script",v)])∧∀ base:Heap,K.In base→base.Ns mainGlobals mg→FnOk l.prog w K mg base CX0 18 fa fd ["_law_script"] (LF K sQ):=by
 obtain⟨f,od,an,sl,oc,kV,dc,pm,cd,ct,a0,l0,c0,k0⟩:=(fnd Y "law" 33 (at_ 27)).ex
 have e:=hfa.symm.trans (mg_of X G a0)
 cases e
 have F:=aAR (st:=top 33) l0 c0 k0
 have D33:Def K mg "law" (top 33) ["_law_script"] _ _:=⟨F,F.binds fun _ _ _ _ _ _ us hl=>match us,hl with |[_],_=>rfl,mg_of X G a0,k0⟩
 obtain⟨f4,fd4,D4⟩:=Fnd.def (ps:=["thing"]) X G (fnd Y "parts_of" 4 (at_ 0)) fun _ _ _ _ _ _ us hl=>match us,hl with |[_],_=>rfl
 obtain⟨f6,fd6,D6⟩:=Fnd.def (ps:=["thing"]) X G (fnd Y "head_of" 6 (at_ 1)) fun _ _ _ _ _ _ us hl=>match us,hl with |[_],_=>rfl
 obtain⟨f7,fd7,D7⟩:=Fnd.def (ps:=["one","other"]) X G (fnd Y "alike" 7 (at_ 2)) fun _ _ _ _ _ _ us hl=>match us,hl with |[_,_],_=>rfl
 obtain⟨f10,fd10,D10⟩:=Fnd.def (ps:=["A","t"]) X G (fnd Y "ways_to" 10 (at_ 3)) fun _ _ _ _ _ _ us hl=>match us,hl with |[_,_],_=>rfl
 obtain⟨f5,fd5,D5⟩:=Fnd.def (ps:=["thing","parts"]) X G (fnd Y "with_parts" 5 (at_ 4)) fun _ _ _ _ _ _ us hl=>match us,hl with |[_,_],_=>rfl
 obtain⟨f8,fd8,D8⟩:=Fnd.def (ps:=["t","place","u"]) X G (fnd Y "with_place" 8 (at_ 5)) fun _ _ _ _ _ _ us hl=>match us,hl with |[_,_,_],_=>rfl
 obtain⟨f11,fd11,D11⟩:=Fnd.def (ps:=["A","t","u"]) X G (fnd Y "walk" 11 (at_ 6)) fun _ _ _ _ _ _ us hl=>match us,hl with |[_,_,_],_=>rfl
 obtain⟨f23,fd23,D23⟩:=Fnd.def (ps:=["_law_t"]) X G (fnd Y "_law_args" 23 (at_ 7)) fun _ _ _ _ _ _ us hl=>match us,hl with |[_],_=>rfl
 obtain⟨f26,fd26,D26⟩:=Fnd.def (ps:=["_law_t","_law_one","_law_place"]) X G (fnd Y "_law_spots" 26 (at_ 8)) fun _ _ _ _ _ _ us hl=>match us,hl with |[_,_,_],_=>rfl
 obtain⟨f25,fd25,D25⟩:=Fnd.def (ps:=["_law_told","_law_terms_here"]) X G (fnd Y "_law_with" 25 (at_ 9)) fun _ _ _ _ _ _ us hl=>match us,hl with |[_,_],_=>rfl
 obtain⟨f27,fd27,D27⟩:=Fnd.def (ps:=["_law_t","_law_place","_law_u"]) X G (fnd Y "_law_set" 27 (at_ 10)) fun _ _ _ _ _ _ us hl=>match us,hl with |[_,_,_],_=>rfl
 obtain⟨f24,fd24,D24⟩:=Fnd.def (ps:=["_law_told"]) X G (fnd Y "_law_terms" 24 (at_ 11)) fun _ _ _ _ _ _ us hl=>match us,hl with |[_],_=>rfl
 obtain⟨f28,fd28,D28⟩:=Fnd.def (ps:=["_law_told","_law_t","_law_u"]) X G (fnd Y "_law_walk" 28 (at_ 12)) fun _ _ _ _ _ _ us hl=>match us,hl with |[_,_,_],_=>rfl
 obtain⟨f32,fd32,D32⟩:=Fnd.def (ps:=["_law_told","_law_t","_law_u"]) X G (fnd Y "_law_asked" 32 (at_ 13)) fun _ _ _ _ _ _ us hl=>match us,hl with |[_,_,_],_=>rfl
 obtain⟨f30,fd30,D30⟩:=Fnd.def (ps:=["_law_told","_law_t"]) X G (fnd Y "_law_places" 30 (at_ 14)) fun _ _ _ _ _ _ us hl=>match us,hl with |[_,_],_=>rfl
 obtain⟨f29,fd29,D29⟩:=Fnd.def (ps:=["_law_t"]) X G (fnd Y "_law_nodes" 29 (at_ 15)) fun _ _ _ _ _ _ us hl=>match us,hl with |[_],_=>rfl
 obtain⟨f14,fd14,D14⟩:=Fnd.def (ps:=["_law_state","_law_many"]) X G (fnd Y "_law_next" 14 (at_ 16)) fun _ _ _ _ _ _ us hl=>match us,hl with |[_,_],_=>rfl
 obtain⟨f17,fd17,D17⟩:=Fnd.def (ps:=["_law_book_here","_law_kind"]) X G (fnd Y "_law_least" 17 (at_ 17)) fun _ _ _ _ _ _ us hl=>match us,hl with |[_,_],_=>rfl
 obtain⟨f18,fd18,D18⟩:=Fnd.def (ps:=["_law_state","_law_book_here","_law_kind","_law_things","_law_inner","_law_room","_law_own"]) X G (fnd Y "_law_term" 18 (at_ 18)) fun _ _ _ _ _ _ us hl=>match us,hl with |[_,_,_,_,_,_,_],_=>rfl
 obtain⟨f21,fd21,D21⟩:=Fnd.def (ps:=["_law_state","_law_book_here","_law_things","_law_inner","_law_room"]) X G (fnd Y "_law_said" 21 (at_ 19)) fun _ _ _ _ _ _ us hl=>match us,hl with |[_,_,_,_,_],_=>rfl
 obtain⟨f22,fd22,D22⟩:=Fnd.def (ps:=["_law_thing","_law_x","_law_t"]) X G (fnd Y "_law_planted" 22 (at_ 20)) fun _ _ _ _ _ _ us hl=>match us,hl with |[_,_,_],_=>rfl
 obtain⟨f31,fd31,D31⟩:=Fnd.def (ps:=["_law_state","_law_book_here","_law_things","_law_x","_law_kind","_law_t","_law_u"]) X G (fnd Y "_law_drawn" 31 (at_ 21)) fun _ _ _ _ _ _ us hl=>match us,hl with |[_,_,_,_,_,_,_],_=>rfl
 obtain⟨f19,fd19,D19⟩:=Fnd.def (ps:=["_law_state","_law_book_here","_law_f"]) X G (fnd Y "_law_function" 19 (at_ 22)) fun _ _ _ _ _ _ us hl=>match us,hl with |[_,_,_],_=>rfl
 obtain⟨f16,fd16,D16⟩:=Fnd.def (ps:=["_law_name"]) X G (fnd Y "_law_great" 16 (at_ 23)) fun _ _ _ _ _ _ us hl=>match us,hl with |[_],_=>rfl
 obtain⟨f20,fd20,D20⟩:=Fnd.def (ps:=["_law_state","_law_names_here"]) X G (fnd Y "_law_book" 20 (at_ 24)) fun _ _ _ _ _ _ us hl=>match us,hl with |[_,_],_=>rfl
 obtain⟨f15,fd15,D15⟩:=Fnd.def (ps:=["_law_state"]) X G (fnd Y "_law_names" 15 (at_ 25)) fun _ _ _ _ _ _ us hl=>match us,hl with |[_],_=>rfl
 obtain⟨f13,fd13,D13⟩:=Fnd.def (ps:=["_law_script"]) X G (fnd Y "_law_begin" 13 (at_ 26)) fun _ _ _ _ _ _ us hl=>match us,hl with |[_],_=>rfl
 have T:Txt K mg:=⟨tup X G Y "ARGS_WORDS" ["form","call","atom"] (at_ 0),tup X G Y "BIND_WORDS" ["all","some"] (at_ 1),tup X G Y "PAIR_WORDS" ["same","and","or","if"] (at_ 2),bl X G Y "abs" (at_ 0),bl X G Y "divmod" (at_ 1),bl X G Y "enumerate" (at_ 2),bl X G Y "int" (at_ 3),bl X G Y "isinstance" (at_ 4),bl X G Y "len" (at_ 5),bl X G Y "list" (at_ 6),bl X G Y "min" (at_ 7),bl X G Y "range" (at_ 8),bl X G Y "reversed" (at_ 9),bl X G Y "sum" (at_ 10),bl X G Y "tuple" (at_ 11),bl X G Y "zip" (at_ 12)⟩
 let R:Reg K mg:=⟨_,_,D4,_,_,D6,_,_,D7,_,_,D10,_,_,D5,_,_,D8,_,_,D11,_,_,D23,_,_,D26,_,_,D25,_,_,D27,_,_,D24,_,_,D28,_,_,D32,_,_,D30,_,_,D29,_,_,D14,_,_,D17,_,_,D18,_,_,D21,_,_,D22,_,_,D31,_,_,D19,_,_,D16,_,_,D20,_,_,D15,_,_,D13,_,_,D33⟩
 exact⟨_,fun s v=>.of_eq rfl,fun base _ _=>aFT R T⟩
end K61
open PySem PySem.W
set_option maxRecDepth 100000 in
theorem PySem.Challenge.cw_tacticwright_k61_walks_told_holds : PySem.Challenge.rw_tacticwright_k61_walks_told.Holds := by
 exact L2.aCV (l:=PySem.Challenge.rw_tacticwright_k61_walks_told) (Good:=fun K=>K61.yf K=K61.yv) K61.said K61.left (fun _ h=>h) K61.hdef K61.hp (by kernel_rfl) (by kernel_rfl) K61.okk K61.hb K61.hw
  (L2.aCU (k:=18) (x:="_law_script") (f:=K61.sQ) (by kernel_rfl) (by kernel_rfl) ⟨rfl,by decide,by decide⟩ (fun K Y w mg fa h X G hfa=>K61.all_mk Y X G hfa) fun ns hl=>K61.aCi hl)
#print axioms PySem.Challenge.cw_tacticwright_k61_walks_told_holds
end
