import PyProof.Rows.All
import Wide.All
import OpenK.AllK
import Wide.FinOn
import PyProof.EqAt
import PyProof.EqKinds
import PyProof.NeKinds
import PyProof.TupleCall
import PyProof.StrLawsRepr
import KE.KIsAll
import KE.KItem
import KE.KDictOf
import KE.KBytesAny
import KE.KDictList
import Lean
import PySem.Challenge.RW_gapwork_k24_things_of_kinds
set_option Elab.async false
set_option linter.all false
set_option maxRecDepth 100000
namespace L2
open PySem PySem.Spec PyProof.Rows
abbrev Key:=Sum Int Str
def keyIs:Key->Value->Bool
 |.inl k,v=>Value.isInt k v
 |.inr x,v=>Value.isStrOf x v
def keyH(w:World):Key->Int
 |.inl k=>hashInt k
 |.inr x=>hashStr w x
theorem keyIs_shape:∀{k:Key}{v:Value},keyIs k v=true->(∃i t,k=Sum.inl i/\v=Value.int i t)\/(∃x t,k=Sum.inr x/\v=Value.str x t)
 |.inl i,v,h=>by
  obtain⟨t,e⟩:=Value.isInt_shape (k:=i) (v:=v) h
  exact .inl ⟨i,t,rfl,e⟩
 |.inr x,v,h=>by
  obtain⟨t,e⟩:=Value.isStrOf_shape (x:=x) (v:=v) h
  exact .inr ⟨x,t,rfl,e⟩
theorem keyIs_int(i:Int)(t:Tok):keyIs (.inl i) (.int i t)=true:=by simp[keyIs,Value.isInt]
theorem keyIs_str(x:Str)(t:Tok):keyIs (.inr x) (.str x t)=true:=by simp[keyIs,Value.isStrOf]
theorem key_ll(a b:Int):decide ((Sum.inl a:Key)=Sum.inl b)=(a == b):=by
 by_cases e:a=b
 ·subst e;simp
 ·have h:¬(Sum.inl a:Key)=Sum.inl b:=fun q=>e (Sum.inl.inj q)
  rw[decide_eq_false h]
  exact(beq_eq_false_iff_ne.mpr e).symm
theorem key_rr(a b:Str):decide ((Sum.inr a:Key)=Sum.inr b)=decide (a=b):=by
 by_cases e:a=b
 ·subst e;simp
 ·have h:¬(Sum.inr a:Key)=Sum.inr b:=fun q=>e (Sum.inr.inj q)
  rw[decide_eq_false h,decide_eq_false e]
theorem key_lr(a:Int)(b:Str):decide ((Sum.inl a:Key)=Sum.inr b)=false:=decide_eq_false (fun q=>nomatch q)
theorem key_rl(a:Str)(b:Int):decide ((Sum.inr a:Key)=Sum.inl b)=false:=decide_eq_false (fun q=>nomatch q)
def mixKind(prog:Program)(w:World):PySem.KeyKind prog w Key where
 is:=keyIs
 hash:=keyH w
 inj:=fun v a b ha hb=>by
  rcases keyIs_shape ha with⟨i,t,rfl,rfl⟩|⟨x,t,rfl,rfl⟩
  ·rcases keyIs_shape hb with⟨j,u,rfl,e⟩|⟨y,u,rfl,e⟩
   ·injection e with e1 _;rw[e1]
   ·exact nomatch e
  ·rcases keyIs_shape hb with⟨j,u,rfl,e⟩|⟨y,u,rfl,e⟩
   ·exact nomatch e
   ·injection e with e1 _;rw[e1]
 byValue:=fun k v h=>by
  rcases keyIs_shape h with⟨i,t,rfl,rfl⟩|⟨x,t,rfl,rfl⟩<;>rfl
 pyHash:=fun hv h=>by
  rcases keyIs_shape hv with⟨i,t,rfl,rfl⟩|⟨x,t,rfl,rfl⟩
  ·exact wpAny_pyHash_int h
  ·exact wpAny_pyHash_str h
 eqBool:=fun hu hv h=>by
  rcases keyIs_shape hu with⟨i,t,rfl,rfl⟩|⟨x,t,rfl,rfl⟩
  ·rcases keyIs_shape hv with⟨j,u,rfl,rfl⟩|⟨y,u,rfl,rfl⟩
   ·rw[key_ll]at h;exact wpAny_eqBool_int h
   ·rw[key_lr]at h;exact SeqAt.EqAt.int_str i t y u _ _ _ _ h
  ·rcases keyIs_shape hv with⟨j,u,rfl,rfl⟩|⟨y,u,rfl,rfl⟩
   ·rw[key_rl]at h;exact SeqAt.EqAt.str_int x t j u _ _ _ _ h
   ·rw[key_rr]at h;exact wpAny_eqBool_str h
 «strs»:=fun k x t v h=>by
  rcases keyIs_shape h with⟨i,u,rfl,e⟩|⟨y,u,rfl,e⟩
  ·exact nomatch e
  ·injection e with e1 _
   subst e1
   cases v<;>rfl
theorem mixKind_int(prog:Program)(w:World)(i:Int)(t:Tok):(mixKind prog w).is (.inl i) (.int i t)=true:=keyIs_int i t
theorem mixKind_str(prog:Program)(w:World)(x:Str)(t:Tok):(mixKind prog w).is (.inr x) (.str x t)=true:=keyIs_str x t
inductive V where
 |non|bl (b:Bool)|int (i:Int)|str (x:Str)|byt (b:Array UInt8)|flt (b:UInt64)|ref (a:Addr)|ty (n:String)
 deriving DecidableEq
def RelV:V->Value->Prop
 |.non,u=>u=Value.none
 |.bl b,u=>u=Value.bool b
 |.int i,u=>∃t,u=Value.int i t
 |.str x,u=>∃t,u=Value.str x t
 |.byt b,u=>∃t,u=Value.bytes b t
 |.flt b,u=>∃t,u=Value.float b t
 |.ref a,u=>u=Value.ref a
 |.ty n,u=>u=Value.type n
abbrev Vals:List V->List Value->Prop:=Paired RelV
theorem Vals.length{xs:List V}{us:List Value}(r:Vals xs us):xs.length=us.length:=Paired.length r
theorem Vals.get:∀{xs:List V}{us:List Value}{i:Nat}{x:V},Vals xs us->xs[i]?=some x->∃u,us[i]?=some u/\RelV x u
 |_,_,_,_,.nil,e=>by simp at e
 |_,_,0,_,.cons r _,e=>by simp at e;subst e;exact⟨_,rfl,r⟩
 |_,_,i+1,x,.cons _ t,e=>by
  obtain⟨u,h1,h2⟩:=Vals.get (i:=i) (x:=x) t (by simpa using e)
  exact⟨u,by simpa using h1,h2⟩
theorem Vals.set{x:V}{u:Value}(r:RelV x u):∀{xs:List V}{us:List Value}(i:Nat),Vals xs us->Vals (xs.set i x) (us.set i u)
 |_,_,_,.nil=>.nil
 |_,_,0,.cons _ t=>.cons r t
 |_,_,i+1,.cons q t=>.cons q (Vals.set r i t)
theorem Vals.append:∀{xs ys:List V}{us ws:List Value},Vals xs us->Vals ys ws->Vals (xs++ys) (us++ws)
 |_,_,_,_,.nil,s=>s
 |_,_,_,_,.cons r t,s=>.cons r (Vals.append t s)
theorem Vals.take:∀{xs:List V}{us:List Value}(n:Nat),Vals xs us->Vals (xs.take n) (us.take n)
 |_,_,0,_=>.nil
 |_,_,_+1,.nil=>.nil
 |_,_,n+1,.cons r t=>.cons r (Vals.take n t)
theorem Vals.drop:∀{xs:List V}{us:List Value}(n:Nat),Vals xs us->Vals (xs.drop n) (us.drop n)
 |_,_,0,r=>r
 |_,_,_+1,.nil=>.nil
 |_,_,n+1,.cons _ t=>Vals.drop n t
def RelO:Option V->Option Value->Prop
 |some v,some u=>RelV v u
 |none,none=>True
 |_,_=>False
def KV{κ:Type}:List (κ×V)->List (κ×Value)->Prop:=Paired fun(p:κ×V) (q:κ×Value)=>p.1=q.1/\RelV p.2 q.2
def kV:Key->V
 |.inl i=>.int i
 |.inr x=>.str x
inductive HO where
 /-- a list -/
 |lst (xs:List V)
 /-- a tuple (never changes) -/
 |tup (xs:List V)
 /-- a dict whose keys are ints and texts;one whose keys are tuples of ints and texts (the empty one is both) -/
 |dK (kvs:List (Key×V))|dT (kvs:List (List Key×V))
 /-- a set of ints: its members,its size -/
 |set (S:Int->Bool) (n:Nat)
 /-- an instance of the class at C,its dict at dx,its attributes -/
 |ins (C dx:Addr) (fs:List (Str×V))
 /-- the dict of the instance at x -/
 |own (x:Addr)
 /-- the dict of an exception -/
 |xd (fs:List (Str×V))
 /-- a bound method,f of x -/
 |met (f x:Addr)
 /-- a range object lo,lo+1,.. below hi -/
 |rng (lo hi:Int)
 /-- a thing that is known to the object (the script;a dict while a loop walks it): read,never written while it is so -/
 |frz (o:Obj) (u:HO)
 /-- a code object's table -/
 |tbl (ps:Array Value)
 /-- any other thing,by what is true of its one object (a def of one's own: SetO a S n:=HO.ext fun h=>..) -/
 |ext (φ:Heap->Prop)
abbrev Hp:=Addr->Option HO
def upd(H:Hp)(a:Addr)(o:HO):Hp:=fun b=>if b=a then some o else H b
theorem upd_same{H:Hp}{a:Addr}{o:HO}:upd H a o a=some o:=by unfold upd;rw[if_pos rfl]
theorem upd_ne{H:Hp}{a b:Addr}{o:HO}(h:b≠a):upd H a o b=H b:=by unfold upd;rw[if_neg h]
theorem ne_of{H:Hp}{a b:Addr}{o u:HO}(h:H a=some o)(h':H b=some u)(d:o≠u):a≠b:=by
 intro e;subst e;rw[h]at h';exact d (Option.some.inj h')
theorem ne_of_none{H:Hp}{a b:Addr}{o:HO}(h:H a=some o)(h':H b=none):a≠b:=by
 intro e;subst e;rw[h]at h';cases h'
section
variable (P:Program) (w:World)
def PlT(h:Heap)(a:Addr):Prop:=∃o,h.get? a=some o/\o.dict=none
def ObjOk(H:Hp)(h:Heap)(a:Addr):HO->Prop
 |.lst xs=>xs.length<=sizeLine/\∃(its:List Value) (n:Nat),Vals xs its/\h.get? a=some {cls:=.type "list",data:=.seq its.toArray n}
 |.tup xs=>xs.length<=sizeLine/\∃its:List Value,Vals xs its/\IsTup h a its.toArray/\PlT h a
 |.dK kvs=>kvs.length<=sizeLine/\(a == sysModules)=false/\∃vs,KV kvs vs/\h.DictOf (mixKind P w) a vs
 |.dT kvs=>kvs.length<=sizeLine/\(a == sysModules)=false/\∃xs:List (List Key×Addr×Value),
   Paired (fun(p:List Key×V) (q:List Key×Addr×Value)=>p.1=q.1/\H q.2.1=some (.tup (p.1.map kV))/\RelV p.2 q.2.2) kvs xs /\
   ∃o es ep,h.get? a=some o/\o.ExactDict/\o.data=.dict es ep/\es.toList=xs.map (entryOfKey (tupleKind (mixKind P w)))/\(xs.map (·.1)).Nodup
 |.set S n=>h.SetOf (intKind P w) a S n
 |.ins C dx fs=>H dx=some (.own a)/\fs.length<=1000/\dx≠a/\h.get? a=some (PySem.W.instObj C dx) /\
   ∃mA,h.Ns1 dx mA/\(∀f,RelO (fs.lookup f) (mA f))/\PySem.Within mA (fs.map (·.1))
 |.own _=>∃o,h.get? a=some o
 |.xd fs=>∃mA,h.Ns1 a mA/\∀f,RelO (fs.lookup f) (mA f)
 |.rng lo hi=>∃t u v,h.get? a=some {cls:=.type "range",data:=.fields #[.int lo t,.int hi u,.int 1 v]}
 |.frz o u=>h.get? a=some o/\ObjOk H h a u
 |.tbl ps=>h.get? a=some {cls:=.none,data:=.fields ps}
 |.met f x=>h.get? a=some (PySem.W.methodObj (.ref f) (.ref x))
 |.ext φ=>φ h/\(∃o,h.get? a=some o)/\∀h1 h2:Heap,φ h1->(∀o,h1.get? a=some o->h2.get? a=some o)->φ h2
def HOk(H:Hp)(h:Heap):Prop:=∀a o,H a=some o->ObjOk P w H h a o
end
section
variable {P:Program}{w:World}{H H':Hp}{h h':Heap}{a:Addr}{o:HO}
theorem ObjOk.lt(x:ObjOk P w H h a o):a<h.objs.size:=by
 cases o with
 |lst xs=>obtain⟨_,_,_,_,e⟩:=x;exact Heap.lt_size e
 |tup xs=>obtain⟨_,_,_,p,_⟩:=x;exact p.lt
 |dK kvs=>obtain⟨_,_,_,_,o,_,_,e,_⟩:=x;exact Heap.lt_size e
 |dT kvs=>obtain⟨_,_,_,_,o,_,_,e,_⟩:=x;exact Heap.lt_size e
 |set S n=>obtain⟨o,_,_,_,e,_⟩:=x;exact Heap.lt_size e
 |ins C dx fs=>obtain⟨_,_,_,e,_⟩:=x;exact Heap.lt_size e
 |own y=>obtain⟨_,e⟩:=x;exact Heap.lt_size e
 |xd fs=>obtain⟨_,⟨_,_,_,e,_⟩,_⟩:=x;exact Heap.lt_size e
 |rng lo hi=>obtain⟨_,_,_,e⟩:=x;exact Heap.lt_size e
 |frz ob u=>obtain⟨e,_⟩:=x;exact Heap.lt_size e
 |tbl ps=>exact Heap.lt_size (show h.get? a=some _ from x)
 |met f y=>exact Heap.lt_size (show h.get? a=some _ from x)
 |ext φ=>obtain⟨_,⟨_,e⟩,_⟩:=x;exact Heap.lt_size e
theorem Paired.mapP{α β:Type}{F G:α->β->Prop}:∀{l₁:List α}{l₂:List β},Paired F l₁ l₂->(∀a b,F a b->G a b)->Paired G l₁ l₂
 |_,_,.nil,_=>.nil
 |_,_,.cons r t,f=>.cons (f _ _ r) (Paired.mapP t f)
theorem Paired.imp'{α β:Type}{F G:α->β->Prop}(f:∀a b,F a b->G a b){l₁:List α}{l₂:List β}(r:Paired F l₁ l₂):Paired G l₁ l₂:=Paired.mapP r f
theorem ObjOk.stay(x:ObjOk P w H h a o)(k:∀b u,(b=a\/H b=some (.own a))->h.get? b=some u->h'.get? b=some u)
  (ho:∀b,H b=some (.own a)->H' b=some (.own a)) (ht:∀b xs,H b=some (.tup xs)->H' b=some (.tup xs)):ObjOk P w H' h' a o:=by
 induction o with
 |lst xs=>obtain⟨z,its,n,r,e⟩:=x;exact⟨z,its,n,r,k _ _ (.inl rfl) e⟩
 |tup xs=>obtain⟨z,its,r,⟨ob,e,c⟩,o2,e2,d2⟩:=x;exact⟨z,its,r,⟨ob,k _ _ (.inl rfl) e,c⟩,o2,k _ _ (.inl rfl) e2,d2⟩
 |dK kvs=>obtain⟨z,y,vs,r,ob,es,ep,e,c⟩:=x;exact⟨z,y,vs,r,ob,es,ep,k _ _ (.inl rfl) e,c⟩
 |dT kvs =>
  obtain⟨z,y,xs,r,ob,es,ep,e,c⟩:=x
  exact⟨z,y,xs,Paired.mapP r fun p q z=>⟨z.1,ht _ _ z.2.1,z.2.2⟩,ob,es,ep,k _ _ (.inl rfl) e,c⟩
 |set S n=>obtain⟨ob,es,ep,t,e,c⟩:=x;exact⟨ob,es,ep,t,k _ _ (.inl rfl) e,c⟩
 |ins C dx fs =>
  obtain⟨d,z,ne,e,mA,⟨od,es,ep,e2,c⟩,r⟩:=x
  exact⟨ho _ d,z,ne,k _ _ (.inl rfl) e,mA,⟨od,es,ep,k _ _ (.inr d) e2,c⟩,r⟩
 |own y=>obtain⟨ob,e⟩:=x;exact⟨ob,k _ _ (.inl rfl) e⟩
 |xd fs=>obtain⟨mA,⟨od,es,ep,e,c⟩,r⟩:=x;exact⟨mA,⟨od,es,ep,k _ _ (.inl rfl) e,c⟩,r⟩
 |rng lo hi=>obtain⟨t,u,v,e⟩:=x;exact⟨t,u,v,k _ _ (.inl rfl) e⟩
 |frz ob u ih=>obtain⟨e,q⟩:=x;exact⟨k _ _ (.inl rfl) e,ih q⟩
 |tbl ps =>
  have e:h.get? a=some {cls:=.none,data:=.fields ps}:=x
  show h'.get? a=some {cls:=.none,data:=.fields ps}
  exact k a _ (.inl rfl) e
 |met f y =>
  have e:h.get? a=some (PySem.W.methodObj (.ref f) (.ref y)):=x
  show h'.get? a=some (PySem.W.methodObj (.ref f) (.ref y))
  exact k a _ (.inl rfl) e
 |ext φ=>obtain⟨p,⟨o,e⟩,st⟩:=x;exact⟨st _ _ p fun o q=>k _ _ (.inl rfl) q,⟨o,k _ _ (.inl rfl) e⟩,st⟩
theorem HOk.lt(x:HOk P w H h)(e:H a=some o):a<h.objs.size:=(x a o e).lt
theorem HOk.fresh(x:HOk P w H h)(e:h.objs.size<=a):H a=none:=by
 cases q:H a with
 |none=>rfl
 |some u=>exact absurd (Nat.lt_of_lt_of_le (x.lt q) e) (Nat.lt_irrefl _)
theorem HOk.kept(x:HOk P w H h)(k:∀b u,h.get? b=some u->h'.get? b=some u):HOk P w H h':=fun a o e =>
 (x a o e).stay (fun b u _ q=>k b u q) (fun _ q=>q) fun _ _ q=>q
theorem HOk.laid(x:HOk P w H h)(k:∀b u,h.get? b=some u->h'.get? b=some u)(hp:h.objs.size<=a)(new:ObjOk P w (upd H a o) h' a o):HOk P w (upd H a o) h':=fun b u e=>by
 have hn:=x.fresh hp
 by_cases hb:b=a
 ·subst hb;rw[upd_same]at e;cases e;exact new
 ·rw[upd_ne hb]at e
  exact(x b u e).stay (fun c v _ q=>k c v q) (fun c q=>by rw[upd_ne (ne_of_none q hn)];exact q) fun c xs q=>by rw[upd_ne (ne_of_none q hn)];exact q
end
def Rd(H:Hp)(a:Addr)(u:HO):Prop:=H a=some u\/∃o,H a=some (.frz o u)
theorem Rd.ok{P:Program}{w:World}{H:Hp}{h:Heap}{a:Addr}{u:HO}(r:Rd H a u)(x:HOk P w H h):ObjOk P w H h a u:=by
 rcases r with r|⟨o,r⟩
 ·exact x a u r
 ·obtain⟨_,q⟩:=x a _ r
  exact q
def Mut:Option HO->Prop
 |some (.lst _)=>True
 |some (.dK _)=>True
 |some (.dT _)=>True
 |some (.set _ _)=>True
 |some (.ins _ _ _)=>True
 |some (.ext _)=>True
 |_=>False
section
variable {P:Program}{w:World}{H:Hp}{h h':Heap}{x e:Addr}{o':HO}
theorem HOk.write(ok:HOk P w H h)(mu:Mut (H x))(he:e=x\/H e=some (.own x))(k:∀b u,b≠e->h.get? b=some u->h'.get? b=some u)(heo:∃u,h'.get? e=some u)
  (new:ObjOk P w (upd H x o') h' x o'):HOk P w (upd H x o') h':=fun b u q=>by
 have nown:∀c y,H c=some (.own y)->c≠x:=fun c y r z=>by subst z;rw[r]at mu;exact mu
 have ntup:∀c xs,H c=some (.tup xs)->c≠x:=fun c xs r z=>by subst z;rw[r]at mu;exact mu
 by_cases hb:b=x
 ·subst hb;rw[upd_same]at q;cases q;exact new
 ·rw[upd_ne hb]at q
  by_cases hbe:b=e
  ·have q':H b=some (.own x):=by
    rcases he with z|z
    ·exact absurd (hbe.trans z) hb
    ·rw[hbe];exact z
   rw[q]at q';cases q'
   obtain⟨v,hv⟩:=heo
   exact⟨v,by rw[hbe];exact hv⟩
  ·refine(ok b u q).stay (fun c v hc r=>k c v ?_ r) (fun c r=>by rw[upd_ne (nown c b r)];exact r) fun c xs r=>by rw[upd_ne (ntup c xs r)];exact r
   rcases hc with rfl|hc
   ·exact hbe
   ·rintro rfl
    rcases he with z|z
    ·exact nown c b hc z
    ·rw[hc]at z;cases z;exact hb rfl
end
structure Un(fs ex:List Addr) (H H':Hp) (h h':Heap):Prop where
 keep:∀b o,h.get? b=some o->H b=none->b∉fs->b∉ex->h'.get? b=some o
 slot:∀b o,h.get? b=some o->H b=none->b∈fs->b∉ex->∃sl,h'.get? b=some {o with slots:=sl}
 free:∀b o,h.get? b=some o->H b=none->b∉ex->H' b=none
 there:∀b o,h.get? b=some o->b∉ex->∃o',h'.get? b=some o'
 tups:∀b xs,H b=some (.tup xs)->H' b=some (.tup xs)
 frzs:∀b o u,H b=some (.frz o u)->H' b=some (.frz o u)
 tbls:∀b ps,H b=some (.tbl ps)->∃more,H' b=some (.tbl (ps++more))
section
variable {fs fs' ex ex':List Addr}{H H1 H2:Hp}{h h1 h2 h':Heap}{a x e:Addr}{o:HO}
theorem Un.any(u:Un fs ex H H1 h h1){b:Addr}{ob:Obj}(q:h.get? b=some ob)(n:H b=none)(hx:b∉ex):∃sl,h1.get? b=some {ob with slots:=sl}:=by
 by_cases hb:b∈fs
 ·exact u.slot b ob q n hb hx
 ·exact⟨ob.slots,u.keep b ob q n hb hx⟩
theorem Un.trans(a:Un fs ex H H1 h h1)(b:Un fs ex H1 H2 h1 h2):Un fs ex H H2 h h2 where
 keep:=fun c ob q n hc hx=>b.keep c ob (a.keep c ob q n hc hx) (a.free c ob q n hx) hc hx
 slot:=fun c ob q n hc hx=>by
  obtain⟨sl,e1⟩:=a.slot c ob q n hc hx
  obtain⟨sl',e2⟩:=b.slot c _ e1 (a.free c ob q n hx) hc hx
  exact⟨sl',e2⟩
 free:=fun c ob q n hx=>by
  obtain⟨o',e1⟩:=a.there c ob q hx
  exact b.free c o' e1 (a.free c ob q n hx) hx
 there:=fun c ob q hx=>by
  obtain⟨o',e1⟩:=a.there c ob q hx
  exact b.there c o' e1 hx
 tups:=fun c xs q=>b.tups c xs (a.tups c xs q)
 frzs:=fun c ob xs q=>b.frzs c ob xs (a.frzs c ob xs q)
 tbls:=fun c ps q=>by
  obtain⟨m1,e1⟩:=a.tbls c ps q
  obtain⟨m2,e2⟩:=b.tbls c _ e1
  exact⟨m1++m2,by rw[e2,Array.append_assoc]⟩
theorem Un.kept(k:∀b u,h.get? b=some u->h'.get? b=some u):Un fs ex H H h h' :=
 ⟨fun b ob q _ _ _=>k b ob q,fun b ob q _ _ _=>⟨ob.slots,k b ob q⟩,fun _ _ _ n _=>n,fun b ob q _=>⟨ob,k b ob q⟩,fun _ _ q=>q,fun _ _ _ q=>q,fun _ ps q=>⟨#[],by rw[q];simp⟩⟩
theorem Un.refl:Un fs ex H H h h:=Un.kept fun _ _ q=>q
theorem Un.laid(k:∀b u,h.get? b=some u->h'.get? b=some u)(hp:h.objs.size<=a)(hn:H a=none):Un fs ex H (upd H a o) h h' where
 keep:=fun b u q _ _ _=>k b u q
 slot:=fun b u q _ _ _=>⟨u.slots,k b u q⟩
 free:=fun b u q n _=>by rw[upd_ne (Nat.ne_of_lt (Nat.lt_of_lt_of_le (Heap.lt_size q) hp))];exact n
 there:=fun b u q _=>⟨u,k b u q⟩
 tups:=fun b xs q=>by rw[upd_ne (ne_of_none q hn)];exact q
 frzs:=fun b u xs q=>by rw[upd_ne (ne_of_none q hn)];exact q
 tbls:=fun b ps q=>⟨#[],by rw[upd_ne (ne_of_none q hn),q];simp⟩
theorem Un.write(mu:Mut (H x))(he:e=x\/H e=some (.own x))(k:∀b u,b≠e->h.get? b=some u->h'.get? b=some u)(heo:∃u,h'.get? e=some u):Un fs ex H (upd H x o) h h':=by
 have hx:∀b,H b=none->b≠x:=fun b n z=>by subst z;rw[n]at mu;exact mu
 have hb:∀b,H b=none->b≠e:=fun b n z=>by
  subst z
  rcases he with r|r
  ·exact hx b n r
  ·rw[n]at r;cases r
 have hm:∀b u,H b=some u->¬Mut (some u)->b≠x:=fun b u q nm z=>by subst z;rw[q]at mu;exact nm mu
 refine⟨fun b u q n _ _=>k b u (hb b n) q,fun b u q n _ _=>⟨u.slots,k b u (hb b n) q⟩,fun b u q n _=>by rw[upd_ne (hx b n)];exact n,fun b u q _=>?_,
  fun b xs q=>by rw[upd_ne (hm b _ q fun z=>z)];exact q,fun b u xs q=>by rw[upd_ne (hm b _ q fun z=>z)];exact q,fun b ps q=>⟨#[],by rw[upd_ne (hm b _ q fun z=>z),q];simp⟩⟩
 by_cases hbe:b=e
 ·subst hbe;exact heo
 ·exact⟨u,k b u hbe q⟩
end
def trk(h:Heap)(H:Hp):List Addr:=(List.range h.objs.size).filter fun a=>(H a).isSome
def hidT(h:Heap)(H:Hp):Heap:=PySem.W.hideAll h (trk h H)
theorem hidT_size(h:Heap)(H:Hp):(hidT h H).objs.size=h.objs.size:=PySem.W.hideAll_size _ _
theorem hidT_get{h:Heap}{H:Hp}{b:Addr}{o:Obj}(e:h.get? b=some o)(n:H b=none):(hidT h H).get? b=some o :=
 PySem.W.hideAll_get _ e fun hm=>by
  have q:(H b).isSome=true:=(List.mem_filter.mp hm).2
  rw[n]at q;simp at q
theorem of_hidT{h:Heap}{H:Hp}{b:Addr}{o:Obj}(e:(hidT h H).get? b=some o):h.get? b=some o/\H b=none:=by
 have e':h.get? b=some o:=PySem.W.of_hideAll (trk h H) e
 refine⟨e',?_⟩
 cases q:H b with
 |none=>rfl
 |some x =>
  have hm:b∈trk h H:=List.mem_filter.mpr ⟨List.mem_range.mpr (Heap.lt_size e'),by simp[q]⟩
  have z:(hidT h H).get? b=none:=PySem.W.hideAll_none (trk h H) hm
  rw[z]at e;cases e
structure Mod(K:PySem.W.Frag) (mg:Str->Option Value) (base:Heap):Prop where
 kin:K.In base
 glob:base.Ns mainGlobals mg
 blt:∃mb,base.Ns builtinsNs mb/\∀x:Str,x≠"__name__"->mb x=bootBuiltins x
 nolimit:base.NoLimit
structure Cx where
 prog:Program
 w:World
 K:PySem.W.Frag
 mg:Str->Option Value
 base:Heap
 A:Around
 N:List Str
 s₀:Shared
 H₀:Hp
 env:Env
 outer:List Env
 stack:List Env
 ex:List Addr
 fn:Str->Bool
 calm:Bool
 pn:List (Addr×Obj)
 xe:Value->Shared->Prop
def frs(l:List Env):List Addr:=l.filterMap (·.frame)
abbrev Cx.fs(X:Cx):List Addr:=frs X.outer
def Vis(sc:Scope)(x:Str):Prop:=sc.names.lookup x=some .local\/sc.names.lookup x=some .cell\/sc.names.lookup x=some .free
def Loc(sc:Scope)(x:Str):Prop:=sc.names.lookup x=some .local\/sc.names.lookup x=some .cell
def Look(env:Env)(h:Heap)(m:Str->Option Value)(x:Str)(u:Value):Prop :=
 (env.kindOf x=some .local/\m x=some u)\/((env.kindOf x=some .cell\/env.kindOf x=some .free)/\∃c,env.cells.lookup x=some c/\h.IsCell c (some u))
structure Cx.Ok(X:Cx):Prop where
 mod:Mod X.K X.mg X.base
 kind:X.env.scope.kind=.function
 glob:X.env.globals=mainGlobals
 blt:X.env.builtins=builtinsNs
 above:X.s₀.heap.objs.size<=X.env.locals
 inj:∀x y c,X.env.cells.lookup x=some c->X.env.cells.lookup y=some c->x=y
 has:∀x,(X.env.kindOf x=some .cell\/X.env.kindOf x=some .free)->∃c,X.env.cells.lookup x=some c
 cab:∀x c,X.fn x=true->X.env.cells.lookup x=some c->X.s₀.heap.objs.size<=c
 hd:X.calm=true->X.A.handled=none
 frames:X.A.frames=some X.stack
 stk:X.stack=X.outer\/(X.stack=X.env::X.outer/\X.env.frame=some X.env.locals)
 exf:∀b∈X.ex,b≠X.env.locals/\∀x c,X.env.cells.lookup x=some c->c≠b
 bs:∀b o,X.base.get? b=some o->X.s₀.heap.get? b=some o/\X.H₀ b=none
 bsz:X.base.objs.size<=X.s₀.heap.objs.size
 noex:∀b o,X.base.get? b=some o->b∉X.ex
 exfs:∀b∈X.ex,b∉X.fs
 funs:X.s₀.heap.FunFrames X.base X.outer
 frf:∀b∈X.fs,X.H₀ b=none
structure Inv(X:Cx) (pins:List (Addr×Obj)) (σ:List (Option V)) (H:Hp) (s:Shared):Prop where
 ok:X.Ok
 os:s.os=X.s₀.os
 bare:AllBare s.gens
 base:Un X.fs X.ex X.H₀ H X.s₀.heap s.heap
 loc:∃m,s.heap.Ns X.env.locals m/\∀(i:Nat) (x:Str) (v:V),X.N[i]?=some x->σ[i]?=some (some v)->Vis X.env.scope x->∃u,RelV v u/\Look X.env s.heap m x u
 cell:∀x c,X.env.cells.lookup x=some c->∃v,s.heap.IsCell c v
 free:H X.env.locals=none
 freeC:∀x c,X.env.cells.lookup x=some c->H c=none
 pin:∀p∈X.pn++pins,s.heap.get? p.1=some p.2/\H p.1=none/\p.1≠X.env.locals/\p.1∉X.fs/\∀v,p.2.data≠.cell v
 hok:HOk X.prog X.w H s.heap
 len:σ.length=X.N.length
section
variable {X:Cx}{pins:List (Addr×Obj)}{σ:List (Option V)}{H H':Hp}{s:Shared}{h':Heap}
theorem Cx.Ok.nofr(ok:X.Ok){b:Addr}{o:Obj}(e:X.base.get? b=some o):b∉X.fs:=fun hb=>by
 have:=(ok.funs.mem hb).1
 rw[e]at this;cases this
theorem Inv.bs(I:Inv X pins σ H s):∀b o,X.base.get? b=some o->s.heap.get? b=some o/\H b=none:=fun b o e =>
 ⟨I.base.keep b o (I.ok.bs b o e).1 (I.ok.bs b o e).2 (I.ok.nofr e) (I.ok.noex b o e),I.base.free b o (I.ok.bs b o e).1 (I.ok.bs b o e).2 (I.ok.noex b o e)⟩
theorem Inv.bk(I:Inv X pins σ H s):∀b o,X.base.get? b=some o->s.heap.get? b=some o:=fun b o e=>(I.bs b o e).1
theorem Inv.mod(I:Inv X pins σ H s):Mod X.K X.mg X.base:=I.ok.mod
theorem Inv.kIn(I:Inv X pins σ H s):X.K.In s.heap:=I.ok.mod.kin.keeps I.bk
theorem Inv.fr(I:Inv X pins σ H s):∃m,Fr X.base X.env.locals s.heap m :=
 let⟨m,hn,_⟩:=I.loc
 ⟨m,hn,I.bk,Nat.le_trans I.ok.bsz I.ok.above⟩
theorem Inv.lt(I:Inv X pins σ H s):X.env.locals<s.heap.objs.size:=let⟨_,hn,_⟩:=I.loc;hn.lt
theorem Inv.sz(I:Inv X pins σ H s):X.s₀.heap.objs.size<=s.heap.objs.size:=Nat.le_trans I.ok.above (Nat.le_of_lt I.lt)
theorem Inv.nofs(I:Inv X pins σ H s){a:Addr}(h:s.heap.objs.size<=a):a∉X.fs:=fun hb=>by
 obtain⟨_,o,ho,_⟩:=I.ok.funs.mem hb
 exact absurd (Nat.lt_of_lt_of_le (Heap.lt_size ho) (Nat.le_trans I.sz h)) (Nat.lt_irrefl _)
theorem Inv.cne(I:Inv X pins σ H s):∀x c,X.env.cells.lookup x=some c->c≠X.env.locals:=fun x c e z=>by
 obtain⟨v,o,ho,hd⟩:=I.cell x c e
 obtain⟨m,⟨o',es,ep,ho',hd',_⟩,_⟩:=I.loc
 rw[z,ho']at ho;cases ho;rw[hd']at hd;cases hd
theorem Inv.funs(I:Inv X pins σ H s):s.heap.FunFrames X.base X.outer:=by
 have all:∀(l:List Env),(∀b∈frs l,b∈X.fs)->X.s₀.heap.FunFrames X.base l->s.heap.FunFrames X.base l:=by
  intro l
  induction l with
  |nil=>intro _ _;trivial
  |cons env r ih =>
   intro hs hl
   obtain⟨hk,⟨L,o,hf,hn,ho,hd⟩,hr⟩:=hl
   have hL:L∈X.fs:=hs L (by unfold frs;rw[List.filterMap_cons,hf];exact List.mem_cons_self)
   obtain⟨sl,e⟩:=I.base.slot L o ho (I.ok.frf L hL) hL fun z=>I.ok.exfs L z hL
   exact⟨hk,⟨L,_,hf,hn,e,hd⟩,ih (fun b hb=>hs b (by unfold frs;rw[List.filterMap_cons,hf];exact List.mem_cons_of_mem _ hb)) hr⟩
 exact all X.outer (fun _ hb=>hb) I.ok.funs
theorem Inv.stack(I:Inv X pins σ H s):s.heap.FunFrames X.base X.stack:=by
 rcases I.ok.stk with e|⟨e,hf⟩
 ·rw[e];exact I.funs
 ·rw[e]
  obtain⟨m,hn,_⟩:=I.loc
  refine .cons (by rw[I.ok.kind];decide) hf hn ?_ I.funs
  exact Heap.get?_none_of_le (Nat.le_trans I.ok.bsz I.ok.above)
theorem Inv.stkSub(I:Inv X pins σ H s):∀b∈frs X.stack,b∈X.env.locals::X.fs:=fun b hb=>by
 rcases I.ok.stk with e|⟨e,hf⟩
 ·rw[e]at hb;exact List.mem_cons_of_mem _ hb
 ·rw[e]at hb
  unfold frs at hb
  rw[List.filterMap_cons,hf]at hb
  exact hb
theorem Inv.stkFree(I:Inv X pins σ H s):∀b∈frs X.stack,H b=none:=fun b hb=>by
 rcases List.mem_cons.mp (I.stkSub b hb)with e|hb
 ·rw[e];exact I.free
 ·obtain⟨_,o,ho,_⟩:=I.ok.funs.mem hb
  exact I.base.free b o ho (I.ok.frf b hb) fun z=>I.ok.exfs b z hb
theorem Inv.step{g':Array GenState}{t':Nat}{d':Drawn}{ch:List Addr}(I:Inv X pins σ H s)
  (hch:∀b∈ch,(b∈X.ex\/X.s₀.heap.objs.size<=b)/\b≠X.env.locals/\(∀x c,X.env.cells.lookup x=some c->c≠b)/\∀p∈X.pn++pins,p.1≠b)
  (keep:∀b o,b≠X.env.locals->b∉X.fs->b∉ch->s.heap.get? b=some o->H b=none->h'.get? b=some o)
  (slot:∀b o,b≠X.env.locals->b∈X.fs->b∉ch->s.heap.get? b=some o->H b=none->∃sl,h'.get? b=some {o with slots:=sl}) (free:∀b o,b∉ch->s.heap.get? b=some o->H b=none->H' b=none)
  (there:∀b o,b∉ch->s.heap.get? b=some o->∃o',h'.get? b=some o')
  (tups:∀b xs,H b=some (.tup xs)->H' b=some (.tup xs)) (frzs:∀b o u,H b=some (.frz o u)->H' b=some (.frz o u)) (tbls:∀b ps,H b=some (.tbl ps)->∃more,H' b=some (.tbl (ps++more)))
  (ns:∀m,s.heap.Ns X.env.locals m->h'.Ns X.env.locals m) (hok:HOk X.prog X.w H' h') (hg:AllBare g') :
  Inv X pins σ H' {s with heap:=h',gens:=g',drawn:=d',toks:=t'}:=by
 have neL:∀b o,X.s₀.heap.get? b=some o->b≠X.env.locals:=fun b o e=>Nat.ne_of_lt (Nat.lt_of_lt_of_le (Heap.lt_size e) I.ok.above)
 have neC:∀b o,X.s₀.heap.get? b=some o->b∉X.ex->b∉ch:=fun b o e hx hb=>by
  rcases(hch b hb).1 with z|z
  ·exact hx z
  ·exact absurd (Nat.lt_of_lt_of_le (Heap.lt_size e) z) (Nat.lt_irrefl _)
 have cellK:∀x c,X.env.cells.lookup x=some c->∀v,s.heap.IsCell c v->h'.IsCell c v:=fun x c e v ⟨o,ho,hd⟩=>by
  have nch:c∉ch:=fun z=>(hch c z).2.2.1 x c e rfl
  by_cases hc:c∈X.fs
  ·obtain⟨sl,q⟩:=slot c o (I.cne x c e) hc nch ho (I.freeC x c e)
   exact⟨_,q,hd⟩
  ·exact⟨o,keep c o (I.cne x c e) hc nch ho (I.freeC x c e),hd⟩
 refine⟨I.ok,I.os,hg,⟨fun b o e n hb hx=>?_,fun b o e n hb hx=>?_,fun b o e n hx=>?_,fun b o e hx=>?_,fun b xs e=>tups b xs (I.base.tups b xs e),fun b o xs e=>frzs b o xs (I.base.frzs b o xs e),fun b ps e=>?_⟩,?_,fun x c e=>?_,?_,fun x c e=>?_,fun p hp=>?_,hok,I.len⟩
 ·exact keep b o (neL b o e) hb (neC b o e hx) (I.base.keep b o e n hb hx) (I.base.free b o e n hx)
 ·obtain⟨sl,e1⟩:=I.base.slot b o e n hb hx
  obtain⟨sl',e2⟩:=slot b _ (neL b o e) hb (neC b o e hx) e1 (I.base.free b o e n hx)
  exact⟨sl',e2⟩
 ·obtain⟨o',e1⟩:=I.base.there b o e hx
  exact free b o' (neC b o e hx) e1 (I.base.free b o e n hx)
 ·obtain⟨o',e1⟩:=I.base.there b o e hx
  exact there b o' (neC b o e hx) e1
 ·obtain⟨m1,e1⟩:=I.base.tbls b ps e
  obtain⟨m2,e2⟩:=tbls b _ e1
  exact⟨m1++m2,by rw[e2,Array.append_assoc]⟩
 ·obtain⟨m,hn,hl⟩:=I.loc
  refine⟨m,ns m hn,fun i x v e1 e2 e3=>?_⟩
  obtain⟨u,r,l⟩:=hl i x v e1 e2 e3
  refine⟨u,r,?_⟩
  rcases l with l|⟨k,c,e,z⟩
  ·exact .inl l
  ·exact .inr ⟨k,c,e,cellK x c e _ z⟩
 ·obtain⟨v,z⟩:=I.cell x c e
  exact⟨v,cellK x c e v z⟩
 ·obtain⟨m,⟨o,_,_,ho,_⟩,_⟩:=I.loc
  exact free _ o (fun z=>(hch _ z).2.1 rfl) ho I.free
 ·obtain⟨v,o,ho,hd⟩:=I.cell x c e
  exact free c o (fun z=>(hch c z).2.2.1 x c e rfl) ho (I.freeC x c e)
 ·obtain⟨e,n,ne,nf,d⟩:=I.pin p hp
  have nch:p.1∉ch:=fun z=>(hch p.1 z).2.2.2 p hp rfl
  exact⟨keep p.1 p.2 ne nf nch e n,free p.1 p.2 nch e n,ne,nf,d⟩
theorem Inv.un{t':Nat}(I:Inv X pins σ H s)(u:Un X.fs [] H H' s.heap h')(hok:HOk X.prog X.w H' h'):Inv X pins σ H' {s with heap:=h',toks:=t'}:=by
 obtain⟨m,⟨o,es,ep,ho,r⟩,_⟩:=id I.loc
 obtain⟨sl,hL⟩:=u.any ho I.free (by simp)
 exact I.step (g':=s.gens) (d':=s.drawn) (ch:=[]) (fun _ z=>nomatch z) (fun b o _ hb _ e n=>u.keep b o e n hb (by simp)) (fun b o _ hb _ e n=>u.slot b o e n hb (by simp)) (fun b o _ e n=>u.free b o e n (by simp)) (fun b o _ e=>u.there b o e (by simp)) u.tups u.frzs u.tbls (fun m' hm=>by
  obtain⟨o',es',ep',ho',r'⟩:=hm
  rw[ho]at ho';cases ho'
  exact⟨_,es',ep',hL,r'⟩) hok I.bare
theorem Inv.call{g':Array GenState}{t':Nat}{d':Drawn}{ch:List Addr}(I:Inv X pins σ H s)(u:Un (frs X.stack) ch H H' s.heap h')(hok:HOk X.prog X.w H' h')(hg:AllBare g')
  (hch:∀b∈ch,(b∈X.ex\/X.s₀.heap.objs.size<=b)/\b≠X.env.locals/\(∀x c,X.env.cells.lookup x=some c->c≠b)/\∀p∈X.pn++pins,p.1≠b) :
  Inv X pins σ H' {s with heap:=h',gens:=g',drawn:=d',toks:=t'}:=by
 obtain⟨m,⟨o,es,ep,ho,r⟩,_⟩:=id I.loc
 obtain⟨sl,hL⟩:=u.any ho I.free fun z=>(hch _ z).2.1 rfl
 exact I.step (ch:=ch) hch (fun b o hL hb hc e n=>u.keep b o e n (fun z=>(List.mem_cons.mp (I.stkSub b z)).elim hL hb) hc) (fun b o _ _ hc e n=>u.any e n hc) (fun b o hc e n=>u.free b o e n hc) (fun b o hc e=>u.there b o e hc) u.tups u.frzs u.tbls (fun m' hm=>by
  obtain⟨o',es',ep',ho',r'⟩:=hm
  rw[ho]at ho';cases ho'
  exact⟨_,es',ep',hL,r'⟩) hok hg
theorem Inv.turned{t':Nat}{it:Addr}(I:Inv X pins σ H s)(k:∀b o,b≠it->s.heap.get? b=some o->h'.get? b=some o)(hn:H it=none)(hL:it≠X.env.locals)
  (h1:it∈X.ex\/X.s₀.heap.objs.size<=it) (h2:∀x c,X.env.cells.lookup x=some c->c≠it) (h3:∀p∈X.pn++pins,p.1≠it):Inv X pins σ H {s with heap:=h',toks:=t'}:=by
 have nit:∀b u,H b=some u->b≠it:=fun b u e z=>by rw[z,hn]at e;cases e
 refine I.step (g':=s.gens) (d':=s.drawn) (ch:=[it]) (fun b hb=>?_) (fun b o _ _ hc e _=>k b o (fun z=>hc (by simp[z])) e) (fun b o _ _ hc e _=>⟨o.slots,k b o (fun z=>hc (by simp[z])) e⟩) (fun _ _ _ _ n=>n)
  (fun b o hc e=>⟨o,k b o (fun z=>hc (by simp[z])) e⟩) (fun _ _ e=>e) (fun _ _ _ e=>e) (fun b ps e=>⟨#[],by rw[e];simp⟩) (fun m hm=>?_) (fun b u e=>?_) I.bare
 ·have e:b=it:=by simpa using hb
  subst e
  exact⟨h1,hL,h2,h3⟩
 ·obtain⟨o,es,ep,ho,r⟩:=hm
  exact⟨o,es,ep,k _ o (Ne.symm hL) ho,r⟩
 ·refine(I.hok b u e).stay (fun c v hc q=>k c v ?_ q) (fun _ q=>q) fun _ _ q=>q
  rcases hc with z|z
  ·rw[z];exact nit b u e
  ·exact nit c _ z
theorem Inv.tok(I:Inv X pins σ H s)(t:Nat):Inv X pins σ H {s with toks:=t}:=I.un (h':=s.heap) (t':=t) Un.refl I.hok
theorem Inv.kept{t':Nat}(I:Inv X pins σ H s)(k:∀b u,s.heap.get? b=some u->h'.get? b=some u):Inv X pins σ H {s with heap:=h',toks:=t'}:=I.un (Un.kept k) (I.hok.kept k)
theorem Inv.laid{a:Addr}{o:HO}{t':Nat}(I:Inv X pins σ H s)(k:∀b u,s.heap.get? b=some u->h'.get? b=some u)(hp:s.heap.objs.size<=a)(new:ObjOk X.prog X.w (upd H a o) h' a o) :
  Inv X pins σ (upd H a o) {s with heap:=h',toks:=t'}:=I.un (Un.laid k hp (I.hok.fresh hp)) (I.hok.laid k hp new)
theorem Inv.write{x e:Addr}{o:HO}{t':Nat}(I:Inv X pins σ H s)(mu:Mut (H x))(he:e=x\/H e=some (.own x))(k:∀b u,b≠e->s.heap.get? b=some u->h'.get? b=some u)(heo:∃u,h'.get? e=some u)
  (new:ObjOk X.prog X.w (upd H x o) h' x o):Inv X pins σ (upd H x o) {s with heap:=h',toks:=t'}:=I.un (Un.write mu he k heo) (I.hok.write mu he k heo new)
theorem Inv.pins_of{pins':List (Addr×Obj)}(I:Inv X pins σ H s)(h:∀p∈pins',s.heap.get? p.1=some p.2/\H p.1=none/\p.1≠X.env.locals/\p.1∉X.fs/\∀v,p.2.data≠.cell v):Inv X pins' σ H s :=
 ⟨I.ok,I.os,I.bare,I.base,I.loc,I.cell,I.free,I.freeC,fun p hp=>(List.mem_append.mp hp).elim (fun z=>I.pin p (List.mem_append_left _ z)) (h p),I.hok,I.len⟩
theorem nodup_ix{N:List Str}(hN:N.Nodup){i j:Nat}{x:Str}(a:N[i]?=some x)(b:N[j]?=some x):i=j:=by
 obtain⟨h1,e1⟩:=List.getElem?_eq_some_iff.mp a
 obtain⟨h2,e2⟩:=List.getElem?_eq_some_iff.mp b
 exact(List.getElem_inj hN).mp (e1.trans e2.symm)
theorem store_ok2{M:Model}{A:Around}{E:Value->Shared->Prop}{i:Nat}{x:Str}{v:V}{u:Value}{Q:Unit->Shared->Prop}(I:Inv X pins σ H s)(hN:X.N.Nodup)(hi:X.N[i]?=some x)(hx:Loc X.env.scope x)(r:RelV v u)
  (h:∀s',Inv X pins (σ.set i (some v)) H s'->(∃a,Heap.SameBut a s.heap s'.heap/\(a=X.env.locals\/X.env.cells.lookup x=some a))->Q () s') (hf:X.fn x=true\/X.env.scope.names.lookup x=some .local:=by first|exact .inl rfl|exact .inr rfl|assumption):wpAny M A (storeName X.env x u) Q E s:=by
 obtain⟨m,hn,hl⟩:=id I.loc
 have hcls:(X.env.scope.kind == .class||(X.env.scope.kind == .module&&X.env.locals != X.env.globals))=false:=by rw[I.ok.kind];rfl
 have hiσ:i<σ.length:=by rw[I.len];exact(List.getElem?_eq_some_iff.mp hi).1
 have cne:=I.cne
 have tracked:∀{a:Addr}{h':Heap},(∃o,s.heap.get? a=some o/\H a=none)->Heap.SameBut a s.heap h'->HOk X.prog X.w H h':=fun{a h'} ha hs b ob e=>by
  obtain⟨_,_,hfree⟩:=ha
  refine(I.hok b ob e).stay (fun c w' hc q=>(hs.2 c ?_).trans q) (fun _ q=>q) fun _ _ q=>q
  rintro rfl
  rcases hc with rfl|hc
  ·rw[hfree]at e;cases e
  ·rw[hfree]at hc;cases hc
 rcases hx with hk|hk
 ·refine wpAny_storeName_local hk hn (fun h' hn' hs=>?_) hcls
  obtain⟨oL,_,_,hoL,_⟩:=id hn
  refine h _ ⟨I.ok,I.os,I.bare,⟨fun b o e n hb hx=>?_,fun b o e n hb hx=>?_,I.base.free,fun b o e hx=>?_,I.base.tups,I.base.frzs,I.base.tbls⟩,⟨_,hn',fun j y v' e1 e2 e3=>?_⟩,fun y c e=>?_,I.free,I.freeC,fun p hp=>?_,tracked ⟨oL,hoL,I.free⟩ hs,by simpa using I.len⟩ ⟨_,hs,.inl rfl⟩
  ·exact(hs.2 b (Nat.ne_of_lt (Nat.lt_of_lt_of_le (Heap.lt_size e) I.ok.above))).trans (I.base.keep b o e n hb hx)
  ·obtain⟨sl,e1⟩:=I.base.slot b o e n hb hx
   exact⟨sl,(hs.2 b (Nat.ne_of_lt (Nat.lt_of_lt_of_le (Heap.lt_size e) I.ok.above))).trans e1⟩
  ·obtain⟨o',e1⟩:=I.base.there b o e hx
   exact⟨o',(hs.2 b (Nat.ne_of_lt (Nat.lt_of_lt_of_le (Heap.lt_size e) I.ok.above))).trans e1⟩
  ·by_cases hj:j=i
   ·subst hj
    rw[hi]at e1;cases e1
    rw[List.getElem?_set_self hiσ]at e2
    cases e2
    exact⟨u,r,.inl ⟨hk,by simp⟩⟩
   ·rw[List.getElem?_set_ne (Ne.symm hj)]at e2
    obtain⟨u',r',q⟩:=hl j y v' e1 e2 e3
    refine⟨u',r',?_⟩
    rcases q with⟨k,e⟩|⟨k,c,e,z⟩
    ·refine .inl ⟨k,?_⟩
     have:y≠x:=fun e=>hj (nodup_ix hN e1 (e▸hi))
     simp[this,e]
    ·exact .inr ⟨k,c,e,z.sameBut hs (cne y c e)⟩
  ·obtain⟨w',z⟩:=I.cell y c e
   exact⟨w',z.sameBut hs (cne y c e)⟩
  ·obtain⟨e,n,ne,nf,d⟩:=I.pin p hp
   exact⟨(hs.2 p.1 ne).trans e,n,ne,nf,d⟩
 ·have hfn:X.fn x=true:=by
   rcases hf with z|z
   ·exact z
   ·rw[z]at hk;cases hk
  obtain⟨c,hc⟩:=I.ok.has x (.inl hk)
  obtain⟨w',z⟩:=I.cell x c hc
  refine wpAny_storeName_cell I.ok.kind hk hc z (fun h' hc' hs=>?_)
  obtain⟨oc,hoc,hocd⟩:=id z
  refine h {s with heap:=h'} ⟨I.ok,I.os,I.bare,⟨fun b o e n hb hx=>?_,fun b o e n hb hx=>?_,I.base.free,fun b o e hx=>?_,I.base.tups,I.base.frzs,I.base.tbls⟩,⟨m,hn.sameBut hs (Ne.symm (cne x c hc)),fun j y v' e1 e2 e3=>?_⟩,fun y c' e=>?_,I.free,I.freeC,fun p hp=>?_,tracked ⟨oc,hoc,I.freeC x c hc⟩ hs,by simpa using I.len⟩ ⟨c,hs,.inr hc⟩
  ·exact(hs.2 b (Nat.ne_of_lt (Nat.lt_of_lt_of_le (Heap.lt_size e) (I.ok.cab x c hfn hc)))).trans (I.base.keep b o e n hb hx)
  ·obtain⟨sl,e1⟩:=I.base.slot b o e n hb hx
   exact⟨sl,(hs.2 b (Nat.ne_of_lt (Nat.lt_of_lt_of_le (Heap.lt_size e) (I.ok.cab x c hfn hc)))).trans e1⟩
  ·obtain⟨o',e1⟩:=I.base.there b o e hx
   exact⟨o',(hs.2 b (Nat.ne_of_lt (Nat.lt_of_lt_of_le (Heap.lt_size e) (I.ok.cab x c hfn hc)))).trans e1⟩
  ·by_cases hj:j=i
   ·subst hj
    rw[hi]at e1;cases e1
    rw[List.getElem?_set_self hiσ]at e2
    cases e2
    exact⟨u,r,.inr ⟨.inl hk,c,hc,hc'⟩⟩
   ·rw[List.getElem?_set_ne (Ne.symm hj)]at e2
    obtain⟨u',r',q⟩:=hl j y v' e1 e2 e3
    refine⟨u',r',?_⟩
    rcases q with q|⟨k,c',e,z'⟩
    ·exact .inl q
    ·refine .inr ⟨k,c',e,z'.sameBut hs ?_⟩
     rintro rfl
     exact hj (nodup_ix hN e1 (I.ok.inj _ _ _ e hc▸hi))
  ·by_cases hcc:c'=c
   ·subst hcc;exact⟨_,hc'⟩
   ·obtain⟨w2,z2⟩:=I.cell y c' e
    exact⟨w2,z2.sameBut hs hcc⟩
  ·obtain⟨e,n,ne,nf,d⟩:=I.pin p hp
   refine⟨(hs.2 p.1 ?_).trans e,n,ne,nf,d⟩
   intro q
   rw[q,hoc]at e
   have q':oc=p.2:=Option.some.inj e
   exact d w' (by rw[←q'];exact hocd)
theorem store_ok{M:Model}{A:Around}{E:Value->Shared->Prop}{i:Nat}{x:Str}{v:V}{u:Value}{Q:Unit->Shared->Prop}(I:Inv X pins σ H s)(hN:X.N.Nodup)(hi:X.N[i]?=some x)(hx:Loc X.env.scope x)(r:RelV v u)
  (h:∀s',Inv X pins (σ.set i (some v)) H s'->Q () s') (hf:X.fn x=true\/X.env.scope.names.lookup x=some .local:=by first|exact .inl rfl|exact .inr rfl|assumption):wpAny M A (storeName X.env x u) Q E s :=
 store_ok2 I hN hi hx r (fun s' I' _=>h s' I') hf
theorem Inv.call'{s':Shared}{ch:List Addr}(I:Inv X pins σ H s)(ho:s'.os=s.os)(u:Un (frs X.stack) ch H H' s.heap s'.heap)(hok:HOk X.prog X.w H' s'.heap)(hg:AllBare s'.gens)
  (hch:∀b∈ch,(b∈X.ex\/X.s₀.heap.objs.size<=b)/\b≠X.env.locals/\(∀x c,X.env.cells.lookup x=some c->c≠b)/\∀p∈X.pn++pins,p.1≠b):Inv X pins σ H' s':=by
 obtain⟨h',g',d',t',o'⟩:=s'
 have e:o'=s.os:=ho
 subst e
 exact I.call (g':=g') (t':=t') (d':=d') u hok hg hch
end
abbrev XK:=Value->Option Addr->Hp->Prop
abbrev St:=List (Option V)
abbrev VK:=V->Hp->Prop
abbrev TE:=St->Hp->VK->Prop
abbrev TT:=St->Hp->(Bool->Hp->Prop)->Prop
abbrev TA:=St->Hp->(List V->Hp->Prop)->Prop
structure Ends where
 nx:St->Hp->Prop
 rt:VK
 bk:St->Hp->Prop:=fun _ _=>False
 ct:St->Hp->Prop:=fun _ _=>False
abbrev TS:=Ends->St->Hp->Prop
def EP(X:Cx)(pins:List (Addr×Obj))(σ:St)(Q:VK)(u:Value)(s':Shared):Prop:=∃v H',Inv X pins σ H' s'/\RelV v u/\Q v H'
def TP(X:Cx)(pins:List (Addr×Obj))(σ:St)(Q:Bool->Hp->Prop)(b:Bool)(s':Shared):Prop:=∃H',Inv X pins σ H' s'/\Q b H'
def AP(X:Cx)(pins:List (Addr×Obj))(σ:St)(Q:List V->Hp->Prop)(us:List Value)(s':Shared):Prop:=∃vs H',Inv X pins σ H' s'/\Vals vs us/\Q vs H'
def SP(X:Cx)(pins:List (Addr×Obj))(D:Ends)(f:Flow)(s':Shared):Prop :=
 match f with
 |.next=>∃σ' H',Inv X pins σ' H' s'/\D.nx σ' H'
 |.brk=>∃σ' H',Inv X pins σ' H' s'/\D.bk σ' H'
 |.cont=>∃σ' H',Inv X pins σ' H' s'/\D.ct σ' H'
 |.ret u=>∃v σ' H',Inv X pins σ' H' s'/\RelV v u/\D.rt v H'
def PE(X:Cx)(e:Expr)(t:TE):Prop :=
 ∀(pins:List (Addr×Obj)) (s:Shared) (σ:St) (H:Hp) (Q:VK),Inv X pins σ H s->t σ H Q->wpAny (model X.prog X.w) X.A (eval e X.env) (EP X pins σ Q) X.xe s
def PT(X:Cx)(e:Expr)(t:TT):Prop :=
 ∀(pins:List (Addr×Obj)) (s:Shared) (σ:St) (H:Hp) (Q:Bool->Hp->Prop),Inv X pins σ H s->t σ H Q->wpAny (model X.prog X.w) X.A (isTrue e X.env (eval e X.env)) (TP X pins σ Q) X.xe s
def PW(X:Cx)(e:Expr)(t:TT):Prop :=
 ∀(whole:Sem Value) (pins:List (Addr×Obj)) (s:Shared) (σ:St) (H:Hp) (Q:Bool->Hp->Prop),Inv X pins σ H s->t σ H Q->wpAny (model X.prog X.w) X.A (isTrue e X.env whole) (TP X pins σ Q) X.xe s
theorem PW.pt{X:Cx}{e:Expr}{t:TT}(h:PW X e t):PT X e t:=h _
def PA(X:Cx)(es:List Expr)(t:TA):Prop :=
 ∀(pos:Pos) (pins:List (Addr×Obj)) (s:Shared) (σ:St) (H:Hp) (Q:List V->Hp->Prop),Inv X pins σ H s->t σ H Q->wpAny (model X.prog X.w) X.A (spliced (backTo pos (starEach es X.env))) (AP X pins σ Q) X.xe s
def PS(X:Cx)(st:Stmt)(t:TS):Prop :=
 ∀(pins:List (Addr×Obj)) (s:Shared) (σ:St) (H:Hp) (D:Ends),Inv X pins σ H s->t D σ H->wpAny (model X.prog X.w) X.A (exec st X.env) (SP X pins D) X.xe s
def PSs(X:Cx)(st:List Stmt)(t:TS):Prop :=
 ∀(pins:List (Addr×Obj)) (s:Shared) (σ:St) (H:Hp) (D:Ends),Inv X pins σ H s->t D σ H->wpAny (model X.prog X.w) X.A (execs st X.env) (SP X pins D) X.xe s
theorem thn{α:Type}{t:Sem α}{Q Q':α->Shared->Prop}{M:Model}{A:Around}{E:Value->Shared->Prop}{s:Shared}(h:wpAny M A t Q E s)(hQ:∀a s,Q a s->Q' a s):wpAny M A t Q' E s:=wpAny_mono h hQ fun _ _ x=>x
section
variable {X:Cx}
def tVar(i:Nat):TE:=fun σ H Q=>∃v,σ[i]?=some (some v)/\Q v H
def tC(v:V):TE:=fun _ H Q=>Q v H
theorem pe_var{i:Nat}{x:Str}{pos:Pos}(hN:X.N[i]?=some x)(hv:Vis X.env.scope x)(hd:(x == ("__debug__":Str))=false:=by decide)(hcd:(x == ("__classdict__":Str))=false:=by decide):PE X (.Name x pos) (tVar i):=by
 intro pins s σ H Q I h
 obtain⟨v,e,h⟩:=h
 obtain⟨m,hn,hl⟩:=I.loc
 obtain⟨u,r,l⟩:=hl i x v hN e hv
 have fin:EP X pins σ Q u s:=⟨v,H,I,r,h⟩
 rcases l with⟨hk,hm⟩|⟨hk,c,hc,hcell⟩
 ·exact wpAny_Name (wpAny_loadName_local I.ok.kind hk hn hm fin) hd
 ·rcases hk with hk|hk
  ·exact wpAny_Name (wpAny_loadName_cell I.ok.kind hk hc hcell fin) hd
  ·exact wpAny_Name (wpAny_loadName_free I.ok.kind hk hc hcell fin hcd) hd
theorem pe_int{i j pos}:PE X (.Constant (.int i) j pos) (tC (.int i)):=fun _ _ _ H _ I h=>wpAny_Constant_int ⟨.int i,H,I.tok _,⟨_,rfl⟩,h⟩
theorem pe_bl{b j pos}:PE X (.Constant (.bool b) j pos) (tC (.bl b)):=fun _ _ _ H _ I h=>Constant_bool ⟨.bl b,H,I,rfl,h⟩
theorem pe_non{j pos}:PE X (.Constant .none j pos) (tC .non):=fun _ _ _ H _ I h=>Constant_none ⟨.non,H,I,rfl,h⟩
theorem pe_str{x j pos}:PE X (.Constant (.str x) j pos) (tC (.str x)):=fun _ _ _ H _ I h=>Calls.Constant_str ⟨.str x,H,I.tok _,⟨_,rfl⟩,h⟩
def Gl(X:Cx)(x:Str):Prop:=X.env.kindOf x=some .globalImplicit
theorem ld_glob{E:Value->Shared->Prop}{pins:List (Addr×Obj)}{s:Shared}{σ:St}{H:Hp}{x:Str}{u:Value}{pos:Pos}{Q:Value->Shared->Prop}(I:Inv X pins σ H s)(hg:Gl X x)(hm:X.mg x=some u)(h:Q u s)
  (hd:(x == ("__debug__":Str))=false:=by decide):wpAny (model X.prog X.w) X.A (eval (.Name x pos) X.env) Q E s :=
 Calls.Name_function_global I.ok.kind hg (Calls.loadGlobal_global (by rw[I.ok.glob];exact I.mod.glob.keeps I.bk) hm h) hd
theorem ld_blt{E:Value->Shared->Prop}{pins:List (Addr×Obj)}{s:Shared}{σ:St}{H:Hp}{x:Str}{u:Value}{pos:Pos}{Q:Value->Shared->Prop}(I:Inv X pins σ H s)(hg:Gl X x)(hm:X.mg x=none)(hv:bootBuiltins x=some u)(h:Q u s)
  (hn:x≠"__name__":=by decide) (hd:(x == ("__debug__":Str))=false:=by decide):wpAny (model X.prog X.w) X.A (eval (.Name x pos) X.env) Q E s:=by
 obtain⟨mb,h1,h2⟩:=I.mod.blt
 exact Calls.Name_function_global I.ok.kind hg (Calls.loadGlobal_builtin (by rw[I.ok.glob];exact I.mod.glob.keeps I.bk) hm (by rw[I.ok.blt];exact h1.keeps I.bk) ((h2 x hn).trans hv) h) hd
theorem pe_bltn{x:Str}{v:V}{u:Value}{pos:Pos}(hg:Gl X x)(hm:X.mg x=none)(hv:bootBuiltins x=some u)(r:RelV v u)(hn:x≠"__name__":=by decide)(hd:(x == ("__debug__":Str))=false:=by decide):PE X (.Name x pos) (tC v) :=
 fun _ _ _ H _ I h=>ld_blt I hg hm hv ⟨v,H,I,r,h⟩ hn hd
variable {a b:Expr}{ta tb:TE}{pos:Pos}
def tB(t:TE):TT:=fun σ H Q=>t σ H fun x H1=>∃c,x=.bl c/\Q c H1
theorem pt_val{e:Expr}{t:TE}(h:PE X e t)(he:∀whole,isTrue e X.env whole=(do let v ←whole;standAt e.pos;holding [v] (truthy v)):=by intro _;rfl):PT X e (tB t):=by
 intro pins s σ H Q I hw
 refine isTrue_plain (thn (h pins s σ H _ I hw) fun v s1 ⟨x,H1,I1,r1,q1⟩=>?_) (he _)
 obtain⟨d,rfl,q⟩:=q1
 cases r1
 exact wpAny_truthy_bool ⟨H1,I1,q⟩
variable {tA tB':TT}{rest:List Expr}
def tAnd(t u:TT):TT:=fun σ H Q=>t σ H fun c H1=>if c=true then u σ H1 Q else Q false H1
def tOr(t u:TT):TT:=fun σ H Q=>t σ H fun c H1=>if c=true then Q true H1 else u σ H1 Q
def tNot(t:TT):TT:=fun σ H Q=>t σ H fun c H1=>Q (!c) H1
theorem pw_and1(ha:PT X a tA):PW X (.BoolOp .And [a] pos) tA:=by
 intro wh pins s σ H Q I h
 refine isTrue_and (thn (ha pins s σ H Q I h) fun c s1 e=>?_)
 cases c with
 |true=>exact isTrue_and_nil e
 |false=>exact e
theorem pw_or1(ha:PT X a tA):PW X (.BoolOp .Or [a] pos) tA:=by
 intro wh pins s σ H Q I h
 refine isTrue_or (thn (ha pins s σ H Q I h) fun c s1 e=>?_)
 cases c with
 |false=>exact isTrue_or_nil e
 |true=>exact e
theorem pw_and(ha:PT X a tA)(hb:PW X (.BoolOp .And (b::rest) pos) tB'):PW X (.BoolOp .And (a::b::rest) pos) (tAnd tA tB'):=by
 intro wh pins s σ H Q I h
 refine isTrue_and (thn (ha pins s σ H _ I h) fun c s1 ⟨H1,I1,q1⟩=>?_)
 cases c with
 |true=>exact hb wh pins s1 σ H1 Q I1 q1
 |false=>exact⟨H1,I1,q1⟩
theorem pw_or(ha:PT X a tA)(hb:PW X (.BoolOp .Or (b::rest) pos) tB'):PW X (.BoolOp .Or (a::b::rest) pos) (tOr tA tB'):=by
 intro wh pins s σ H Q I h
 refine isTrue_or (thn (ha pins s σ H _ I h) fun c s1 ⟨H1,I1,q1⟩=>?_)
 cases c with
 |true=>exact⟨H1,I1,q1⟩
 |false=>exact hb wh pins s1 σ H1 Q I1 q1
theorem pt_not(ha:PT X a tA):PT X (.UnaryOp .Not a pos) (tNot tA):=by
 intro pins s σ H Q I h
 exact isTrue_not (ha pins s σ H (fun c H1=>Q (!c) H1) I h)
def tAndV(ta tb:TE):TE:=fun σ H Q=>ta σ H fun x H1=>∃c,x=.bl c/\if c=true then tb σ H1 Q else Q (.bl false) H1
theorem pe_one{op}{t:TE}(h:PE X a t):PE X (.BoolOp op [a] pos) t:=fun pins s σ H Q I hw=>BoolOp_one (h pins s σ H Q I hw)
theorem pe_and(ha:PE X a ta)(hb:PE X (.BoolOp .And (b::rest) pos) tb):PE X (.BoolOp .And (a::b::rest) pos) (tAndV ta tb):=by
 intro pins s σ H Q I h
 refine BoolOp_and (thn (ha pins s σ H _ I h) fun v s1 ⟨x,H1,I1,r1,q1⟩=>?_)
 obtain⟨c,rfl,q1⟩:=q1
 cases r1
 refine wpAny_truthy_bool ?_
 cases c with
 |true=>exact hb pins s1 σ H1 Q I1 q1
 |false=>exact⟨.bl false,H1,I1,rfl,q1⟩
end
def SqL(K:PySem.W.Frag)(H:Hp)(a:Addr)(xs:List V):Prop :=
 Rd H a (.lst xs) \/
  ∃(o:Obj) (its:Array Value) (n:Nat),K.lookup a=some o/\o.cls=.type "list"/\o.dict=none/\o.data=.seq its n/\its.size<=sizeLine/\Vals xs its.toList
def SqT(K:PySem.W.Frag)(H:Hp)(a:Addr)(xs:List V):Prop :=
 Rd H a (.tup xs) \/
  ∃(o:Obj) (its:Array Value) (n:Nat),K.lookup a=some o/\o.cls=.type "tuple"/\o.data=.seq its n/\its.size<=sizeLine/\Vals xs its.toList/\o.dict=none
def absV:Value->Option V
 |.none=>some .non
 |.bool b=>some (.bl b)
 |.int i _=>some (.int i)
 |.str x _=>some (.str x)
 |.bytes b _=>some (.byt b)
 |.float b _=>some (.flt b)
 |.ref a=>some (.ref a)
 |.type n=>some (.ty n)
 |_=>none
theorem RelV.abs{x:V}{u:Value}(r:RelV x u):absV u=some x:=by
 cases x with
 |non=>cases r;rfl
 |bl _=>cases r;rfl
 |int _=>obtain⟨t,rfl⟩:=r;rfl
 |str _=>obtain⟨t,rfl⟩:=r;rfl
 |byt _=>obtain⟨t,rfl⟩:=r;rfl
 |flt _=>obtain⟨t,rfl⟩:=r;rfl
 |ref _=>cases r;rfl
 |ty _=>cases r;rfl
theorem RelV.inj{x y:V}{u:Value}(r:RelV x u)(q:RelV y u):x=y:=Option.some.inj (r.abs.symm.trans q.abs)
theorem Vals.inj:∀{xs ys:List V}{us:List Value},Vals xs us->Vals ys us->xs=ys
 |_,_,_,.nil,.nil=>rfl
 |_,_,_,.cons r t,.cons r' t'=>by rw[r.inj r',Vals.inj t t']
section
variable {X:Cx}{pins:List (Addr×Obj)}{σ:St}{H:Hp}{s:Shared}{a:Addr}{xs ys:List V}
theorem SqL.of{K:PySem.W.Frag}(h:H a=some (.lst xs)):SqL K H a xs:=.inl (.inl h)
theorem SqT.of{K:PySem.W.Frag}(h:H a=some (.tup xs)):SqT K H a xs:=.inl (.inl h)
theorem Inv.list(I:Inv X pins σ H s)(h:SqL X.K H a xs):∃its:List Value,Vals xs its/\PlainL s.heap a its.toArray/\xs.length<=sizeLine:=by
 rcases h with h|⟨o,its,n,hk,hc,hd,hs,hz,r⟩
 ·obtain⟨z,its,n,r,e⟩:=h.ok I.hok
  exact⟨its,r,⟨_,n,e,rfl,rfl,rfl⟩,z⟩
 ·refine⟨its.toList,r,⟨o,n,I.kIn a o hk,hc,hd,by simpa using hs⟩,?_⟩
  have e:=r.length
  simp only[Array.length_toList]at e
  omega
theorem Inv.tuple(I:Inv X pins σ H s)(h:SqT X.K H a xs):∃its:List Value,Vals xs its/\IsTup s.heap a its.toArray/\xs.length<=sizeLine:=by
 rcases h with h|⟨o,its,n,hk,hc,hs,hz,r,_⟩
 ·obtain⟨z,its,r,p,_⟩:=h.ok I.hok
  exact⟨its,r,p,z⟩
 ·refine⟨its.toList,r,⟨o,I.kIn a o hk,hc,n,by simpa using hs⟩,?_⟩
  have e:=r.length
  simp only[Array.length_toList]at e
  omega
theorem Inv.list_inj(I:Inv X pins σ H s)(h:SqL X.K H a xs)(h':SqL X.K H a ys):xs=ys:=by
 obtain⟨its,r,⟨o,n,e,_,_,d⟩,_⟩:=I.list h
 obtain⟨its',r',⟨o',n',e',_,_,d'⟩,_⟩:=I.list h'
 rw[e]at e';cases e'
 rw[d]at d'
 injection d' with d1 _
 have:its=its':=by simpa using congrArg Array.toList d1
 subst this
 exact r.inj r'
theorem Inv.tuple_inj(I:Inv X pins σ H s)(h:SqT X.K H a xs)(h':SqT X.K H a ys):xs=ys:=by
 obtain⟨its,r,⟨o,e,_,n,d⟩,_⟩:=I.tuple h
 obtain⟨its',r',⟨o',e',_,n',d'⟩,_⟩:=I.tuple h'
 rw[e]at e';cases e'
 rw[d]at d'
 injection d' with d1 _
 have:its=its':=by simpa using congrArg Array.toList d1
 subst this
 exact r.inj r'
end
abbrev Cx.wish(X:Cx)(E:Value->Shared->Prop):Cx:={X with xe:=E}
abbrev Cx.nox(X:Cx):Cx:=X.wish fun _ _=>False
theorem Cx.Ok.wish{X:Cx}(ok:X.Ok)(E:Value->Shared->Prop):(X.wish E).Ok :=
 ⟨ok.mod,ok.kind,ok.glob,ok.blt,ok.above,ok.inj,ok.has,ok.cab,ok.hd,ok.frames,ok.stk,ok.exf,ok.bs,ok.bsz,ok.noex,ok.exfs,ok.funs,ok.frf⟩
theorem Cx.Ok.unwish{X:Cx}{E:Value->Shared->Prop}(ok:(X.wish E).Ok):X.Ok :=
 ⟨ok.mod,ok.kind,ok.glob,ok.blt,ok.above,ok.inj,ok.has,ok.cab,ok.hd,ok.frames,ok.stk,ok.exf,ok.bs,ok.bsz,ok.noex,ok.exfs,ok.funs,ok.frf⟩
section
variable {X:Cx}{pins:List (Addr×Obj)}{σ:St}{H:Hp}{s:Shared}{E:Value->Shared->Prop}
theorem Inv.wish(I:Inv X pins σ H s)(E:Value->Shared->Prop):Inv (X.wish E) pins σ H s:=⟨I.ok.wish E,I.os,I.bare,I.base,I.loc,I.cell,I.free,I.freeC,I.pin,I.hok,I.len⟩
theorem Inv.unwish(I:Inv (X.wish E) pins σ H s):Inv X pins σ H s:=⟨I.ok.unwish,I.os,I.bare,I.base,I.loc,I.cell,I.free,I.freeC,I.pin,I.hok,I.len⟩
theorem SP.unwish{D:Ends}{f:Flow}{s':Shared}(h:SP (X.wish E) pins D f s'):SP X pins D f s':=by
 cases f with
 |next=>obtain⟨σ',H',I,q⟩:=h;exact⟨σ',H',I.unwish,q⟩
 |brk=>obtain⟨σ',H',I,q⟩:=h;exact⟨σ',H',I.unwish,q⟩
 |cont=>obtain⟨σ',H',I,q⟩:=h;exact⟨σ',H',I.unwish,q⟩
 |ret u=>obtain⟨v,σ',H',I,r,q⟩:=h;exact⟨v,σ',H',I.unwish,r,q⟩
theorem PSs.nox{st:List Stmt}{t:TS}(h:PSs X.nox st t):PSs X st t:=fun pins s σ H D I hw =>
 wpAny_mono (h pins s σ H D (I.wish _) hw) (fun _ _ q=>q.unwish) fun _ _ z=>False.elim z
end
section
variable {X:Cx}{st:Stmt}{rest:List Stmt}{t u:TS}{e:Expr}{te:TE}{pos:Pos}
def tNext:TS:=fun D σ H=>D.nx σ H
def tSeq(t u:TS):TS:=fun D σ H=>t {D with nx:=u D} σ H
theorem pss_nil:PSs X [] tNext:=fun _ _ σ H _ I h=>wpAny_execs_nil ⟨σ,H,I,h⟩
theorem pss_cons(h1:PS X st t)(h2:PSs X rest u):PSs X (st::rest) (tSeq t u):=by
 intro pins s σ H D I h
 refine wpAny_execs_cons (thn (h1 pins s σ H {D with nx:=u D} I h) fun f s1 q=>?_)
 cases f with
 |next =>
  obtain⟨σ',H',I',q⟩:=q
  exact h2 pins s1 σ' H' D I' q
 |ret v=>exact q
 |brk=>exact q
 |cont=>exact q
theorem pss_one(h1:PS X st t):PSs X [st] t:=by
 intro pins s σ H D I h
 refine wpAny_execs_cons (thn (h1 pins s σ H D I h) fun f s1 q=>?_)
 cases f with
 |next=>exact wpAny_execs_nil q
 |ret v=>exact q
 |brk=>exact q
 |cont=>exact q
def tCont:TS:=fun D σ H=>D.ct σ H
theorem ps_continue:PS X (.Continue pos) tCont:=fun _ _ σ H _ I h=>wpAny_Continue ⟨σ,H,I,h⟩
theorem Inv.quiet{pins:List (Addr×Obj)}{σ:St}{H:Hp}{s:Shared}(I:Inv X pins σ H s):interactive X.env=false:=by simp[interactive,I.ok.kind]
def tDrop(te:TE):TS:=fun D σ H=>te σ H fun _ H1=>D.nx σ H1
theorem ps_expr(he:PE X e te)(hs:swapsWith e none pos.line X.env=pure false:=by rfl):PS X (.Expr e pos) (tDrop te):=by
 intro pins s σ H D I h
 exact wpAny_Expr_any (thn (he pins s σ H _ I h) fun v s1 ⟨x,H1,I1,r1,q1⟩=>⟨σ,H1,I1,q1⟩) I.quiet hs
def tRet(te:TE):TS:=fun D σ H=>te σ H D.rt
theorem ps_ret(he:PE X e te):PS X (.Return (some e) pos) (tRet te):=by
 intro pins s σ H D I h
 exact wpAny_Return_some (thn (he pins s σ H _ I h) fun v s1 ⟨x,H1,I1,r1,q1⟩=>⟨x,σ,H1,I1,r1,q1⟩)
def tIfS(c:TT)(t u:TS):TS:=fun D σ H=>c σ H fun b H1=>if b=true then t D σ H1 else u D σ H1
theorem ps_if{c:Expr}{a b:List Stmt}{tc:TT}(hc:PT X c tc)(ha:PSs X a t)(hb:PSs X b u):PS X (.If c a b pos) (tIfS tc t u):=by
 intro pins s σ H D I h
 refine wpAny_If (thn (hc pins s σ H _ I h) fun d s1 ⟨H1,I1,q1⟩=>?_)
 cases d with
 |true=>exact ha pins s1 σ H1 D I1 q1
 |false=>exact hb pins s1 σ H1 D I1 q1
end
abbrev TG:=V->St->Hp->(St->Hp->Prop)->Prop
abbrev TGs:=List V->St->Hp->(St->Hp->Prop)->Prop
def PG(X:Cx)(target:Expr)(t:TG):Prop :=
 ∀(pins:List (Addr×Obj)) (s:Shared) (σ:St) (H:Hp) (v:V) (u:Value) (Q:St->Hp->Prop),Inv X pins σ H s->RelV v u->t v σ H Q ->
  wpAny (model X.prog X.w) X.A (assign target X.env u) (fun _ s'=>∃σ' H',Inv X pins σ' H' s'/\Q σ' H') X.xe s
def PGs(X:Cx)(ts:List Expr)(t:TGs):Prop :=
 ∀(pins:List (Addr×Obj)) (s:Shared) (σ:St) (H:Hp) (vs:List V) (us:List Value) (Q:St->Hp->Prop),Inv X pins σ H s->Vals vs us->t vs σ H Q ->
  wpAny (model X.prog X.w) X.A (assignInOrder ((assignEach ts X.env).map (·.2)) us) (fun _ s'=>∃σ' H',Inv X pins σ' H' s'/\Q σ' H') X.xe s
abbrev TSet:=V->V->V->Hp->(Hp->Prop)->Prop
def PSet(X:Cx)(t:TSet):Prop :=
 ∀(pins:List (Addr×Obj)) (s:Shared) (σ:St) (H:Hp) (o i v:V) (ov iv u:Value) (Q:Hp->Prop),Inv X pins σ H s->RelV o ov->RelV i iv->RelV v u->t o i v H Q ->
  wpAny (model X.prog X.w) X.A (setItem ov iv u) (fun _ s'=>∃H',Inv X pins σ H' s'/\Q H') X.xe s
section
variable {X:Cx}{pos:Pos}
def gName(i:Nat):TG:=fun v σ H Q=>Q (σ.set i (some v)) H
theorem pg_name{i:Nat}{x:Str}(hN:X.N.Nodup)(hi:X.N[i]?=some x)(hx:Loc X.env.scope x)(hf:X.fn x=true\/X.env.scope.names.lookup x=some .local:=by first|exact .inl rfl|exact .inr rfl|assumption):PG X (.Name x pos) (gName i):=by
 intro pins s σ H v u Q I r h
 exact wpAny_assign_Name (store_ok I hN hi hx r (fun s' I'=>⟨_,H,I',h⟩) hf)
def gNil:TGs:=fun vs σ H Q=>vs=[]/\Q σ H
def gCons(t:TG)(u:TGs):TGs:=fun vs σ H Q=>∃v r,vs=v::r/\t v σ H fun σ' H'=>u r σ' H' Q
theorem pgs_nil:PGs X [] gNil:=by
 intro pins s σ H vs us Q I r h
 obtain⟨e,h⟩:=h
 subst e
 cases r
 exact assignInOrder_nil ⟨σ,H,I,h⟩
theorem pgs_cons{e:Expr}{es:List Expr}{t:TG}{u:TGs}(h1:PG X e t)(h2:PGs X es u)
  (hs:(assignEach (e::es) X.env).map (·.2)=assign e X.env::(assignEach es X.env).map (·.2):=by rfl):PGs X (e::es) (gCons t u):=by
 intro pins s σ H vs us Q I r h
 obtain⟨v,vr,e1,h⟩:=h
 subst e1
 cases r with
 |cons r rr =>
  rw[hs]
  refine assignInOrder_cons (thn (h1 pins s σ H _ _ _ I r h) fun _ s1 ⟨σ1,H1,I1,q1⟩=>?_)
  exact h2 pins s1 σ1 H1 _ _ Q I1 rr q1
def gTup(K:PySem.W.Frag)(n:Nat)(t:TGs):TG:=fun v σ H Q=>∃a xs,v=.ref a/\SqT K H a xs/\xs.length=n/\t xs σ H Q
theorem pg_tup{es:List Expr}{k:Nat}{t:TGs}{n:Nat}(hc:X.calm=true)(h:PGs X es t)
  (hn:(assignEach es X.env).length=n:=by rfl) (hst:(assignEach es X.env).findIdx? (·.1)=none:=by rfl):PG X (.Tuple es k pos) (gTup X.K n t):=by
 intro pins s σ H v u Q I r hw
 obtain⟨a,xs,e1,hq,hl,hw⟩:=hw
 subst e1
 cases r
 obtain⟨its,rv,ht,hz⟩:=I.tuple hq
 refine assign_Tuple_tuple (I.ok.hd hc) ht (by simp[hn,←hl,rv.length]) hst fun h' hx=>?_
 have I1:Inv X pins σ H {s with heap:=h'}:=I.kept (t':=s.toks) fun b o e=>hx b o (Nat.ne_of_lt (Heap.lt_size e)) e
 exact h pins _ σ H xs _ Q I1 (by simpa using rv) hw
def gSub(to ti:TE)(t:TSet):TG:=fun v σ H Q=>to σ H fun o H1=>ti σ H1 fun i H2=>t o i v H2 fun H3=>Q σ H3
theorem pg_sub{o i:Expr}{to ti:TE}{t:TSet}(ho:PE X o to)(hi:PE X i ti)(hs:PSet X t)
  (ha:∀v,assign (.Subscript o i pos) X.env v=(do
   let ov ←holding [v] (eval o X.env)
   let iv ←holding [v,ov] (eval i X.env)
   standAt pos
   holding [v,ov,iv] (setItem ov iv v)
   release [v,ov,iv] []):=by intro _;rfl):PG X (.Subscript o i pos) (gSub to ti t):=by
 intro pins s σ H v u Q I r h
 rw[ha]
 refine wpAny_bind (wpAny_holding (thn (ho pins s σ H _ I h) fun ov s1 ⟨x,H1,I1,r1,q1⟩=>?_))
 refine wpAny_bind (wpAny_holding (thn (hi pins s1 σ H1 _ I1 q1) fun iv s2 ⟨y,H2,I2,r2,q2⟩=>?_))
 refine wpAny_bind (wpAny_standAt (wpAny_bind (wpAny_holding (thn (hs pins s2 σ H2 x y v ov iv u _ I2 r1 r2 r q2) fun _ s3 ⟨H3,I3,q3⟩=>?_))))
 exact wpAny_release ⟨σ,H3,I3,q3⟩
def tAsg(te:TE)(g:TG):TS:=fun D σ H=>te σ H fun x H1=>g x σ H1 D.nx
theorem ps_asg{tg e:Expr}{te:TE}{g:TG}(he:PE X e te)(hg:PG X tg g)(hs:swapsWithSole [tg] e pos.line X.env=pure false:=by rfl)(hw:swappedStores [tg] e X.env=pure none:=by rfl)
  (h1:(assignEach [tg] X.env).map (·.2)=[assign tg X.env]:=by rfl):PS X (.Assign [tg] e pos) (tAsg te g):=by
 intro pins s σ H D I h
 refine wpAny_Assign_stores (thn (he pins s σ H _ I h) fun v s1 ⟨x,H1,I1,r1,q1⟩=>?_) hs hw
 rw[h1]
 exact thn (hg pins s1 σ H1 x v _ I1 r1 q1) fun _ s2 q=>q
theorem ps_set{i:Nat}{x:Str}{e:Expr}{te:TE}{pos':Pos}(hN:X.N.Nodup)(hi:X.N[i]?=some x)(hx:Loc X.env.scope x)(he:PE X e te)(hs:swapsWith e (some (.Name x pos')) pos.line X.env=pure false:=by rfl)(hf:X.fn x=true\/X.env.scope.names.lookup x=some .local:=by first|exact .inl rfl|exact .inr rfl|assumption) :
  PS X (.Assign [.Name x pos'] e pos) (tAsg te (gName i)):=by
 intro pins s σ H D I h
 refine wpAny_Assign_Name (thn (he pins s σ H _ I h) fun v s1 ⟨y,H1,I1,r1,q1⟩=>?_) hs
 exact store_ok I1 hN hi hx r1 (fun s2 I2=>⟨_,H1,I2,q1⟩) hf
end
section
variable {X:Cx}{pos:Pos}
def tWhile(c:TT)(tb:TS):TS:=fun D σ H=>∃W:Nat->St->Hp->Prop,(∃m,W m σ H)/\∀m σ H,W m σ H ->
 c σ H fun b H1=>if b=true then ∃N:St->Hp->Prop,(∀σ' H',N σ' H'->∃m',m' < m/\W m' σ' H')/\tb {D with nx:=N,ct:=N,bk:=D.nx} σ H1 else D.nx σ H1
theorem ps_while{c:Expr}{body:List Stmt}{tc:TT}{tb:TS}(hp:PassesOwn (model X.prog X.w) X.A X.env X.xe)(hc:PT X c tc)(hb:PSs X body tb):PS X (.While c body [] pos) (tWhile tc tb):=by
 intro pins s σ H D I h
 obtain⟨W,⟨m0,w0⟩,turn⟩:=h
 refine wpAny_While (codeAny_whileLoop (fun n s'=>∃σ' H',Inv X pins σ' H' s'/\W n σ' H') ?_ m0 ⟨σ,H,I,w0⟩)
 rintro n s1 ⟨σ1,H1,I1,w1⟩
 refine wpAny_passesOwn hp (thn (hc pins s1 σ1 H1 _ I1 (turn n σ1 H1 w1)) fun b s2 ⟨H2,I2,q2⟩=>?_)
 cases b with
 |true =>
  obtain⟨N,hN,q2⟩:=q2
  rw[if_pos rfl]
  refine wpAny_passesOwn hp (thn (hb pins s2 σ1 H2 _ I2 q2) fun f s3 q3=>?_)
  cases f with
  |next =>
   obtain⟨σ3,H3,I3,n3⟩:=q3
   obtain⟨m',hm,w3⟩:=hN σ3 H3 n3
   exact⟨m',hm,σ3,H3,I3,w3⟩
  |cont =>
   obtain⟨σ3,H3,I3,n3⟩:=q3
   obtain⟨m',hm,w3⟩:=hN σ3 H3 n3
   exact⟨m',hm,σ3,H3,I3,w3⟩
  |brk=>exact q3
  |ret v=>exact q3
 |false =>
  rw[if_neg Bool.false_ne_true]
  exact wpAny_execs_nil ⟨σ1,H2,I2,q2⟩
end
structure It where
 go:Nat->Hp->Prop
 yld:Nat->Hp->V->Hp->Prop
 stop:Nat->Hp->Prop
def FpOk(X:Cx)(pins:List (Addr×Obj))(H:Hp)(b:Addr):Prop :=
 H b=none/\b≠X.env.locals/\b∉X.fs/\(b∈X.ex\/X.s₀.heap.objs.size<=b)/\(∀x c,X.env.cells.lookup x=some c->c≠b)/\∀p∈X.pn++pins,p.1≠b
theorem Inv.fpOk{X:Cx}{pins:List (Addr×Obj)}{σ:St}{H H':Hp}{s:Shared}{b:Addr}(I:Inv X pins σ H s)(hb:s.heap.objs.size<=b)(hn:H' b=none):FpOk X pins H' b:=by
 refine⟨hn,Nat.ne_of_gt (Nat.lt_of_lt_of_le I.lt hb),I.nofs hb,.inr (Nat.le_trans I.sz hb),fun x c e z=>?_,fun p hp z=>?_⟩
 ·obtain⟨v,q⟩:=I.cell x c e
  exact absurd (Nat.lt_of_lt_of_le q.lt (by rw[z];exact hb)) (Nat.lt_irrefl _)
 ·exact absurd (Nat.lt_of_lt_of_le (Heap.lt_size (I.pin p hp).1) (by rw[z];exact hb)) (Nat.lt_irrefl _)
structure Turn(P:Program) (w:World) (K:PySem.W.Frag) (tg:Expr) (J:It) (fp:List Addr) (it:Addr) (tn:Nat->Heap->Prop):Prop where
 mem:it∈fp
 obj:∀i h,tn i h->∀b∈fp,∃o,h.get? b=some o/\∀v,o.data≠.cell v
 keep:∀i h h',tn i h->(∀b∈fp,∀o,h.get? b=some o->h'.get? b=some o)->tn i h'
 item:∀(X:Cx),X.prog=P->X.w=w->X.K=K->X.calm=true->∀(i:Nat) (pins:List (Addr×Obj)) (s:Shared) (σ:St) (H:Hp) (E:Value->Shared->Prop),Inv X pins σ H s->(∀b∈fp,FpOk X pins H b)->tn i s.heap->J.go i H ->
  wpAny (model P w) X.A (pyNext (.ref it)) (fun r s1=>∃u,r=some u /\
   wpAny (model P w) X.A (letOwnedTupleGo tg (.ref it) u) (fun _ s2=>∃x H',Inv X pins σ H' s2/\RelV x u/\J.yld i H x H'/\tn (i+1) s2.heap/\∀b∈fp,H' b=none) E s1) E s
 done:∀(X:Cx),X.prog=P->X.w=w->X.K=K->X.calm=true->∀(i:Nat) (pins:List (Addr×Obj)) (s:Shared) (σ:St) (H:Hp) (E:Value->Shared->Prop),Inv X pins σ H s->(∀b∈fp,FpOk X pins H b)->tn i s.heap->J.stop i H ->
  wpAny (model P w) X.A (pyNext (.ref it)) (fun r s1=>r=none/\Inv X pins σ H s1) E s
 self:∀(A:Around) (i:Nat) (s:Shared) (Q:Value->Shared->Prop) (E:Value->Shared->Prop),tn i s.heap->Q (.ref it) s->wpAny (model P w) A (pyIter (.ref it)) Q E s
abbrev TI:=St->Hp->(It->Hp->Prop)->Prop
def PIE(X:Cx)(pins:List (Addr×Obj))(σ:St)(tg:Expr)(R:It->Hp->Prop)(itv:Value)(s2:Shared):Prop :=
 ∃(it:Addr) (fp:List Addr) (tn:Nat->Heap->Prop) (J:It) (H':Hp),itv=.ref it/\Inv X pins σ H' s2/\Turn X.prog X.w X.K tg J fp it tn/\tn 0 s2.heap/\(∀b∈fp,FpOk X pins H' b)/\R J H'
def PI(X:Cx)(tg iter:Expr)(wi:TI):Prop :=
 ∀(pins:List (Addr×Obj)) (s:Shared) (σ:St) (H:Hp) (R:It->Hp->Prop),Inv X pins σ H s->wi σ H R ->
  wpAny (model X.prog X.w) X.A (eval iter X.env) (fun v s1=>wpAny (model X.prog X.w) X.A (pyIter v) (PIE X pins σ tg R) X.xe s1) X.xe s
theorem go_of {M : Model} {A : Around} {E : Value → Shared → Prop} {s : Shared} {tg : Expr} {it : Addr} {u : Value} {o : Obj} {n : String} {vs : Array Value} {Q : Unit → Shared → Prop} (ho : s.heap.get? it = some o) (hc : o.cls = .type n) (hd : o.data = .fields vs)
    (hn : ["enumerate", "zip", "dict_itemiterator", "dict_reverseitemiterator", "odict_iterator", "itertools.zip_longest", "itertools.pairwise"].contains n = false) (hQ : Q () s) : wpAny M A (letOwnedTupleGo tg (.ref it) u) Q E s := by
  unfold letOwnedTupleGo
  cases tg <;> first
    | exact wpAny_pure hQ
    | (cases u <;> first
        | exact wpAny_pure hQ
        | (refine wpAny_bind (wpAny_load ho ?_)
           rw [hc, hd]
           show wpAny M A (if (["enumerate", "zip", "dict_itemiterator", "dict_reverseitemiterator", "odict_iterator", "itertools.zip_longest", "itertools.pairwise"].contains n && vs[0]? == some (rawInt _)) = true then _ else _) Q E s
           rw [if_neg (by intro h; rw [hn, Bool.false_and] at h; cases h)]
           exact wpAny_pure hQ))
def Itl(K:PySem.W.Frag)(a:Addr):It :=
 ⟨fun i H=>∃xs x,SqL K H a xs/\xs[i]?=some x,fun i H x H'=>H'=H/\∀xs,SqL K H a xs->xs[i]?=some x,fun i H=>∃xs,SqL K H a xs/\xs.length<=i⟩
def Itt(K:PySem.W.Frag)(a:Addr):It :=
 ⟨fun i H=>∃xs x,SqT K H a xs/\xs[i]?=some x,fun i H x H'=>H'=H/\∀xs,SqT K H a xs->xs[i]?=some x,fun i H=>∃xs,SqT K H a xs/\xs.length<=i⟩
def Itr(lo:Int)(n:Nat):It:=⟨fun i _=>i<n,fun i H x H'=>H'=H/\x=.int (lo+i),fun i _=>n<=i⟩
theorem turn_list{P:Program}{w:World}{K:PySem.W.Frag}{tg:Expr}(a it:Addr):Turn P w K tg (Itl K a) [it] it (fun i h=>h.IsListIter it a i) where
 mem:=by simp
 obj:=fun i h st b hb=>by
  have e:b=it:=by simpa using hb
  subst e
  obtain⟨o,e,c,d⟩:=st
  exact⟨o,e,fun v z=>by rw[d]at z;cases z⟩
 keep:=fun i h h' st k=>st.at fun o e=>k it (by simp) o e
 item:=by
  intro X hP hw hK hc i pins s σ H E I hf st hg
  subst hP hw hK
  obtain⟨xs,x,hq,hx⟩:=hg
  obtain⟨its,rv,p,hz⟩:=I.list hq
  obtain⟨u,hu,ru⟩:=rv.get hx
  obtain⟨f0,f1,f2,f3,f4,f5⟩:=hf it (by simp)
  refine wpAny_pyNext_list_item st p.isList (x:=u) (by simpa using hu) fun h' st' sb=>?_
  have I1:Inv X pins σ H {s with heap:=h'}:=I.turned (t':=s.toks) (fun b o hb e=>(sb.2 b hb).trans e) f0 f1 f3 f4 f5
  obtain⟨o,e,c,d⟩:=id st'
  exact⟨u,rfl,go_of (s:={s with heap:=h'}) e c d (by decide) ⟨x,H,I1,ru,⟨rfl,fun ys hy=>by rw[I.list_inj hy hq];exact hx⟩,st',fun b hb=>(hf b hb).1⟩⟩
 done:=by
  intro X hP hw hK hc i pins s σ H E I hf st hg
  subst hP hw hK
  obtain⟨xs,hq,hx⟩:=hg
  obtain⟨its,rv,p,hz⟩:=I.list hq
  obtain⟨f0,f1,f2,f3,f4,f5⟩:=hf it (by simp)
  have hl:=rv.length
  exact wpAny_pyNext_list_end (I.ok.hd hc) st p.isList (by simp;omega) fun h' eb=>⟨rfl,I.turned (t':=s.toks) (fun b o hb e=>eb b o hb e) f0 f1 f3 f4 f5⟩
 self:=fun _ _ _ _ _ st h=>wpAny_pyIter_listiter st h
theorem turn_tuple{P:Program}{w:World}{K:PySem.W.Frag}{tg:Expr}(a it:Addr):Turn P w K tg (Itt K a) [it] it (fun i h=>h.IsTupleIter it a i) where
 mem:=by simp
 obj:=fun i h st b hb=>by
  have e:b=it:=by simpa using hb
  subst e
  obtain⟨o,e,c,d⟩:=st
  exact⟨o,e,fun v z=>by rw[d]at z;cases z⟩
 keep:=fun i h h' st k=>st.at fun o e=>k it (by simp) o e
 item:=by
  intro X hP hw hK hc i pins s σ H E I hf st hg
  subst hP hw hK
  obtain⟨xs,x,hq,hx⟩:=hg
  obtain⟨its,rv,p,hz⟩:=I.tuple hq
  obtain⟨u,hu,ru⟩:=rv.get hx
  obtain⟨f0,f1,f2,f3,f4,f5⟩:=hf it (by simp)
  refine wpAny_pyNext_tuple_item st (show s.heap.IsTuple a its.toArray from p) (x:=u) (by simpa using hu) fun h' st' sb=>?_
  have I1:Inv X pins σ H {s with heap:=h'}:=I.turned (t':=s.toks) (fun b o hb e=>(sb.2 b hb).trans e) f0 f1 f3 f4 f5
  obtain⟨o,e,c,d⟩:=id st'
  exact⟨u,rfl,go_of (s:={s with heap:=h'}) e c d (by decide) ⟨x,H,I1,ru,⟨rfl,fun ys hy=>by rw[I.tuple_inj hy hq];exact hx⟩,st',fun b hb=>(hf b hb).1⟩⟩
 done:=by
  intro X hP hw hK hc i pins s σ H E I hf st hg
  subst hP hw hK
  obtain⟨xs,hq,hx⟩:=hg
  obtain⟨its,rv,p,hz⟩:=I.tuple hq
  obtain⟨f0,f1,f2,f3,f4,f5⟩:=hf it (by simp)
  have hl:=rv.length
  exact wpAny_pyNext_tuple_end (I.ok.hd hc) st (show s.heap.IsTuple a its.toArray from p) (by simp;omega) fun h' eb=>⟨rfl,I.turned (t':=s.toks) (fun b o hb e=>eb b o hb e) f0 f1 f3 f4 f5⟩
 self:=fun _ _ _ _ _ st h=>wpAny_pyIter_tupleiter st h
theorem turn_range{P:Program}{w:World}{K:PySem.W.Frag}{tg:Expr}(it:Addr)(lo:Int)(n:Nat):Turn P w K tg (Itr lo n) [it] it (fun i h=>IsRangeIter h it (lo+(i:Nat)*1) ((n:Int) - (i:Nat)) 1) where
 mem:=by simp
 obj:=fun i h st b hb=>by
  have e:b=it:=by simpa using hb
  subst e
  exact⟨_,st,fun v z=>by
   have z':Data.fields _=Data.cell v:=z
   cases z'⟩
 keep:=fun i h h' st k=>k it (by simp) _ st
 item:=by
  intro X hP hw hK hc i pins s σ H E I hf st hg
  subst hP hw hK
  obtain⟨f0,f1,f2,f3,f4,f5⟩:=hf it (by simp)
  have W:=Walks.range (prog:=X.prog) (w:=X.w) (I.ok.hd hc) it lo 1 n
  refine W.item i s _ _ hg st fun v h' tk hv st' kk=>?_
  obtain⟨t,rfl⟩:=hv
  have I1:Inv X pins σ H {s with heap:=h',toks:=tk}:=I.turned (fun b o hb e=>kk b o (by simpa using hb) e) f0 f1 f3 f4 f5
  refine⟨_,rfl,go_of (s:={s with heap:=h',toks:=tk}) (n:="range_iterator") st' rfl rfl (by decide) ⟨.int (lo+i),H,I1,⟨t,?_⟩,⟨rfl,rfl⟩,st',fun b hb=>(hf b hb).1⟩⟩
  rw[Int.mul_one]
 done:=by
  intro X hP hw hK hc i pins s σ H E I hf st hg
  subst hP hw hK
  obtain⟨f0,f1,f2,f3,f4,f5⟩:=hf it (by simp)
  exact wpAny_pyNext_range_end (I.ok.hd hc) st (by have:n<=i:=hg;omega) fun h' eb=>⟨rfl,I.turned (t':=s.toks) (fun b o hb e=>eb b o hb e) f0 f1 f3 f4 f5⟩
 self:=fun _ _ _ _ _ st h=>wpAny_pyIter_rangeiter st h
section
variable {X:Cx}{tg:Expr}
def iList(K:PySem.W.Frag)(tl:TE):TI:=fun σ H R=>tl σ H fun x H1=>∃a,x=.ref a/\(∃xs,SqL K H1 a xs)/\R (Itl K a) H1
def iTup(K:PySem.W.Frag)(tl:TE):TI:=fun σ H R=>tl σ H fun x H1=>∃a,x=.ref a/\(∃xs,SqT K H1 a xs)/\R (Itt K a) H1
theorem pi_list{l:Expr}{tl:TE}(hl:PE X l tl):PI X tg l (iList X.K tl):=by
 intro pins s σ H R I h
 refine thn (hl pins s σ H _ I h) fun v s1 ⟨x,H1,I1,r1,q1⟩=>?_
 obtain⟨a,e,⟨xs,hq⟩,q⟩:=q1
 subst e
 cases r1
 obtain⟨its,rv,p,hz⟩:=I1.list hq
 refine wpAny_pyIter_list p.isList ?_
 refine⟨s1.heap.objs.size,[s1.heap.objs.size],_,_,H1,rfl,I1.kept (t':=s1.toks) fun b o e=>Heap.get?_push_of_some _ e,turn_list a _,⟨_,Heap.get?_push_size _ rfl,rfl,rfl⟩,fun b hb=>?_,q⟩
 have e:b=s1.heap.objs.size:=by simpa using hb
 subst e
 exact I1.fpOk (Nat.le_refl _) (I1.hok.fresh (Nat.le_refl _))
theorem pi_tup{l:Expr}{tl:TE}(hl:PE X l tl):PI X tg l (iTup X.K tl):=by
 intro pins s σ H R I h
 refine thn (hl pins s σ H _ I h) fun v s1 ⟨x,H1,I1,r1,q1⟩=>?_
 obtain⟨a,e,⟨xs,hq⟩,q⟩:=q1
 subst e
 cases r1
 obtain⟨its,rv,p,hz⟩:=I1.tuple hq
 refine wpAny_pyIter_tuple (show s1.heap.IsTuple a its.toArray from p) ?_
 refine⟨s1.heap.objs.size,[s1.heap.objs.size],_,_,H1,rfl,I1.kept (t':=s1.toks) fun b o e=>Heap.get?_push_of_some _ e,turn_tuple a _,⟨_,Heap.get?_push_size _ rfl,rfl,rfl⟩,fun b hb=>?_,q⟩
 have e:b=s1.heap.objs.size:=by simpa using hb
 subst e
 exact I1.fpOk (Nat.le_refl _) (I1.hok.fresh (Nat.le_refl _))
theorem range_it{pins:List (Addr×Obj)}{σ:St}{H:Hp}{s:Shared}{R:It->Hp->Prop}{E:Value->Shared->Prop}{lo hi:Int}{t u v:Tok}{tk:Nat}(I:Inv X pins σ H s)(h1:-(2 ^ 62)<=lo)(h2:lo<2 ^ 62)(h3:-(2 ^ 62)<=hi)(h4:hi<2 ^ 62)
  (q:R (Itr lo (hi-lo).toNat) H):wpAny (model X.prog X.w) X.A (pyIter (.ref s.heap.objs.size)) (PIE X pins σ tg R) E {s with heap:=s.heap.push {cls:=.type "range",data:=.fields #[.int lo t,.int hi u,.int 1 v]},toks:=tk}:=by
 refine wpAny_pyIter_range (IsRange.new ..) (small_one h1 h2 h3 h4) ?_
 have I1:Inv X pins σ H {s with heap:=s.heap.push {cls:=.type "range",data:=.fields #[.int lo t,.int hi u,.int 1 v]},toks:=tk}:=I.kept fun b o e=>Heap.get?_push_of_some _ e
 refine⟨(s.heap.push {cls:=.type "range",data:=.fields #[.int lo t,.int hi u,.int 1 v]}).objs.size,[(s.heap.push {cls:=.type "range",data:=.fields #[.int lo t,.int hi u,.int 1 v]}).objs.size],_,_,H,rfl,
  I1.kept (t':=tk) fun b o e=>Heap.get?_push_of_some _ e,turn_range _ lo (hi-lo).toNat,?_,fun b hb=>?_,q⟩
 ·have e1:lo+((0:Nat):Int)*1=lo:=by simp
  have e2:(((hi-lo).toNat:Nat):Int) - ((0:Nat):Int)=Builtin.Range.rangeSize lo hi 1:=by rw[rangeSize_one];split<;>omega
  show IsRangeIter _ _ (lo+((0:Nat):Int)*1) ((((hi-lo).toNat:Nat):Int) - ((0:Nat):Int)) 1
  rw[e1,e2]
  exact Heap.get?_push_size _ rfl
 ·have e:b=(s.heap.push {cls:=.type "range",data:=.fields #[.int lo t,.int hi u,.int 1 v]}).objs.size:=by simpa using hb
  subst e
  exact I1.fpOk (Nat.le_refl _) (I1.hok.fresh (Nat.le_refl _))
def iRng1(ta:TA):TI:=fun σ H R=>ta σ H fun vs H1=>∃j:Int,vs=[.int j]/\-(2 ^ 62)<=j/\j<2 ^ 62/\R (Itr 0 j.toNat) H1
def iRng2(ta:TA):TI:=fun σ H R=>ta σ H fun vs H1=>∃i j:Int,vs=[.int i,.int j]/\(-(2 ^ 62)<=i/\i<2 ^ 62/\-(2 ^ 62)<=j/\j<2 ^ 62)/\R (Itr i (j-i).toNat) H1
theorem pi_range1{a:Expr}{ta:TA}{p pos:Pos}(hg:Gl X "range")(hm:X.mg "range"=none)(ha:PA X [a] ta)(hs:starEach [a] X.env=[(false,eval a X.env)]:=by rfl):PI X tg (.Call (.Name "range" p) [a] [] pos) (iRng1 ta):=by
 intro pins s σ H R I h
 refine Call_ (ld_blt I hg hm boot_range (PyProof.Rows.callWith_type1 (thn (ha pos pins s σ H _ I h) fun us s1 ⟨vs,H1,I1,r1,q1⟩=>?_) hs rfl))
 obtain⟨j,e,q1,q2,q⟩:=q1
 subst e
 cases r1 with
 |cons r rr =>
  cases rr
  obtain⟨t,rfl⟩:=r
  exact call_range_1 (range_it I1 (by omega) (by omega) q1 q2 (by simpa using q))
theorem pi_range2{a b:Expr}{ta:TA}{p pos:Pos}(hg:Gl X "range")(hm:X.mg "range"=none)(ha:PA X [a,b] ta)(hs:starEach [a,b] X.env=[(false,eval a X.env),(false,eval b X.env)]:=by rfl)(hs2:starEach [b] X.env=[(false,eval b X.env)]:=by rfl) :
  PI X tg (.Call (.Name "range" p) [a,b] [] pos) (iRng2 ta):=by
 intro pins s σ H R I h
 refine Call_ (ld_blt I hg hm boot_range (PyProof.Rows.callWith_type1 (thn (ha pos pins s σ H _ I h) fun us s1 ⟨vs,H1,I1,r1,q1⟩=>?_) (by rw[hs,hs2]) (by rw[hs2];rfl)))
 obtain⟨i,j,e,⟨q1,q2,q3,q4⟩,q⟩:=q1
 subst e
 cases r1 with
 |cons r rr =>
  cases rr with
  |cons r' rr =>
   cases rr
   obtain⟨t,rfl⟩:=r
   obtain⟨t',rfl⟩:=r'
   exact call_range_2 (range_it I1 q1 q2 q3 q4 q)
def tFor(wi:TI)(g:TG)(tb:TS):TS:=fun D σ H=>wi σ H fun J H1=>∃W:Nat->Nat->St->Hp->Prop,(∃m,W 0 m σ H1)/\∀i m σ H,W i m σ H ->
 (J.stop i H/\D.nx σ H)\/(J.go i H/\∃N:St->Hp->Prop,(∀σ' H',N σ' H'->∃m',m' < m/\W (i+1) m' σ' H')/\∀x H',J.yld i H x H'->g x σ H' fun σ2 H2=>tb {D with nx:=N,ct:=N,bk:=D.nx} σ2 H2)
def pinsAt(fp:List Addr)(h:Heap):List (Addr×Obj):=fp.filterMap fun b=>(h.get? b).map fun o=>(b,o)
theorem mem_pinsAt{fp:List Addr}{h:Heap}{b:Addr}{o:Obj}(hb:b∈fp)(e:h.get? b=some o):(b,o)∈pinsAt fp h:=List.mem_filterMap.mpr ⟨b,hb,by rw[e];rfl⟩
theorem of_pinsAt{fp:List Addr}{h:Heap}{p:Addr×Obj}(hp:p∈pinsAt fp h):p.1∈fp/\h.get? p.1=some p.2:=by
 obtain⟨b,hb,e⟩:=List.mem_filterMap.mp hp
 cases q:h.get? b with
 |none=>rw[q]at e;cases e
 |some o =>
  rw[q]at e
  have e':(b,o)=p:=Option.some.inj e
  subst e'
  exact⟨hb,q⟩
theorem Inv.pinned{pins:List (Addr×Obj)}{σ:St}{H:Hp}{s:Shared}{fp:List Addr}(I:Inv X pins σ H s)(hf:∀b∈fp,FpOk X pins H b)(ho:∀b∈fp,∃o,s.heap.get? b=some o/\∀v,o.data≠.cell v):Inv X (pins++pinsAt fp s.heap) σ H s :=
 I.pins_of fun p hp=>(List.mem_append.mp hp).elim (fun z=>I.pin p (List.mem_append_right _ z)) fun z=>by
  obtain⟨hb,e⟩:=of_pinsAt z
  obtain⟨f0,f1,f2,_⟩:=hf p.1 hb
  obtain⟨o,e',d⟩:=ho p.1 hb
  rw[e]at e';cases e'
  exact⟨e,f0,f1,f2,d⟩
theorem Inv.unpinned{pins pl:List (Addr×Obj)}{σ:St}{H:Hp}{s:Shared}(I:Inv X (pins++pl) σ H s):Inv X pins σ H s:=I.pins_of fun p hp=>I.pin p (List.mem_append_right _ (List.mem_append_left _ hp))
theorem ps_for{iter:Expr}{body:List Stmt}{wi:TI}{g:TG}{tb:TS}{pos:Pos}(hp:PassesOwn (model X.prog X.w) X.A X.env X.xe)(hc:X.calm=true)(hi:PI X tg iter wi)(hg:PG X tg g)(hb:PSs X body tb)
  (hs:∀x,foldedSetIterable iter X.env x=pure x:=by intro _;rfl):PS X (.For tg iter body [] pos) (tFor wi g tb):=by
 intro pins s σ H D I h
 refine wpAny_For (thn (hi pins s σ H _ I h) fun v s1 h1=>thn h1 fun itv s2 h2=>?_) hs
 obtain⟨it,fp,tn,J,H2,e,I2,T,st2,f2,W,⟨m0,w0⟩,turn⟩:=h2
 subst e
 -- what stays true of the iterator's objects through the loop
 have stat:∀{H':Hp},(∀b∈fp,H' b=none)->∀b∈fp,FpOk X pins H' b:=fun hn b hb=>⟨hn b hb,(f2 b hb).2⟩
 refine codeAny_forLoop_any (fun n s'=>∃i σ' H',Inv X pins σ' H' s'/\tn i s'.heap/\(∀b∈fp,H' b=none)/\W i n σ' H') ?_ m0 ⟨0,σ,H2,I2,st2,fun b hb=>(f2 b hb).1,w0⟩
 rintro n s3 ⟨i,σ3,H3,I3,st3,fr3,w3⟩
 rcases turn i n σ3 H3 w3 with⟨stop,qn⟩|⟨go,N,hN,step⟩
 ·refine wpAny_passesOwn hp (thn (T.done X rfl rfl rfl hc i pins s3 σ3 H3 X.xe I3 (stat fr3) st3 stop) fun r s4 ⟨hr,I4⟩=>?_)
  subst hr
  exact wpAny_execs_nil ⟨σ3,H3,I4,qn⟩
 ·refine wpAny_passesOwn hp (thn (T.item X rfl rfl rfl hc i pins s3 σ3 H3 X.xe I3 (stat fr3) st3 go) fun r s4 ⟨u,hr,h4⟩=>?_)
  subst hr
  refine wpAny_passesOwn hp (thn h4 fun _ s5 ⟨x,H5,I5,r5,y5,st5,fr5⟩=>?_)
  have I5':=I5.pinned (stat fr5) (T.obj _ _ st5)
  refine wpAny_passesOwn hp (thn (hg _ s5 σ3 H5 x u _ I5' r5 (step x H5 y5)) fun _ s6 ⟨σ6,H6,I6,q6⟩=>?_)
  refine wpAny_passesOwn hp (thn (hb _ s6 σ6 H6 _ I6 q6) fun f s7 q7=>?_)
  have again:∀{σ7:St}{H7:Hp},Inv X (pins++pinsAt fp s5.heap) σ7 H7 s7->N σ7 H7->∃m,m<n/\∃i σ' H',Inv X pins σ' H' s7/\tn i s7.heap/\(∀b∈fp,H' b=none)/\W i m σ' H':=fun{σ7 H7} I7 n7=>by
   obtain⟨m',hm,w7⟩:=hN σ7 H7 n7
   refine⟨m',hm,i+1,σ7,H7,I7.unpinned,T.keep _ _ _ st5 fun b hb o e=>(I7.pin (b,o) (List.mem_append_right _ (List.mem_append_right _ (mem_pinsAt hb e)))).1,fun b hb=>?_,w7⟩
   obtain⟨o,e,d⟩:=T.obj _ _ st5 b hb
   exact(I7.pin (b,o) (List.mem_append_right _ (List.mem_append_right _ (mem_pinsAt hb e)))).2.1
  cases f with
  |next=>obtain⟨σ7,H7,I7,n7⟩:=q7;exact again I7 n7
  |cont=>obtain⟨σ7,H7,I7,n7⟩:=q7;exact again I7 n7
  |brk=>obtain⟨σ7,H7,I7,q7⟩:=q7;exact⟨σ7,H7,I7.unpinned,q7⟩
  |ret v=>obtain⟨x7,σ7,H7,I7,r7,q7⟩:=q7;exact⟨x7,σ7,H7,I7.unpinned,r7,q7⟩
end
theorem for_list{K:PySem.W.Frag}{a:Addr}{xs:List V}{g:TG}{tb:TS}{D:Ends}{σ:St}{H:Hp}(Pv:Nat->St->Hp->Prop)(h0:Pv 0 σ H)(hl:∀i σ H,i<=xs.length->Pv i σ H->SqL K H a xs)
  (hs:∀i x σ H,xs[i]?=some x->Pv i σ H->g x σ H fun σ2 H2=>tb {D with nx:=Pv (i+1),ct:=Pv (i+1),bk:=D.nx} σ2 H2) (hd:∀σ H,Pv xs.length σ H->D.nx σ H) :
  ∃W:Nat->Nat->St->Hp->Prop,(∃m,W 0 m σ H)/\∀i m σ H,W i m σ H ->
   ((Itl K a).stop i H/\D.nx σ H)\/((Itl K a).go i H/\∃N:St->Hp->Prop,(∀σ' H',N σ' H'->∃m',m' < m/\W (i+1) m' σ' H')/\∀x H',(Itl K a).yld i H x H'->g x σ H' fun σ2 H2=>tb {D with nx:=N,ct:=N,bk:=D.nx} σ2 H2):=by
 refine⟨fun i m σ H=>m=xs.length-i/\i<=xs.length/\Pv i σ H,⟨xs.length,by simp,Nat.zero_le _,h0⟩,?_⟩
 rintro i m σ H ⟨rfl,hi,p⟩
 have q:=hl i σ H hi p
 by_cases hlt:i<xs.length
 ·refine .inr ⟨⟨xs,xs[i],q,by simp[hlt]⟩,Pv (i+1),fun σ' H' p'=>⟨xs.length - (i+1),by omega,rfl,hlt,p'⟩,fun x H' y=>?_⟩
  obtain⟨e,y⟩:=y
  subst e
  exact hs i x σ _ (y xs q) p
 ·have e:i=xs.length:=by omega
  subst e
  exact .inl ⟨⟨xs,q,Nat.le_refl _⟩,hd σ H p⟩
theorem for_tup{K:PySem.W.Frag}{a:Addr}{xs:List V}{g:TG}{tb:TS}{D:Ends}{σ:St}{H:Hp}(Pv:Nat->St->Hp->Prop)(h0:Pv 0 σ H)(hl:∀i σ H,i<=xs.length->Pv i σ H->SqT K H a xs)
  (hs:∀i x σ H,xs[i]?=some x->Pv i σ H->g x σ H fun σ2 H2=>tb {D with nx:=Pv (i+1),ct:=Pv (i+1),bk:=D.nx} σ2 H2) (hd:∀σ H,Pv xs.length σ H->D.nx σ H) :
  ∃W:Nat->Nat->St->Hp->Prop,(∃m,W 0 m σ H)/\∀i m σ H,W i m σ H ->
   ((Itt K a).stop i H/\D.nx σ H)\/((Itt K a).go i H/\∃N:St->Hp->Prop,(∀σ' H',N σ' H'->∃m',m' < m/\W (i+1) m' σ' H')/\∀x H',(Itt K a).yld i H x H'->g x σ H' fun σ2 H2=>tb {D with nx:=N,ct:=N,bk:=D.nx} σ2 H2):=by
 refine⟨fun i m σ H=>m=xs.length-i/\i<=xs.length/\Pv i σ H,⟨xs.length,by simp,Nat.zero_le _,h0⟩,?_⟩
 rintro i m σ H ⟨rfl,hi,p⟩
 have q:=hl i σ H hi p
 by_cases hlt:i<xs.length
 ·refine .inr ⟨⟨xs,xs[i],q,by simp[hlt]⟩,Pv (i+1),fun σ' H' p'=>⟨xs.length - (i+1),by omega,rfl,hlt,p'⟩,fun x H' y=>?_⟩
  obtain⟨e,y⟩:=y
  subst e
  exact hs i x σ _ (y xs q) p
 ·have e:i=xs.length:=by omega
  subst e
  exact .inl ⟨⟨xs,q,Nat.le_refl _⟩,hd σ H p⟩
theorem for_range{lo:Int}{n:Nat}{g:TG}{tb:TS}{D:Ends}{σ:St}{H:Hp}(Pv:Nat->St->Hp->Prop)(h0:Pv 0 σ H)
  (hs:∀i σ H,i<n->Pv i σ H->g (.int (lo+i)) σ H fun σ2 H2=>tb {D with nx:=Pv (i+1),ct:=Pv (i+1),bk:=D.nx} σ2 H2) (hd:∀σ H,Pv n σ H->D.nx σ H) :
  ∃W:Nat->Nat->St->Hp->Prop,(∃m,W 0 m σ H)/\∀i m σ H,W i m σ H ->
   ((Itr lo n).stop i H/\D.nx σ H)\/((Itr lo n).go i H/\∃N:St->Hp->Prop,(∀σ' H',N σ' H'->∃m',m' < m/\W (i+1) m' σ' H')/\∀x H',(Itr lo n).yld i H x H'->g x σ H' fun σ2 H2=>tb {D with nx:=N,ct:=N,bk:=D.nx} σ2 H2):=by
 refine⟨fun i m σ H=>m=n-i/\i<=n/\Pv i σ H,⟨n,by simp,Nat.zero_le _,h0⟩,?_⟩
 rintro i m σ H ⟨rfl,hi,p⟩
 by_cases hlt:i<n
 ·refine .inr ⟨hlt,Pv (i+1),fun σ' H' p'=>⟨n - (i+1),by omega,rfl,hlt,p'⟩,fun x H' y=>?_⟩
  obtain⟨e,y⟩:=y
  subst e y
  exact hs i σ _ hlt p
 ·have e:i=n:=by omega
  subst e
  exact .inl ⟨Nat.le_refl _,hd σ H p⟩
abbrev R2:=V->V->Hp->VK->Prop
def OpR(X:Cx)(f:Value->Value->Sem Value)(r:R2):Prop :=
 ∀(pins:List (Addr×Obj)) (s:Shared) (σ:St) (H:Hp) (x y:V) (v u:Value) (Q:VK),Inv X pins σ H s->RelV x v->RelV y u->r x y H Q ->
  wpAny (model X.prog X.w) X.A (f v u) (EP X pins σ Q) X.xe s
def UnR(X:Cx)(f:Value->Sem Value)(r:V->Hp->VK->Prop):Prop :=
 ∀(pins:List (Addr×Obj)) (s:Shared) (σ:St) (H:Hp) (x:V) (v:Value) (Q:VK),Inv X pins σ H s->RelV x v->r x H Q ->
  wpAny (model X.prog X.w) X.A (f v) (EP X pins σ Q) X.xe s
def CallR(X:Cx)(f:Value)(r:List V->Hp->VK->Prop):Prop :=
 ∀(pins:List (Addr×Obj)) (s:Shared) (σ:St) (H:Hp) (xs:List V) (us:List Value) (Q:VK),Inv X pins σ H s->Vals xs us->r xs H Q ->
  wpAny (model X.prog X.w) X.A (call f us) (EP X pins σ Q) X.xe s
def TruR(X:Cx)(r:V->Hp->(Bool->Hp->Prop)->Prop):Prop :=
 ∀(pins:List (Addr×Obj)) (s:Shared) (σ:St) (H:Hp) (x:V) (v:Value) (Q:Bool->Hp->Prop),Inv X pins σ H s->RelV x v->r x H Q ->
  wpAny (model X.prog X.w) X.A (truthy v) (TP X pins σ Q) X.xe s
def tOp(r:R2)(ta tb:TE):TE:=fun σ H Q=>ta σ H fun x H1=>tb σ H1 fun y H2=>r x y H2 Q
def tUn(r:V->Hp->VK->Prop)(ta:TE):TE:=fun σ H Q=>ta σ H fun x H1=>r x H1 Q
def rI(C:Int->Int->Prop)(g:Int->Int->V):R2:=fun x y H Q=>∃i j,x=.int i/\y=.int j/\C i j/\Q (g i j) H
def rI0(g:Int->Int->V):R2:=fun x y H Q=>∃i j,x=.int i/\y=.int j/\Q (g i j) H
def rU(g:Int->V):V->Hp->VK->Prop:=fun x H Q=>∃i,x=.int i/\Q (g i) H
section
variable {X:Cx}{a b c:Expr}{ta tb tc:TE}{pos:Pos}
theorem binT(ha:PE X a ta)(hb:PE X b tb){pins:List (Addr×Obj)}{s:Shared}{σ:St}{H:Hp}{R:V->V->Hp->Prop}(I:Inv X pins σ H s)
  (h:ta σ H fun x H1=>tb σ H1 fun y H2=>R x y H2) {Q:Value->Shared->Prop}{f:Value->Value->Sem Value}
  (hf:∀v u s2 x y H2,Inv X pins σ H2 s2->RelV x v->RelV y u->R x y H2->wpAny (model X.prog X.w) X.A (f v u) Q X.xe s2) :
  wpAny (model X.prog X.w) X.A (eval a X.env) (fun v s₁=>wpAny (model X.prog X.w) X.A (eval b X.env) (fun u s₂=>wpAny (model X.prog X.w) X.A (f v u) Q X.xe s₂) X.xe s₁) X.xe s:=by
 refine thn (ha pins s σ H _ I h) fun v s1 ⟨x,H1,I1,r1,q1⟩=>?_
 refine thn (hb pins s1 σ H1 _ I1 q1) fun u s2 ⟨y,H2,I2,r2,q2⟩=>?_
 exact hf v u s2 x y H2 I2 r1 r2 q2
theorem pe_op{op:Operator}{r:R2}(ho:OpR X (binaryOp op) r)(ha:PE X a ta)(hb:PE X b tb):PE X (.BinOp a op b pos) (tOp r ta tb):=by
 intro pins s σ H Q I h
 exact wpAny_BinOp (binT ha hb I h fun v u s2 x y H2 I2 rx ry q=>ho pins s2 σ H2 x y v u Q I2 rx ry q)
theorem pe_un{op:UnaryOp}{r:V->Hp->VK->Prop}(ho:UnR X (unaryOp op) r)(ha:PE X a ta):PE X (.UnaryOp op a pos) (tUn r ta):=by
 intro pins s σ H Q I h
 exact UnaryOp_ (thn (ha pins s σ H _ I h) fun v s1 ⟨x,H1,I1,r1,q1⟩=>ho pins s1 σ H1 x v Q I1 r1 q1)
theorem opI{f:Value->Value->Sem Value}{C:Int->Int->Prop}{g:Int->Int->Int}
  (rule:∀(i j:Int) (t u:Tok) (s:Shared) (Q:Value->Shared->Prop) (E:Value->Shared->Prop),C i j->Q (.int (g i j) s.toks) {s with toks:=s.toks+1}->wpAny (model X.prog X.w) X.A (f (.int i t) (.int j u)) Q E s) :
  OpR X f (rI C fun i j=>.int (g i j)):=by
 intro pins s σ H x y v u Q I rx ry h
 obtain⟨i,j,rfl,rfl,hc,q⟩:=h
 obtain⟨t,rfl⟩:=rx
 obtain⟨t',rfl⟩:=ry
 exact rule i j t t' s _ _ hc ⟨.int (g i j),H,I.tok _,⟨_,rfl⟩,q⟩
theorem opI0{f:Value->Value->Sem Value}{g:Int->Int->Int}
  (rule:∀(i j:Int) (t u:Tok) (s:Shared) (Q:Value->Shared->Prop) (E:Value->Shared->Prop),Q (.int (g i j) s.toks) {s with toks:=s.toks+1}->wpAny (model X.prog X.w) X.A (f (.int i t) (.int j u)) Q E s) :
  OpR X f (rI0 fun i j=>.int (g i j)):=by
 intro pins s σ H x y v u Q I rx ry h
 obtain⟨i,j,rfl,rfl,q⟩:=h
 obtain⟨t,rfl⟩:=rx
 obtain⟨t',rfl⟩:=ry
 exact rule i j t t' s _ _ ⟨.int (g i j),H,I.tok _,⟨_,rfl⟩,q⟩
theorem opB0{f:Value->Value->Sem Value}{g:Int->Int->Bool}
  (rule:∀(i j:Int) (t u:Tok) (s:Shared) (Q:Value->Shared->Prop) (E:Value->Shared->Prop),Q (.bool (g i j)) s->wpAny (model X.prog X.w) X.A (f (.int i t) (.int j u)) Q E s) :
  OpR X f (rI0 fun i j=>.bl (g i j)):=by
 intro pins s σ H x y v u Q I rx ry h
 obtain⟨i,j,rfl,rfl,q⟩:=h
 obtain⟨t,rfl⟩:=rx
 obtain⟨t',rfl⟩:=ry
 exact rule i j t t' s _ _ ⟨.bl (g i j),H,I,rfl,q⟩
def CDiv(i j:Int):Prop:=0<j/\j<1073741824
def CPow(i j:Int):Prop:=0<=j/\j<=1000000/\i.natAbs<2 ^ 64
def CMul(i j:Int):Prop:=(-(2 ^ 64)<i/\i<2 ^ 64)\/(-(2 ^ 64)<j/\j<2 ^ 64)
theorem CMul.ok{i j:Int}(h:CMul i j):IntMulOk i j:=by
 rcases h with⟨h1,h2⟩|⟨h1,h2⟩
 ·exact .of_left (intBits_le_64 h1 h2)
 ·exact .of_right (intBits_le_64 h1 h2)
theorem op_add:OpR X (binaryOp .Add) (rI0 fun i j=>.int (i+j)):=opI0 fun _ _ _ _ _ _ _ q=>add_int q
theorem op_sub:OpR X (binaryOp .Sub) (rI0 fun i j=>.int (i-j)):=opI0 fun _ _ _ _ _ _ _ q=>sub_int q
theorem op_mul:OpR X (binaryOp .Mult) (rI CMul fun i j=>.int (i*j)):=opI fun _ _ _ _ _ _ _ hc q=>mul_int q hc.ok
theorem op_fdiv:OpR X (binaryOp .FloorDiv) (rI CDiv fun i j=>.int (i / j)):=opI fun i j _ _ _ _ _ hc q=>by
 have h1:(0:Int)<j:=hc.1
 have h2:j<1073741824:=hc.2
 exact floordiv_int (by omega) (by rw[Int.fdiv_eq_ediv_of_nonneg i (by omega)];exact q) (.inl (PyProof.noPylong_small (by omega)))
theorem op_mod:OpR X (binaryOp .Mod) (rI (fun _ j=>0<j) fun i j=>.int (i % j)):=opI fun i j _ _ _ _ _ hc q=>by
 have h1:(0:Int)<j:=hc
 exact mod_int' (by omega) (by rw[Int.fmod_eq_emod_of_nonneg i (by omega)];exact q)
theorem op_pow:OpR X (binaryOp .Pow) (rI CPow fun i j=>.int (i ^ j.toNat)):=opI fun _ _ _ _ _ _ _ hc q=>pow_int_small hc.1 hc.2.1 hc.2.2 q
theorem unI{f:Value->Sem Value}{g:Int->Int}
  (rule:∀(i:Int) (t:Tok) (s:Shared) (Q:Value->Shared->Prop) (E:Value->Shared->Prop),Q (.int (g i) s.toks) {s with toks:=s.toks+1}->wpAny (model X.prog X.w) X.A (f (.int i t)) Q E s) :
  UnR X f (rU fun i=>.int (g i)):=by
 intro pins s σ H x v Q I rx h
 obtain⟨i,rfl,q⟩:=h
 obtain⟨t,rfl⟩:=rx
 exact rule i t s _ _ ⟨.int (g i),H,I.tok _,⟨_,rfl⟩,q⟩
theorem un_neg:UnR X (unaryOp .USub) (rU fun i=>.int (-i)):=unI fun _ _ _ _ _ q=>neg_int q
end
def scal:V->V->Bool
 |.non,.non=>true|.non,.int _=>true|.int _,.non=>true|.non,.bl _=>true|.bl _,.non=>true|.non,.str _=>true|.str _,.non=>true
 |.int _,.int _=>true|.bl _,.bl _=>true|.str _,.str _=>true|.byt _,.byt _=>true
 |.int _,.str _=>true|.str _,.int _=>true|.bl _,.str _=>true|.str _,.bl _=>true
 |_,_=>false
def rEq:R2:=fun x y H Q=>scal x y=true/\Q (.bl (decide (x=y))) H
def rNe:R2:=fun x y H Q=>scal x y=true/\Q (.bl (!decide (x=y))) H
theorem dec_int{i j:Int}:decide (V.int i=V.int j)=(i == j):=by
 rw[Bool.eq_iff_iff]
 simp
theorem dec_bl{i j:Bool}:decide (V.bl i=V.bl j)=(i == j):=by
 rw[Bool.eq_iff_iff]
 simp
theorem dec_str{i j:Str}:decide (V.str i=V.str j)=(i == j):=by
 rw[Bool.eq_iff_iff]
 simp
theorem dec_byt{i j:Array UInt8}:decide (V.byt i=V.byt j)=(i.toList == j.toList):=by
 rw[Bool.eq_iff_iff]
 cases i
 cases j
 simp
section
variable {X:Cx}{a b c:Expr}{ta tb tc:TE}{pos:Pos}
theorem fin_bl{pins:List (Addr×Obj)}{σ:St}{H:Hp}{s:Shared}{Q:VK}{k k':Bool}(I:Inv X pins σ H s)(q:Q (.bl k) H)(e:k=k'):EP X pins σ Q (.bool k') s:=by
 subst e
 exact⟨.bl k,H,I,rfl,q⟩
theorem op_eq:OpR X (compareOp .Eq) rEq:=by
 intro pins s σ H x y v u Q I rx ry h
 obtain⟨hs,q⟩:=h
 cases x with
 |non =>
  cases rx
  cases y with
  |non=>cases ry;exact PySem.EqNone.eq_none_none (fin_bl I q (by simp))
  |bl j=>cases ry;exact PySem.EqNone.eq_none_bool (fin_bl I q (by simp))
  |int j=>obtain⟨t',rfl⟩:=ry;exact PySem.EqNone.eq_none_int (fin_bl I q (by simp))
  |str j=>obtain⟨t',rfl⟩:=ry;exact PySem.EqNone.eq_none_str (fin_bl I q (by simp))
  |_=>exact absurd (show false=true from hs) Bool.false_ne_true
 |bl i =>
  cases rx
  cases y with
  |non=>cases ry;exact PySem.EqNone.eq_bool_none (fin_bl I q (by simp))
  |bl j=>cases ry;exact eq_bool (fin_bl I q dec_bl)
  |str j=>obtain⟨t',rfl⟩:=ry;exact PySem.EqMixed.eq_bool_str (fin_bl I q (by simp))
  |_=>exact absurd (show false=true from hs) Bool.false_ne_true
 |int i =>
  obtain⟨t,rfl⟩:=rx
  cases y with
  |non=>cases ry;exact PySem.EqNone.eq_int_none (fin_bl I q (by simp))
  |int j=>obtain⟨t',rfl⟩:=ry;exact eq_int (fin_bl I q dec_int)
  |str j=>obtain⟨t',rfl⟩:=ry;exact PySem.EqMixed.eq_int_str (fin_bl I q (by simp))
  |_=>exact absurd (show false=true from hs) Bool.false_ne_true
 |str i =>
  obtain⟨t,rfl⟩:=rx
  cases y with
  |non=>cases ry;exact PySem.EqNone.eq_str_none (fin_bl I q (by simp))
  |bl j=>cases ry;exact PySem.EqMixed.eq_str_bool (fin_bl I q (by simp))
  |int j=>obtain⟨t',rfl⟩:=ry;exact PySem.EqMixed.eq_str_int (fin_bl I q (by simp))
  |str j=>obtain⟨t',rfl⟩:=ry;exact eq_str (fin_bl I q dec_str)
  |_=>exact absurd (show false=true from hs) Bool.false_ne_true
 |byt i =>
  obtain⟨t,rfl⟩:=rx
  cases y with
  |byt j=>obtain⟨t',rfl⟩:=ry;exact PySem.W.eq_bytes (fin_bl I q dec_byt)
  |_=>exact absurd (show false=true from hs) Bool.false_ne_true
 |_=>cases y<;>exact absurd (show false=true from hs) Bool.false_ne_true
theorem op_ne:OpR X (compareOp .NotEq) rNe:=by
 intro pins s σ H x y v u Q I rx ry h
 obtain⟨hs,q⟩:=h
 cases x with
 |non =>
  cases rx
  cases y with
  |non=>cases ry;exact PySem.EqNone.ne_none_none (fin_bl I q (by simp))
  |bl j=>cases ry;exact PySem.EqNone.ne_none_bool (fin_bl I q (by simp))
  |int j=>obtain⟨t',rfl⟩:=ry;exact PySem.EqNone.ne_none_int (fin_bl I q (by simp))
  |str j=>obtain⟨t',rfl⟩:=ry;exact PySem.EqNone.ne_none_str (fin_bl I q (by simp))
  |_=>exact absurd (show false=true from hs) Bool.false_ne_true
 |bl i =>
  cases rx
  cases y with
  |non=>cases ry;exact PySem.EqNone.ne_bool_none (fin_bl I q (by simp))
  |bl j=>cases ry;exact ne_bool (fin_bl I q (congrArg not dec_bl))
  |str j=>obtain⟨t',rfl⟩:=ry;exact PySem.EqMixed.ne_bool_str (fin_bl I q (by simp))
  |_=>exact absurd (show false=true from hs) Bool.false_ne_true
 |int i =>
  obtain⟨t,rfl⟩:=rx
  cases y with
  |non=>cases ry;exact PySem.EqNone.ne_int_none (fin_bl I q (by simp))
  |int j=>obtain⟨t',rfl⟩:=ry;exact ne_int (fin_bl I q (congrArg not dec_int))
  |str j=>obtain⟨t',rfl⟩:=ry;exact PySem.EqMixed.ne_int_str (fin_bl I q (by simp))
  |_=>exact absurd (show false=true from hs) Bool.false_ne_true
 |str i =>
  obtain⟨t,rfl⟩:=rx
  cases y with
  |non=>cases ry;exact PySem.EqNone.ne_str_none (fin_bl I q (by simp))
  |bl j=>cases ry;exact PySem.EqMixed.ne_str_bool (fin_bl I q (by simp))
  |int j=>obtain⟨t',rfl⟩:=ry;exact PySem.EqMixed.ne_str_int (fin_bl I q (by simp))
  |str j=>obtain⟨t',rfl⟩:=ry;exact ne_str (fin_bl I q (congrArg not dec_str))
  |_=>exact absurd (show false=true from hs) Bool.false_ne_true
 |byt i =>
  obtain⟨t,rfl⟩:=rx
  cases y with
  |byt j=>obtain⟨t',rfl⟩:=ry;exact PySem.W.ne_bytes (fin_bl I q (congrArg not dec_byt))
  |_=>exact absurd (show false=true from hs) Bool.false_ne_true
 |_=>cases y<;>exact absurd (show false=true from hs) Bool.false_ne_true
theorem op_lt:OpR X (compareOp .Lt) (rI0 fun i j=>.bl (decide (i<j))):=opB0 fun _ _ _ _ _ _ _ q=>lt_int q
theorem op_gt:OpR X (compareOp .Gt) (rI0 fun i j=>.bl (decide (j<i))):=opB0 fun _ _ _ _ _ _ _ q=>gt_int q
theorem op_ge:OpR X (compareOp .GtE) (rI0 fun i j=>.bl (decide (j<=i))):=opB0 fun _ _ _ _ _ _ _ q=>ge_int q
theorem op_isN:OpR X (compareOp .Is) (fun x y H Q=>y=.non/\Q (.bl (decide (x=.non))) H):=by
 intro pins s σ H x y v u Q I rx ry h
 obtain⟨rfl,q⟩:=h
 cases ry
 refine is_none_gen (fin_bl I q ?_)
 cases x<;>first
  |(cases rx;rfl)
  |(obtain⟨t,rfl⟩:=rx;rfl)
theorem nomark(b:Expr){op:CmpOp}(h:op≠.In:=by decide)(h2:op≠.NotIn:=by decide):behindInMarks op b=false:=by
 have e1:(op == CmpOp.In)=false:=by cases op<;>first|rfl|exact absurd rfl h
 have e2:(op == CmpOp.NotIn)=false:=by cases op<;>first|rfl|exact absurd rfl h2
 cases b<;>simp[behindInMarks,e1,e2]
theorem pe_cmpR{op:CmpOp}{r:R2}(ho:OpR X (compareOp op) r)(ha:PE X a ta)(hb:PE X b tb)(hm:behindInMarks op b=false):PE X (.Compare a [op] [b] pos) (tOp r ta tb):=by
 intro pins s σ H Q I h
 exact wpAny_Compare1 (binT ha hb I h fun v u s2 x y H2 I2 rx ry q=>ho pins s2 σ H2 x y v u Q I2 rx ry q) hm
def tTest(t:TE):TT:=fun σ H Q=>t σ H fun x H'=>∃k,x=.bl k/\Q k H'
theorem pt_cmpR{op:CmpOp}{r:R2}(ho:OpR X (compareOp op) r)(ha:PE X a ta)(hb:PE X b tb)(hm:behindInMarks op b=false):PT X (.Compare a [op] [b] pos) (tTest (tOp r ta tb)):=by
 intro pins s σ H Q I h
 refine wpAny_isTrue_Compare1 (thn (ha pins s σ H _ I h) fun v s1 ⟨x,H1,I1,r1,q1⟩=>thn (hb pins s1 σ H1 _ I1 q1) fun u s2 ⟨y,H2,I2,r2,q2⟩ =>
  thn (ho pins s2 σ H2 x y v u _ I2 r1 r2 q2) fun c s3 ⟨z,H3,I3,r3,k,e,q3⟩=>?_) hm
 subst e
 cases r3
 exact wpAny_truthy_bool ⟨H3,I3,q3⟩
def TruV(K:PySem.W.Frag)(x:V)(H:Hp)(k:Bool):Prop :=
 match x with
 |.non=>k=false
 |.bl b=>k=b
 |.int i=>k=(i != 0)
 |.str y=>y.length<=sizeLine/\k=((y.length:Int) != 0)
 |.byt y=>y.size<=sizeLine/\k=((y.size:Int) != 0)
 |.ref p=>(∃xs,SqL K H p xs/\k=!xs.isEmpty)\/(∃xs,SqT K H p xs/\k=!xs.isEmpty)\/∃kvs,H p=some (.dK kvs)/\k=!kvs.isEmpty
 |_=>False
theorem isEmpty_kv{κ:Type}{kvs:List (κ×V)}{vs:List (κ×Value)}(r:KV kvs vs):(!vs.isEmpty)=!kvs.isEmpty:=by
 cases r<;>rfl
theorem isEmpty_of{xs:List V}{its:List Value}(r:Vals xs its):(!its.toArray.isEmpty)=!xs.isEmpty:=by
 cases r<;>simp
theorem line63:(sizeLine:Nat)<2 ^ 63:=by rw[sizeLine_eq];decide
theorem tru_ok:TruR X (fun x H Q=>∃k,TruV X.K x H k/\Q k H):=by
 intro pins s σ H x v Q I rx h
 obtain⟨k,e,q⟩:=h
 have hl:=line63
 have hs:sizeLine=16777216:=sizeLine_eq
 cases x with
 |non =>
  cases rx
  have e':k=false:=e
  subst e'
  exact truthy_none ⟨H,I,q⟩
 |bl b =>
  cases rx
  have e':k=b:=e
  subst e'
  exact wpAny_truthy_bool ⟨H,I,q⟩
 |int i =>
  obtain⟨t,rfl⟩:=rx
  have e':k=(i != 0):=e
  subst e'
  exact PySem.P.truthy_int ⟨H,I,q⟩
 |str y =>
  obtain⟨t,rfl⟩:=rx
  obtain⟨hy,e'⟩:y.length<=sizeLine/\k=((y.length:Int) != 0):=e
  subst e'
  exact PySem.P.truthy_str (by omega) ⟨H,I.tok _,q⟩
 |byt y =>
  obtain⟨t,rfl⟩:=rx
  obtain⟨hy,e'⟩:y.size<=sizeLine/\k=((y.size:Int) != 0):=e
  subst e'
  exact PySem.W.truthy_bytes (by omega) ⟨H,I.tok _,q⟩
 |ref p =>
  cases rx
  have e':(∃xs,SqL X.K H p xs/\k=!xs.isEmpty)\/(∃xs,SqT X.K H p xs/\k=!xs.isEmpty)\/∃kvs,H p=some (.dK kvs)/\k=!kvs.isEmpty:=e
  rcases e' with⟨xs,hx,e'⟩|⟨xs,hx,e'⟩|⟨kvs,hx,e'⟩
  ·subst e'
   obtain⟨its,r,pl,hz⟩:=I.list hx
   have hlen:=r.length
   exact wpAny_truthy_list pl.isList (by simp only[List.size_toArray];omega) ⟨H,I.tok _,by rw[isEmpty_of r];exact q⟩
  ·subst e'
   obtain⟨its,r,pl,hz⟩:=I.tuple hx
   have hlen:=r.length
   exact truthy_tuple pl (by simp only[List.size_toArray];omega) ⟨H,I.tok _,by rw[isEmpty_of r];exact q⟩
  ·subst e'
   obtain⟨hz,hS,vs,r,m⟩:kvs.length<=sizeLine/\(p == sysModules)=false/\∃vs,KV kvs vs/\s.heap.DictOf (mixKind X.prog X.w) p vs:=I.hok p _ hx
   have hlen:kvs.length=vs.length:=Paired.length r
   exact wpAny_truthy_dict hS m (by omega) ⟨H,I.tok _,by rw[isEmpty_kv r];exact q⟩
 |_=>exact(show False from e).elim
theorem pt_truth(ha:PE X a ta)(he:∀whole,isTrue a X.env whole=(do let v ←whole;standAt a.pos;holding [v] (truthy v))) :
  PT X a (fun σ H Q=>ta σ H fun x H'=>∃k,TruV X.K x H' k/\Q k H'):=by
 intro pins s σ H Q I h
 exact isTrue_plain (thn (ha pins s σ H _ I h) fun v s1 ⟨x,H1,I1,r1,q1⟩=>tru_ok pins s1 σ H1 x v Q I1 r1 q1) (he _)
theorem op_add_str:OpR X (binaryOp .Add) (fun x y H Q=>∃i j,x=.str i/\y=.str j/\i.length+j.length<=sizeLine/\Q (.str (i++j)) H):=by
 intro pins s σ H x y v u Q I rx ry h
 obtain⟨i,j,rfl,rfl,hz,q⟩:=h
 obtain⟨t,rfl⟩:=rx
 obtain⟨t',rfl⟩:=ry
 exact add_str (fun t' tk=>⟨.str (i++j),H,I.tok _,⟨_,rfl⟩,q⟩) hz
theorem vals1{x:V}{us:List Value}(r:Vals [x] us):∃u,us=[u]/\RelV x u:=by
 cases r with
 |cons r1 r2=>cases r2;exact⟨_,rfl,r1⟩
theorem vals2{x y:V}{us:List Value}(r:Vals [x,y] us):∃u w',us=[u,w']/\RelV x u/\RelV y w':=by
 cases r with
 |cons r1 r2 =>
  cases r2 with
  |cons r3 r4=>cases r4;exact⟨_,_,rfl,r1,r3⟩
theorem call_max2(hc:X.calm=true):CallR X (.builtin "max") (fun xs H Q=>∃i j,xs=[.int i,.int j]/\Q (.int (if j>i then j else i)) H):=by
 intro pins s σ H xs us Q I r h
 obtain⟨i,j,rfl,q⟩:=h
 obtain⟨u,w',rfl,⟨t,rfl⟩,⟨t',rfl⟩⟩:=vals2 r
 refine max_two_ints (I.ok.hd hc) fun h' tk k=>⟨_,H,I.kept k,?_,q⟩
 by_cases hj:j>i
 ·rw[if_pos hj,if_pos hj];exact⟨_,rfl⟩
 ·rw[if_neg hj,if_neg hj];exact⟨_,rfl⟩
theorem call_min2(hc:X.calm=true):CallR X (.builtin "min") (fun xs H Q=>∃i j,xs=[.int i,.int j]/\Q (.int (if j<i then j else i)) H):=by
 intro pins s σ H xs us Q I r h
 obtain⟨i,j,rfl,q⟩:=h
 obtain⟨u,w',rfl,⟨t,rfl⟩,⟨t',rfl⟩⟩:=vals2 r
 refine min_two_ints (I.ok.hd hc) fun h' tk k=>⟨_,H,I.kept k,?_,q⟩
 by_cases hj:j<i
 ·rw[if_pos hj,if_pos hj];exact⟨_,rfl⟩
 ·rw[if_neg hj,if_neg hj];exact⟨_,rfl⟩
theorem call_int1:CallR X (.type "int") (fun xs H Q=>(∃i,xs=[.int i]/\Q (.int i) H)\/∃k,xs=[.bl k]/\Q (.int (if k then 1 else 0)) H):=by
 intro pins s σ H xs us Q I r h
 rcases h with⟨i,rfl,q⟩|⟨k,rfl,q⟩
 ·obtain⟨u,rfl,t,rfl⟩:=vals1 r
  exact call_int_int ⟨.int i,H,I,⟨_,rfl⟩,q⟩
 ·obtain⟨u,rfl,r1⟩:=vals1 r
  cases r1
  exact call_int_bool ⟨.int (if k then 1 else 0),H,I.tok _,⟨_,rfl⟩,q⟩
end
section
variable {prog:Program}{w:World}{A:Around}{E:Value->Shared->Prop}{s:Shared}{K:PySem.W.Frag}{x dx C f:Addr}{mA:Str->Option Value}{name:Str}{v:Value}
end
def putF(f:Str)(v:V):List (Str×V)->List (Str×V)
 | []=>[(f,v)]
 |(g,x)::r=>if g=f then(g,v)::r else(g,x)::putF f v r
theorem RelO.some_of{v:V}{o:Option Value}(r:RelO (some v) o):∃u,o=some u/\RelV v u:=by
 cases o with
 |none=>exact(show False from r).elim
 |some u=>exact⟨u,rfl,r⟩
section
variable {P:Program}{w:World}{H H':Hp}{h h':Heap}{a C dx:Addr}{fs fs':List (Str×V)}
end
structure Cls(K:PySem.W.Frag) (C:Addr):Prop where
 pg:PySem.W.plainGet K C Str.empty=true
 hd:PySem.W.hasDictIn K C=true
 po:PySem.W.plainOver K C=true
 sa:PySem.W.findIn K (.ref C) "__setattr__"=some (some (.builtin "object.__setattr__"))
theorem Cls.get{K:PySem.W.Frag}{C:Addr}(c:Cls K C)(f:Str):PySem.W.plainGet K C f=true:=c.pg
section
variable {X:Cx}{pins:List (Addr×Obj)}{σ:St}{H:Hp}{s:Shared}{a C dx:Addr}{fs:List (Str×V)}{f:Str}{v:V}{A:Around}{E:Value->Shared->Prop}
end
section
variable {X:Cx}{o e value:Expr}{f:Str}{pos pos' tpos:Pos}{ta tv:TE}
end
section
variable {X:Cx}{pins:List (Addr×Obj)}{σ:St}{H:Hp}{s:Shared}{A:Around}{E:Value->Shared->Prop}{Q:Value->Shared->Prop}{c:Value}{b:Bool}
end
structure Room(k:Nat) (A:Around):Prop where
 hd:A.handled=none
 dp:A.depth+3*k+5<recursionLimit
 un:A.units+16*k+200<cLine
 gd:A.guards=some []
theorem Room.mono{j k:Nat}{A:Around}(r:Room k A)(h:j<=k):Room j A:=⟨r.hd,by have:=r.dp;omega,by have:=r.un;omega,r.gd⟩
theorem Room.deeper{k:Nat}{A:Around}(r:Room (k+1) A)(env:Env):Room k (A.deeper env) :=
 ⟨r.hd,by have:=r.dp;show A.depth+1+3*k+5<_;omega,by have:=r.un;show A.units+3+16*k+200<_;omega,r.gd⟩
theorem Room.depth{k:Nat}{A:Around}(r:Room k A):A.depth<recursionLimit:=by have:=r.dp;omega
theorem Room.units{k:Nat}{A:Around}(r:Room k A):A.units+64<cLine:=by have:=r.un;omega
def tNil:TA:=fun _ H Q=>Q [] H
def tCons(ta:TE)(tr:TA):TA:=fun σ H Q=>ta σ H fun x H1=>tr σ H1 fun xs H2=>Q (x::xs) H2
section
variable {X:Cx}{e:Expr}{es:List Expr}{te:TE}{t:TA}{pos:Pos}
theorem pa_nil:PA X [] tNil:=fun _ _ _ _ H Q I h=>Calls.spliced_nil ⟨[],H,I,.nil,h⟩
theorem pa_cons(ha:PE X e te)(hr:PA X es t)(hs:starEach (e::es) X.env=(false,eval e X.env)::starEach es X.env:=by rfl):PA X (e::es) (tCons te t):=by
 intro pos pins s σ H Q I h
 rw[hs]
 show wpAny _ _ (spliced ((false,eval e X.env)::backTo pos (starEach es X.env))) _ _ s
 refine Calls.spliced_cons (thn (ha pins s σ H _ I h) fun u s1 ⟨x,H1,I1,r1,q1⟩=>?_)
 exact thn (hr pos pins s1 σ H1 _ I1 q1) fun us s2 ⟨xs,H2,I2,r2,q2⟩=>⟨x::xs,H2,I2,.cons r1 r2,q2⟩
def tTup(t:TA):TE:=fun σ H Q=>t σ H fun xs H1=>xs.length<=sizeLine/\∀p,H1 p=none->Q (.ref p) (upd H1 p (.tup xs))
def tLst(t:TA):TE:=fun σ H Q=>t σ H fun xs H1=>xs.length<=sizeLine/\∀p,H1 p=none->Q (.ref p) (upd H1 p (.lst xs))
theorem pe_tup{x1}(h:PA X es t):PE X (.Tuple es x1 pos) (tTup t):=by
 intro pins s σ H Q I hq
 refine wpAny_Tuple_spliced (thn (h pos pins s σ H _ I hq) fun us s1 ⟨xs,H1,I1,r,z,q⟩=>⟨by rw[←r.length];exact z,?_⟩)
 have hf:H1 s1.heap.objs.size=none:=I1.hok.fresh (Nat.le_refl _)
 refine⟨.ref s1.heap.objs.size,upd H1 s1.heap.objs.size (.tup xs),I1.laid (t':=s1.toks) (fun b u e=>Heap.get?_push_of_some _ e) (Nat.le_refl _) ?_,rfl,q _ hf⟩
 exact⟨z,us,r,⟨_,Heap.get?_push_size _ rfl,rfl,_,rfl⟩,_,Heap.get?_push_size _ rfl,rfl⟩
theorem pe_lst(h:PA X es t):PE X (.List es pos) (tLst t):=by
 intro pins s σ H Q I hq
 refine wpAny_List_spliced (thn (h pos pins s σ H _ I hq) fun us s1 ⟨xs,H1,I1,r,z,q⟩=>⟨by rw[←r.length];exact z,?_⟩)
 have hf:H1 s1.heap.objs.size=none:=I1.hok.fresh (Nat.le_refl _)
 refine⟨.ref s1.heap.objs.size,upd H1 s1.heap.objs.size (.lst xs),I1.laid (t':=s1.toks) (fun b u e=>Heap.get?_push_of_some _ e) (Nat.le_refl _) ?_,rfl,q _ hf⟩
 exact⟨z,us,0,r,Heap.get?_push_size _ rfl⟩
end
abbrev Sp:=List V->Hp->VK->XK->Prop
abbrev CXT:=List Env->Hp->Shared->XK->Value->Shared->Prop
structure Env0(P:Program) (w:World) (K:PySem.W.Frag) (mg:Str->Option Value) (base:Heap) (A:Around) (outer:List Env) (s:Shared) (H:Hp):Prop where
 frames:A.frames=some outer
 mod:Mod K mg base
 bs:∀b o,base.get? b=some o->s.heap.get? b=some o/\H b=none
 bsz:base.objs.size<=s.heap.objs.size
 funs:s.heap.FunFrames base outer
 frf:∀b∈frs outer,H b=none
 hok:HOk P w H s.heap
 bare:AllBare s.gens
def CE(outer:List Env)(P:Program)(w:World)(H:Hp)(s:Shared)(Q:VK)(u:Value)(s':Shared):Prop :=
 ∃v H',s'.os=s.os/\AllBare s'.gens/\Un (frs outer) [] H H' s.heap s'.heap/\HOk P w H' s'.heap/\RelV v u/\Q v H'
def CR(CX:CXT)(outer:List Env)(P:Program)(w:World)(H:Hp)(s:Shared)(Q:VK)(E:XK)(r:Result)(s':Shared):Prop :=
 match r with
 |.ok (.ret u)=>CE outer P w H s Q u s'
 |.ok _=>False
 |.error e=>CX outer H s E e s'
structure FnOk(P:Program) (w:World) (K:PySem.W.Frag) (mg:Str->Option Value) (base:Heap) (CX:CXT) (k:Nat) (f:Addr) (fd:FuncData) (ps:List Str) (sp:Sp):Prop where
 len:∀vs H Q E,sp vs H Q E->vs.length=ps.length
 run:∀(A:Around) (outer:List Env) (s:Shared) (H:Hp) (args:Args) (us:List Value) (vs:List V) (Q:VK) (E:XK),Room k A->Env0 P w K mg base A outer s H->BindsTo s fd args (ps.zip us)->Vals vs us->sp vs H Q E ->
  codeAny (model P w) A (.call (.ref f) args) (CR CX outer P w H s Q E) s
section
variable {X:Cx}{pins:List (Addr×Obj)}{σ:St}{H:Hp}{s s':Shared}
theorem Inv.env0(I:Inv X pins σ H s):Env0 X.prog X.w X.K X.mg X.base X.A X.stack s H :=
 ⟨I.ok.frames,I.ok.mod,I.bs,Nat.le_trans I.ok.bsz I.sz,I.stack,I.stkFree,I.hok,I.bare⟩
theorem Inv.after{Q:VK}{u:Value}(I:Inv X pins σ H s)(h:CE X.stack X.prog X.w H s Q u s'):EP X pins σ Q u s':=by
 obtain⟨v,H',os,bare,un,hok,r,q⟩:=h
 obtain⟨hh,g,d,t,os'⟩:=s'
 obtain rfl:os'=s.os:=os
 exact⟨v,H',I.call (h':=hh) (g':=g) (d':=d) (t':=t) (ch:=[]) un hok bare (fun b z=>absurd z (by simp)),r,q⟩
end
def tCall(sp:Sp)(dvs:List V)(E:XK)(t:TA):TE:=fun σ H Q=>t σ H fun vs H1=>sp (vs++dvs) H1 Q E
def Binds(K:PySem.W.Frag)(fd:FuncData)(ps:List Str)(ds:List Value):Prop :=
 ∀(s:Shared) (us:List Value),K.In s.heap->(us++ds).length=ps.length->BindsTo s fd ⟨us,[]⟩ (ps.zip (us++ds))
theorem Binds.all{K:PySem.W.Frag}{fd:FuncData}{ps:List Str}(h:∀us:List Value,us.length=ps.length->bindArgs fd ⟨us,[]⟩=pure (ps.zip us)):Binds K fd ps []:=fun s us _ hl=>by
 rw[List.append_nil]at hl⊢
 exact .of_eq (h us hl)
def Passes(CX:CXT)(X:Cx)(E:XK):Prop:=∀(pins:List (Addr×Obj)) (σ:St) (H:Hp) (s:Shared) (e:Value) (s':Shared),Inv X pins σ H s->CX X.stack H s E e s'->X.xe e s'
section
variable {X:Cx}{CX:CXT}{k:Nat}{f C:Addr}{fd:FuncData}{ps:List Str}{sp:Sp}{dvs:List V}{ds:List Value}{E:XK}{x m:Str}{p pos apos:Pos}{e o:Expr}{es:List Expr}{ta:TE}{t:TA}
theorem run_fn{pins:List (Addr×Obj)}{σ:St}{H:Hp}{s:Shared}{Q:VK}{us:List Value}{vs:List V}(F:FnOk X.prog X.w X.K X.mg X.base CX k f fd ps sp)(hr:Room k X.A)(hb:Binds X.K fd ps ds)(hd:Vals dvs ds)(hx:Passes CX X E)
  (I:Inv X pins σ H s) (r:Vals vs us) (h:sp (vs++dvs) H Q E):wpAny (model X.prog X.w) X.A (call (.ref f) us) (EP X pins σ Q) X.xe s:=by
 have r2:Vals (vs++dvs) (us++ds):=r.append hd
 have hl:(us++ds).length=ps.length:=by rw[←r2.length];exact F.len _ _ _ _ h
 refine wpAny_call (codeAny_mono (F.run X.A X.stack s H ⟨us,[]⟩ (us++ds) (vs++dvs) Q E hr I.env0 (hb s us I.kIn hl) r2 h) fun r s' hq=>?_)
 cases r with
 |error e=>exact hx pins σ H s e s' I hq
 |ok fl =>
  cases fl with
  |ret u=>exact I.after hq
  |next=>exact False.elim hq
  |brk=>exact False.elim hq
  |cont=>exact False.elim hq
theorem pe_call(F:FnOk X.prog X.w X.K X.mg X.base CX k f fd ps sp)(hr:Room k X.A)(hg:Gl X x)(hm:X.mg x=some (.ref f))(hk:PySem.W.keepIn X.K (.ref f)=true)(hb:Binds X.K fd ps ds)(hd:Vals dvs ds)(hx:Passes CX X E)
  (ha:PA X (e::es) t) (hdb:(x == ("__debug__":Str))=false:=by decide) (he:starEach (e::es) X.env=(false,eval e X.env)::starEach es X.env:=by rfl) (hpl:(backTo pos (starEach es X.env)).any (·.1)=false:=by rfl) :
  PE X (.Call (.Name x p) (e::es) [] pos) (tCall sp dvs E t):=by
 intro pins s σ H Q I h
 refine wpAny_Call_Name_kw (ld_glob I hg hm ?_ hdb)
 refine PySem.W.callWith_K (h₀:=X.base) I.ok.mod.kin hk (thn (ha pos pins s σ H _ I h) fun us s1 ⟨vs,H1,I1,r,q⟩=>⟨I1.kIn,?_⟩) he hpl
 exact run_fn F hr hb hd hx I1 r q
end
section
variable {X:Cx}{CX:CXT}{k:Nat}{f C:Addr}{fd:FuncData}{ps ks:List Str}{sp:Sp}{E:XK}{x m:Str}{p pos apos kpos:Pos}{e o:Expr}{es:List Expr}{kws:List Keyword}{te ta:TE}{t tk:TA}{nm:Option Str}
variable {g:List Value->List Value->List Value}{gV:List V->List V->List V}
end
structure FnScope(N P:List Str) (sc:Scope):Prop where
 kind:sc.kind=.function
 co:sc.isCoroutine=false
 gen:sc.isGenerator=false
 nd:N.Nodup
 pre:N.take P.length=P
 par:∀x∈P,sc.names.lookup x=some .local\/sc.names.lookup x=some .cell
 nofree:∀y∈sc.names,y.2≠.free
theorem bindL_out{kindOf:Str->Option NameKind}{x:Str}:∀{binds:List (Str×Value)}{m:Str->Option Value},(∀v,(x,v)∉binds)->bindL kindOf binds m x=m x
 | [],_,_=>rfl
 |(n,v)::r,m,h=>by
  unfold bindL
  rw[bindL_out fun w hw=>h w (List.mem_cons_of_mem _ hw)]
  split
  ·have:x≠n:=by rintro rfl;exact h v List.mem_cons_self
   simp[this]
  ·rfl
theorem bindC_out{kindOf:Str->Option NameKind}{x:Str}:∀{binds:List (Str×Value)}{m:Str->Option Value},(∀v,(x,v)∉binds)->bindC kindOf binds m x=m x
 | [],_,_=>rfl
 |(n,v)::r,m,h=>by
  unfold bindC
  rw[bindC_out fun w hw=>h w (List.mem_cons_of_mem _ hw)]
  split
  ·rfl
  ·have:x≠n:=by rintro rfl;exact h v List.mem_cons_self
   simp[this]
theorem bindL_get{kindOf:Str->Option NameKind}{x:Str}{v:Value}:∀{P:List Str}{vs:List Value}{i:Nat}{m:Str->Option Value},P.Nodup->P[i]?=some x->vs[i]?=some v->kindOf x=some .local ->
  bindL kindOf (P.zip vs) m x=some v
 | [],_,_,_,_,h,_,_=>by simp at h
 |_::_,[],_,_,_,_,h,_=>by simp at h
 |p::P,w::vs,0,m,nd,h1,h2,hk=>by
  simp at h1 h2;subst h1;subst h2
  show bindL kindOf ((p,w)::P.zip vs) m p=_
  unfold bindL
  rw[bindL_out fun v hv=>(List.nodup_cons.mp nd).1 (List.of_mem_zip hv).1,if_pos hk]
  simp
 |p::P,w::vs,i+1,m,nd,h1,h2,hk=>by
  show bindL kindOf ((p,w)::P.zip vs) m x=_
  unfold bindL
  exact bindL_get (i:=i) (List.nodup_cons.mp nd).2 (by simpa using h1) (by simpa using h2) hk
theorem bindC_get{kindOf:Str->Option NameKind}{x:Str}{v:Value}:∀{P:List Str}{vs:List Value}{i:Nat}{m:Str->Option Value},P.Nodup->P[i]?=some x->vs[i]?=some v->kindOf x≠some .local ->
  bindC kindOf (P.zip vs) m x=some v
 | [],_,_,_,_,h,_,_=>by simp at h
 |_::_,[],_,_,_,_,h,_=>by simp at h
 |p::P,w::vs,0,m,nd,h1,h2,hk=>by
  simp at h1 h2;subst h1;subst h2
  show bindC kindOf ((p,w)::P.zip vs) m p=_
  unfold bindC
  rw[bindC_out fun v hv=>(List.nodup_cons.mp nd).1 (List.of_mem_zip hv).1,if_neg hk]
  simp
 |p::P,w::vs,i+1,m,nd,h1,h2,hk=>by
  show bindC kindOf ((p,w)::P.zip vs) m x=_
  unfold bindC
  exact bindC_get (i:=i) (List.nodup_cons.mp nd).2 (by simpa using h1) (by simpa using h2) hk
def start(N:List Str)(vs:List V):St:=vs.map some++List.replicate (N.length-vs.length) none
def cxOf(CX:CXT)(P:Program)(w:World)(K:PySem.W.Frag)(mg:Str->Option Value)(base:Heap)(N:List Str)(qual:Str)(scope:Scope)(f:Addr)(cd:Value)(A:Around)(outer:List Env)(s:Shared)(H:Hp)(E:XK):Cx where
 prog:=P
 w:=w
 K:=K
 mg:=mg
 base:=base
 A:=A.deeper (envOfC qual scope s.heap.objs.size f cd)
 N:=N
 s₀:=s
 H₀:=H
 env:=envOfC qual scope s.heap.objs.size f cd
 outer:=outer
 stack:=envOfC qual scope s.heap.objs.size f cd::outer
 ex:=[]
 calm:=true
 fn:=fun _=>true
 pn:=[]
 xe:=fun e s'=>wpAny (model P w) (A.deeper (envOfC qual scope s.heap.objs.size f cd)) (leaving (envOfC qual scope s.heap.objs.size f cd) e) (fun _ s''=>CX outer H s E e s'') (fun e' s''=>CX outer H s E e' s'') s'
theorem cell_has{sc:Scope}{n:Nat}{x:Str}(h:sc.names.lookup x=some .cell):∃c,(cellsFrom n sc.names []).lookup x=some c:=by
 have q:=PySem.W.cellsFrom_some sc.names n [] (.inl h)
 exact Option.isSome_iff_exists.mp q
theorem inv_start{CX:CXT}{P:Program}{w:World}{K:PySem.W.Frag}{mg:Str->Option Value}{base:Heap}{N ps:List Str}{qual:Str}{scope:Scope}{f:Addr}{cd:Value}{A:Around}{outer:List Env}{s s1:Shared}{H:Hp}{E:XK}{us:List Value}{vs:List V}
  (S:FnScope N ps scope) (hd:A.handled=none) (e0:Env0 P w K mg base A outer s H) (hl:vs.length=ps.length) (r:Vals vs us)
  (x:InCallC s s.heap.objs.size (bindL (envOfC qual scope s.heap.objs.size f cd).kindOf (ps.zip us) fun _=>none) (cellsFrom (s.heap.objs.size+1) scope.names []) (bindC (envOfC qual scope s.heap.objs.size f cd).kindOf (ps.zip us) fun _=>none) s1) :
  Inv (cxOf CX P w K mg base N qual scope f cd A outer s H E) [] (start N vs) H s1:=by
 have hpl:ps.length<=N.length:=by have:=congrArg List.length S.pre;rw[List.length_take]at this;omega
 obtain⟨h1,tk,rfl,hk⟩:=x.done
 have noA:∀b:Addr,b∉(cxOf CX P w K mg base N qual scope f cd A outer s H E).ex:=fun b z=>absurd (show b∈([]:List Addr)from z) (by simp)
 refine⟨⟨e0.mod,S.kind,rfl,rfl,Nat.le_refl _,fun y z c h1 h2=>?_,fun y hy=>?_,fun y c _ h=>?_,fun _=>hd,Around.frames_deeper e0.frames,.inr ⟨rfl,rfl⟩,fun b z=>absurd z (noA b),e0.bs,e0.bsz,fun b _ _=>noA b,fun b z=>absurd z (noA b),e0.funs,e0.frf⟩,
  rfl,e0.bare,Un.kept hk,⟨_,x.toInCall.ns,fun i y v h1 h2 h3=>?_⟩,fun y c h=>⟨_,x.cell y c h⟩,e0.hok.fresh (Nat.le_refl _),fun y c h=>?_,fun p hp=>absurd (show p∈([]:List (Addr×Obj))from hp) (by simp),e0.hok.kept hk,?_⟩
 ·exact name_of_addr x.apart (PySem.mem_of_lookup h1) (PySem.mem_of_lookup h2)
 ·have hy:scope.names.lookup y=some .cell\/scope.names.lookup y=some .free:=hy
  rcases hy with hy|hy
  ·exact cell_has hy
  ·exact absurd rfl (S.nofree _ (PySem.mem_of_lookup hy))
 ·exact Nat.le_of_lt (x.above y c (PySem.mem_of_lookup h))
 ·have hi:i<vs.length:=by
   unfold start at h2
   by_cases hi:i<vs.length
   ·exact hi
   ·rw[List.getElem?_append_right (by simpa using hi)]at h2
    rw[List.getElem?_replicate]at h2
    split at h2<;>cases h2
  have ha:vs[i]?=some v:=by
   unfold start at h2
   rw[List.getElem?_append_left (by simpa using hi),List.getElem?_map]at h2
   cases e:vs[i]? with
   |none=>rw[e]at h2;cases h2
   |some a=>rw[e]at h2;cases h2;rfl
  obtain⟨u,hu,rv⟩:=r.get ha
  have hp:ps[i]?=some y:=by
   rw[←S.pre,List.getElem?_take_of_lt (by omega)];exact h1
  have ndP:ps.Nodup:=by rw[←S.pre];exact S.nd.sublist (List.take_sublist _ _)
  refine⟨u,rv,?_⟩
  rcases S.par y (List.mem_of_getElem? hp)with k|k
  ·exact .inl ⟨k,bindL_get ndP hp hu k⟩
  ·obtain⟨c,e⟩:=cell_has (n:=s.heap.objs.size+1) k
   refine .inr ⟨.inl k,c,e,?_⟩
   have q:=x.cell y c e
   rw[bindC_get ndP hp hu (by show scope.names.lookup y≠_;rw[k];decide)]at q
   exact q
 ·exact e0.hok.fresh (Nat.le_of_lt (x.above y c (PySem.mem_of_lookup h)))
 ·unfold start
  show _=N.length
  rw[List.length_append,List.length_map,List.length_replicate]
  omega
theorem fn_of{CX:CXT}{P:Program}{w:World}{K:PySem.W.Frag}{mg:Str->Option Value}{base:Heap}{k:Nat}{f:Addr}{name qual:Str}{params:Arguments}{body:List Stmt}{scope:Scope}{dV kV doc pm cdv ct oc:Value}{an od:Option Addr}
  {osl:Array (Option Value)}{N ps:List Str}{sp:Sp}(lk:K.lookup f=some ⟨oc,od,.func (PySem.W.fnOf name qual params body scope dV kV doc pm an cdv ct),osl⟩) (hcd:PySem.W.codeIn K cdv qual=true) (S:FnScope N ps scope)
  (len:∀vs H Q E,sp vs H Q E->vs.length=ps.length)
  (hbody:∀(A:Around) (outer:List Env) (s:Shared) (H:Hp) (vs:List V) (Q:VK) (E:XK),Room k (A.deeper (envOfC qual scope s.heap.objs.size f cdv))->sp vs H Q E ->
   ∃t,PSs (cxOf CX P w K mg base N qual scope f cdv A outer s H E) body t/\t {nx:=fun _ H'=>Q .non H',rt:=Q} (start N vs) H) :
  FnOk P w K mg base CX (k+1) f (PySem.W.fnOf name qual params body scope dV kV doc pm an cdv ct) ps sp:=by
 refine⟨len,fun A outer s H args us vs Q E hr e0 hb r hsp=>?_⟩
 have hl:=len _ _ _ _ hsp
 have KX:K.In s.heap:=e0.mod.kin.keeps fun b o e=>(e0.bs b o e).1
 have lim:s.heap.NoLimit:=e0.mod.nolimit.keeps fun b o e=>(e0.bs b o e).1
 have hkind:∀y∈ps.zip us,scope.names.lookup y.1=some .local\/(scope.names.lookup y.1=some .cell/\((cellsFrom (s.heap.objs.size+1) scope.names []).lookup y.1).isSome=true):=fun⟨n,v⟩ hy=>by
  rcases S.par n (List.of_mem_zip hy).1 with q|q
  ·exact .inl q
  ·exact .inr ⟨q,PySem.W.cellsFrom_some _ _ _ (.inl q)⟩
 refine codeAny_call_function hr.depth (KX _ _ lk) rfl S.co S.gen rfl (PySem.W.codeRec_of KX hcd) (hb _ _ _ _ ?_)
 refine wpAny_newFunctionEnv_cells S.kind hkind fun env he s1 x=>?_
 subst he
 refine⟨lim.keeps x.toInCall.keep,codeAny_func ?_⟩
 obtain⟨t,ht,hq⟩:=hbody A outer s H vs Q E (hr.deeper _) hsp
 have I:Inv (cxOf CX P w K mg base N qual scope f cdv A outer s H E) [] (start N vs) H s1:=inv_start S hr.hd e0 hl r x
 refine wpAny_mono (ht [] s1 (start N vs) H _ I hq) (fun fl s' hs=>?_) fun e s' hs=>hs
 have fin:∀{σ':St}{H':Hp}{v:V}{u:Value},Inv (cxOf CX P w K mg base N qual scope f cdv A outer s H E) [] σ' H' s'->RelV v u->Q v H'->CE outer P w H s Q u s' :=
  fun{σ' H' v u} J rv q=>⟨v,H',J.os,J.bare,J.base,J.hok,rv,q⟩
 cases fl with
 |ret u =>
  obtain⟨v,σ',H',J,rv,q⟩:=hs
  exact fin J rv q
 |next =>
  obtain⟨σ',H',J,q⟩:=hs
  exact fin (v:=V.non) (u:=Value.none) J rfl q
 |brk =>
  obtain⟨_,_,_,q⟩:=hs
  exact False.elim q
 |cont =>
  obtain⟨_,_,_,q⟩:=hs
  exact False.elim q
section
variable {X:Cx}{x:Str}{p pos:Pos}{e:Expr}{es:List Expr}{t:TA}{id T:String}{r:List V->Hp->VK->Prop}
def tCB(r:List V->Hp->VK->Prop)(t:TA):TE:=fun σ H Q=>t σ H fun vs H1=>r vs H1 Q
theorem pe_callB(hc:CallR X (.builtin id) r)(hg:Gl X x)(hm:X.mg x=none)(hv:bootBuiltins x=some (.builtin id))(ha:PA X (e::es) t)(hn:x≠"__name__":=by decide)(hdb:(x == ("__debug__":Str))=false:=by decide)
  (he:starEach (e::es) X.env=(false,eval e X.env)::starEach es X.env:=by rfl) (hpl:(backTo pos (starEach es X.env)).any (·.1)=false:=by rfl):PE X (.Call (.Name x p) (e::es) [] pos) (tCB r t):=by
 intro pins s σ H Q I h
 refine wpAny_Call_Name_kw (ld_blt I hg hm hv ?_ hn hdb)
 exact PyProof.Rows.callWith_builtin1 (thn (ha pos pins s σ H _ I h) fun us s1 ⟨vs,H1,I1,r1,q1⟩=>hc pins s1 σ H1 vs us Q I1 r1 q1) he hpl
theorem pe_callTy(hc:CallR X (.type T) r)(hg:Gl X x)(hm:X.mg x=none)(hv:bootBuiltins x=some (.type T))(ha:PA X (e::es) t)(hn:x≠"__name__":=by decide)(hdb:(x == ("__debug__":Str))=false:=by decide)
  (he:starEach (e::es) X.env=(false,eval e X.env)::starEach es X.env:=by rfl) (hpl:(backTo pos (starEach es X.env)).any (·.1)=false:=by rfl):PE X (.Call (.Name x p) (e::es) [] pos) (tCB r t):=by
 intro pins s σ H Q I h
 refine wpAny_Call_Name_kw (ld_blt I hg hm hv ?_ hn hdb)
 exact PyProof.Rows.callWith_type1 (thn (ha pos pins s σ H _ I h) fun us s1 ⟨vs,H1,I1,r1,q1⟩=>hc pins s1 σ H1 vs us Q I1 r1 q1) he hpl
end
end L2
namespace HT
open PySem PyProof.Rows
section
open PySem.SeqAt
open PySem.AutoSeq1 (wpAny_loadPart')
open PySem.MeetsSeq PySem.MeetsSeq2 PySem.MeetsSeq3
end
section
variable {prog:Program}{w:World}{A:Around}{E:Value->Shared->Prop}{s:Shared}
theorem cat_tup{t b:Addr}{vs ws:List Value}{Q:Value->Shared->Prop}(ht:IsTup s.heap t vs.toArray)(hb:IsTup s.heap b ws.toArray)(hv:vs≠[])
  (h1:ws=[]->Q (.ref t) s) (h2:ws≠[]->Q (.ref s.heap.objs.size) {s with heap:=s.heap.push {cls:=.type "tuple",data:=.seq (vs++ws).toArray}})
  (hsz:vs.length+ws.length<=sizeLine):wpAny (model prog w) A (binaryOp .Add (.ref t) (.ref b)) Q E s:=by
 obtain⟨⟨cls,dd,data,sl⟩,ho,hc,n,hd⟩:=id ht
 obtain⟨⟨cls2,dd2,data2,sl2⟩,ho2,hc2,n2,hd2⟩:=id hb
 simp only at hc hd hc2 hd2
 subst hc hd hc2 hd2
 have e:vs.toArray++ws.toArray=(vs++ws).toArray:=by simp
 by_cases hw:ws=[]
 ·exact concat_meets ⟨_,ho,rfl⟩ ⟨_,ho2,rfl⟩ noFill_tuple_add seq_tuple_add PySem.F.slot_tuple_add PySem.F.entry_tuple_add (PySem.F.args_tuple_add_2 _ _)
   (tuple_addW1 t b vs.toArray ws.toArray n n2 dd dd2 sl sl2 (by simpa using hv) (by simp[hw])) ⟨ho,ho2,h1 hw⟩
 ·refine concat_meets ⟨_,ho,rfl⟩ ⟨_,ho2,rfl⟩ noFill_tuple_add seq_tuple_add PySem.F.slot_tuple_add PySem.F.entry_tuple_add (PySem.F.args_tuple_add_2 _ _)
   (tuple_addW2 t b vs.toArray ws.toArray n n2 dd dd2 sl sl2 (by simpa using hv) (by simpa using hw) (by rw[List.size_toArray,List.size_toArray];exact hsz)) ⟨ho,ho2,?_⟩
  rw[e]
  exact h2 hw
def sIx(n d:Nat):Option Int->Nat
 |none=>d
 |some v=>if v<0 then(v+(n:Int)).toNat else min v.toNat n
theorem sIx_none(n d:Nat):sIx n d none=d:=rfl
theorem sIx_nat(n d k:Nat):sIx n d (some (k:Int))=min k n:=by
 show(if(k:Int)<0 then((k:Int)+(n:Int)).toNat else min (k:Int).toNat n)=min k n
 rw[if_neg (by omega),Int.toNat_natCast]
theorem sIx_le(n d:Nat)(hd:d<=n)(o:Option Int):sIx n d o<=n:=by
 cases o with
 |none=>exact hd
 |some v =>
  show(if v<0 then(v+(n:Int)).toNat else min v.toNat n)<=n
  by_cases hv:v<0
  ·rw[if_pos hv];omega
  ·rw[if_neg hv];exact Nat.min_le_right _ _
theorem clip_eq(v:Int)(n d:Nat):(if v<0 then max (v+(n:Int)) 0 else min v (n:Int))=((sIx n d (some v):Nat):Int):=by
 show(if v<0 then max (v+(n:Int)) 0 else min v (n:Int))=(((if v<0 then(v+(n:Int)).toNat else min v.toNat n):Nat):Int)
 by_cases hv:v<0
 ·simp only[if_pos hv];omega
 ·simp only[if_neg hv];omega
theorem adjust_gen(lo hi:Option Int)(n:Nat):Builtin.Slice.sliceAdjust lo hi 1 (n:Int)=(((sIx n 0 lo:Nat):Int),((sIx n n hi:Nat):Int)):=by
 have h1:¬((1:Int)<0):=by omega
 unfold Builtin.Slice.sliceAdjust
 simp only[h1,if_false]
 refine Prod.ext ?_ ?_
 ·cases lo with
  |none=>rfl
  |some v=>exact clip_eq v n 0
 ·cases hi with
  |none=>rfl
  |some v=>exact clip_eq v n n
theorem places_gen(i j:Nat):Builtin.Slice.slicePlaces (i:Int) (j:Int) 1=j-i:=by
 unfold Builtin.Slice.slicePlaces
 have h1:(1:Int)>0:=by omega
 simp only[h1,if_true,Int.ediv_one]
 split<;>omega
theorem slicePart_{v:Value}{o:Option Int}{Q:Option Int->Shared->Prop}(p:IsPart v o)(h:Q o s):wpAny (model prog w) A (Builtin.Slice.slicePartIndex v) Q E s:=by
 cases p with
 |none=>exact slicePart_none h
 |int i t=>exact slicePart_int h
theorem sliceApplied_gen{sl:Addr}{vl vu:Value}{lo hi:Option Int}{n:Nat}{Q:Int×Int×Nat->Shared->Prop}(hs:s.heap.IsSliceOf sl vl vu .none)(pl:IsPart vl lo)(pu:IsPart vu hi)
  (h:Q (((sIx n 0 lo:Nat):Int),1,sIx n n hi-sIx n 0 lo) s):wpAny (model prog w) A (Builtin.Slice.sliceApplied (.ref sl) (pure (n:Int))) Q E s:=by
 obtain⟨os,hos,hcs,hds⟩:=id hs
 unfold Builtin.Slice.sliceApplied Builtin.Slice.sliceFields
 refine wpAny_bind (wpAny_bind (wpAny_field hos hds (x:=vl) rfl (wpAny_bind (wpAny_field hos hds (x:=vu) rfl (wpAny_bind (wpAny_field hos hds (x:=.none) rfl (wpAny_pure ?_)))))))
 refine wpAny_bind (slicePart_none ?_)
 show wpAny _ _ (if((1:Int) == 0)=true then _ else _) _ _ s
 rw[if_neg (by decide)]
 refine wpAny_bind (slicePart_ pl (wpAny_bind (slicePart_ pu (wpAny_bind (wpAny_pure ?_)))))
 show wpAny _ _ (match Builtin.Slice.sliceAdjust lo hi 1 (n:Int)with|(lo,hi)=>pure (lo,(1:Int),Builtin.Slice.slicePlaces lo hi 1)) _ _ s
 rw[adjust_gen lo hi n]
 show wpAny _ _ (pure (((sIx n 0 lo:Nat):Int),(1:Int),Builtin.Slice.slicePlaces ((sIx n 0 lo:Nat):Int) ((sIx n n hi:Nat):Int) 1)) _ _ s
 rw[places_gen]
 exact wpAny_pure h
theorem pick_gen(xs:Array Value)(i k:Nat):((List.range k).filterMap fun(m:Nat)=>xs[((i:Int)+(m:Int)*1).toNat]?).toArray=((xs.toList.drop i).take k).toArray:=by
 have e:(fun(m:Nat)=>xs[((i:Int)+(m:Int)*1).toNat]?)=fun m=>xs[i+m]?:=by
  funext m
  have:((i:Int)+(m:Int)*1).toNat=i+m:=by omega
  rw[this]
 rw[e]
 have:=pick_run xs i k
 rw[List.filterMap_map]at this
 have e2:((fun x=>xs[x]?) ∘ fun x=>i+x)=fun m=>xs[i+m]?:=rfl
 rw[e2]at this
 rw[this]
theorem getItem_tuple_cut{t sl:Addr}{items:Array Value}{vl vu:Value}{lo hi:Option Int}{Q:Value->Shared->Prop}(ht:IsTup s.heap t items)(hs:s.heap.IsSliceOf sl vl vu .none)(pl:IsPart vl lo)(pu:IsPart vu hi)
  (hw:¬(sIx items.size 0 lo=0/\sIx items.size items.size hi=items.size))
  (h:Q (.ref s.heap.objs.size) {s with heap:=s.heap.push {cls:=.type "tuple",data:=.seq ((items.toList.drop (sIx items.size 0 lo)).take (sIx items.size items.size hi-sIx items.size 0 lo)).toArray}})
  (hsz:items.size<=sizeLine):wpAny (model prog w) A (getItem (.ref t) (.ref sl)) Q E s:=by
 have htake:sizeOk (.seq ((items.toList.drop (sIx items.size 0 lo)).take (sIx items.size items.size hi-sIx items.size 0 lo)).toArray):=by
  show((items.toList.drop (sIx items.size 0 lo)).take (sIx items.size items.size hi-sIx items.size 0 lo)).toArray.size<=sizeLine
  rw[List.size_toArray,List.length_take,List.length_drop,Array.length_toList]
  omega
 have hj:sIx items.size items.size hi<=items.size:=sIx_le _ _ (Nat.le_refl _) hi
 obtain⟨os,hos,hcs,hds⟩:=id hs
 have hTs:s.TypeIs (.ref sl) "slice":=⟨os,hos,hcs⟩
 unfold getItem
 try with_reducible refine wpAny_holding ?_
 first|refine wpAny_bind (wpAny_pure ?_)|skip
 refine wpAny_bind (wpAny_sequenceKey ht.typeIs (by decide) ?_)
 refine wpAny_bind (wpAny_callSpecial?_slot (name:=Str.ofString "__getitem__") ht.typeIs PyProof.Rows.slot_tuple_getitem
  (wpAny_call_entry PyProof.Rows.slot_tuple_getitem ht.typeIs entry_tuple_getitem ?_ (args_tuple_getitem _ _)))
 show wpAny _ _ (Builtin.Tuple.tupleItemsOf (.ref t)>>=_) _ _ s
 refine wpAny_bind (tupleItemsOf_ ht ?_)
 refine wpAny_bind (wpAny_typeOf hTs ?_)
 rw[if_pos (by decide)]
 refine wpAny_bind (sliceApplied_gen hs pl pu ?_)
 have hno:¬((((sIx items.size 0 lo:Nat):Int) == 0&&(1:Int) == 1&&(sIx items.size items.size hi-sIx items.size 0 lo) == items.size)=true):=by
  intro q
  rw[Bool.and_eq_true,Bool.and_eq_true]at q
  have q1:((sIx items.size 0 lo:Nat):Int)=0:=eq_of_beq q.1.1
  have q2:sIx items.size items.size hi-sIx items.size 0 lo=items.size:=eq_of_beq q.2
  exact hw ⟨by omega,by omega⟩
 show wpAny _ _ (if(((sIx items.size 0 lo:Nat):Int) == 0&&(1:Int) == 1&&(sIx items.size items.size hi-sIx items.size 0 lo) == items.size)=true then _ else _) _ _ s
 rw[if_neg hno,pick_gen]
 first
  |exact wpAny_bind (m:=Builtin.Tuple.tupleExact _) (wpAny_newObj_type (wpAny_pure ⟨_,rfl,wpAny_pure h⟩) htake)
  |exact wpAny_bind (m:=Builtin.Tuple.tupleExact _) (wpAny_newObj_type (wpAny_bind (wpAny_pure (wpAny_pure ⟨_,rfl,wpAny_pure h⟩))) htake)
  |exact wpAny_bind (wpAny_bind (m:=Builtin.Tuple.tupleExact _) (wpAny_newObj_type (wpAny_pure (wpAny_pure ⟨_,rfl,wpAny_pure h⟩)) htake))
  |exact wpAny_bind (wpAny_bind (m:=Builtin.Tuple.tupleExact _) (wpAny_newObj_type (wpAny_pure ⟨_,rfl,wpAny_pure h⟩) htake))
end
end HT
namespace L2
open PySem PySem.Spec PyProof.Rows
abbrev TO:=St->Hp->(Option Int->Hp->Prop)->Prop
def PO(X:Cx)(e:Option Expr)(t:TO):Prop :=
 ∀(pins:List (Addr×Obj)) (s:Shared) (σ:St) (H:Hp) (Q:Option Int->Hp->Prop),Inv X pins σ H s->t σ H Q ->
  wpAny (model X.prog X.w) X.A (evalPart e X.env) (fun u s'=>∃o H',Inv X pins σ H' s'/\IsPart u o/\Q o H') X.xe s
def tNoPart:TO:=fun _ H Q=>Q none H
def tPart(t:TE):TO:=fun σ H Q=>t σ H fun x H1=>∃i,x=.int i/\Q (some i) H1
section
variable {X:Cx}{e:Expr}{te:TE}{lo hi:Option Expr}{tl th:TO}{pos p2:Pos}
theorem po_none:PO X none tNoPart:=by
 intro pins s σ H Q I h
 rw[evalPart_none]
 exact wpAny_pure ⟨none,H,I,.none,h⟩
theorem po_some(h:PE X e te):PO X (some e) (tPart te):=by
 intro pins s σ H Q I hw
 rw[evalPart_some]
 refine thn (h pins s σ H _ I hw) fun u s1 ⟨x,H1,I1,r1,q1⟩=>?_
 obtain⟨i,rfl,q⟩:=q1
 obtain⟨t,rfl⟩:=r1
 exact⟨some i,H1,I1,.int i t,q⟩
def SlR(X:Cx)(r:V->Option Int->Option Int->Hp->VK->Prop):Prop :=
 ∀(pins:List (Addr×Obj)) (s:Shared) (σ:St) (H:Hp) (x:V) (v vl vu:Value) (lo hi:Option Int) (sl:Addr) (Q:VK),Inv X pins σ H s->RelV x v->s.heap.IsSliceOf sl vl vu .none->IsPart vl lo->IsPart vu hi->r x lo hi H Q ->
  ∃T id,typeLookup (.type T) "__getitem__"=pure (some (.builtin id))/\s.TypeIs v T/\wpAny (model X.prog X.w) X.A (getItem v (.ref sl)) (EP X pins σ Q) X.xe s
def tSl(r:V->Option Int->Option Int->Hp->VK->Prop)(te:TE)(tl th:TO):TE:=fun σ H Q=>te σ H fun x H1=>tl σ H1 fun l H2=>th σ H2 fun u H3=>r x l u H3 Q
theorem pe_slice{r:V->Option Int->Option Int->Hp->VK->Prop}(hr:SlR X r)(he:PE X e te)(hl:PO X lo tl)(hu:PO X hi th):PE X (.Subscript e (.Slice lo hi none p2) pos) (tSl r te tl th):=by
 intro pins s σ H Q I h
 refine Subscript_ (thn (he pins s σ H _ I h) fun v s1 ⟨x,H1,I1,r1,q1⟩=>?_)
 refine wpAny_Slice (thn (hl pins s1 σ H1 _ I1 q1) fun vl s2 ⟨l,H2,I2,pl,q2⟩=>thn (hu pins s2 σ H2 _ I2 q2) fun vu s3 ⟨u,H3,I3,pu,q3⟩=>?_)
 rw[evalPart_none]
 refine wpAny_pure ?_
 have I4:Inv X pins σ H3 {s3 with heap:=s3.heap.push {cls:=.type "slice",data:=.fields #[vl,vu,.none]}}:=I3.kept (t':=s3.toks) fun b ob q=>Heap.get?_push_of_some _ q
 obtain⟨T,id,hT,ht,hg⟩:=hr pins {s3 with heap:=s3.heap.push {cls:=.type "slice",data:=.fields #[vl,vu,.none]}} σ H3 x v vl vu l u s3.heap.objs.size Q I4 r1 (Heap.IsSliceOf.new ..) pl pu q3
 show wpAny (model X.prog X.w) X.A (subscriptTail e (.Slice lo hi none p2) v (.ref s3.heap.objs.size)) (EP X pins σ Q) X.xe {s3 with heap:=s3.heap.push {cls:=.type "slice",data:=.fields #[vl,vu,.none]}}
 exact tail_any (ops:=[.ref s3.heap.objs.size,v]) ht hT hg (by with_unfolding_all rfl)
def cutV(xs:List V)(lo hi:Option Int):List V:=(xs.drop (HT.sIx xs.length 0 lo)).take (HT.sIx xs.length xs.length hi-HT.sIx xs.length 0 lo)
theorem cutV_length(xs:List V)(lo hi:Option Int):(cutV xs lo hi).length<=xs.length:=by
 unfold cutV
 rw[List.length_take,List.length_drop]
 omega
def rSlT(K:PySem.W.Frag):V->Option Int->Option Int->Hp->VK->Prop:=fun x lo hi H Q=>∃a xs,x=.ref a/\SqT K H a xs /\
 ¬(HT.sIx xs.length 0 lo=0/\HT.sIx xs.length xs.length hi=xs.length)/\∀p,H p=none->Q (.ref p) (upd H p (.tup (cutV xs lo hi)))
theorem sl_tup:SlR X (rSlT X.K):=by
 intro pins s σ H x v vl vu lo hi sl Q I rx hs pl pu h
 obtain⟨a,xs,rfl,hx,hw,q⟩:=h
 cases rx
 obtain⟨its,r,ht,hz⟩:=I.tuple hx
 have hlen:its.toArray.size=xs.length:=by rw[List.size_toArray];exact r.length.symm
 refine⟨"tuple",_,PyProof.Rows.slot_tuple_getitem.lookup,ht.typeIs,?_⟩
 refine HT.getItem_tuple_cut ht hs pl pu (by rw[hlen];exact hw) ?_ (by rw[hlen];exact hz)
 rw[hlen]
 refine⟨.ref s.heap.objs.size,_,I.laid (t':=s.toks) (o:=.tup (cutV xs lo hi)) (fun b ob q=>Heap.get?_push_of_some _ q) (Nat.le_refl _) ?_,rfl,q _ (I.hok.fresh (Nat.le_refl _))⟩
 exact⟨Nat.le_trans (cutV_length xs lo hi) hz,_,(r.drop (HT.sIx xs.length 0 lo)).take (HT.sIx xs.length xs.length hi-HT.sIx xs.length 0 lo),IsTup.new _ _,_,Heap.get?_push_size _ rfl,rfl⟩
def rCatT(K:PySem.W.Frag):R2:=fun x y H Q=>∃a b xs ys,x=.ref a/\y=.ref b/\SqT K H a xs/\SqT K H b ys/\xs≠[]/\xs.length+ys.length<=sizeLine /\
 (ys=[]->Q (.ref a) H)/\(ys≠[]->∀p,H p=none->Q (.ref p) (upd H p (.tup (xs++ys))))
theorem Vals.nil_iff{xs:List V}{us:List Value}(r:Vals xs us):us=[]↔xs=[]:=by
 cases r with
 |nil=>simp
 |cons _ _=>simp
theorem op_catT:OpR X (binaryOp .Add) (rCatT X.K):=by
 intro pins s σ H x y v u Q I rx ry h
 obtain⟨a,b,xs,ys,rfl,rfl,ha,hb,hx,hz,q1,q2⟩:=h
 cases rx
 cases ry
 obtain⟨its,r1,p1,_⟩:=I.tuple ha
 obtain⟨its2,r2,p2,_⟩:=I.tuple hb
 refine HT.cat_tup p1 p2 (fun z=>hx (r1.nil_iff.mp z)) (fun z=>⟨.ref a,H,I,rfl,q1 (r2.nil_iff.mp z)⟩) (fun z=>?_) (by rw[←r1.length,←r2.length];exact hz)
 refine⟨.ref s.heap.objs.size,_,I.laid (t':=s.toks) (o:=.tup (xs++ys)) (fun b ob q=>Heap.get?_push_of_some _ q) (Nat.le_refl _) ?_,rfl,q2 (fun w=>z (r2.nil_iff.mpr w)) _ (I.hok.fresh (Nat.le_refl _))⟩
 exact⟨by rw[List.length_append];exact hz,_,r1.append r2,IsTup.new _ _,_,Heap.get?_push_size _ rfl,rfl⟩
end
def ixN(n:Nat)(i:Int):Option Nat:=if 0<=i then(if i<n then some i.toNat else none)else if -(n:Int)<=i then some (i+n).toNat else none
def atI{α:Type}(xs:List α)(i:Int):Option α:=(ixN xs.length i).bind fun j=>xs[j]?
theorem ixN_seq{n:Nat}{i:Int}{j:Nat}(h:ixN n i=some j):seqIndex? i n=some j/\j<n/\-(n:Int)<=i/\i<n:=by
 unfold ixN at h
 by_cases h0:0<=i
 ·rw[if_pos h0]at h
  by_cases h1:i<n
  ·rw[if_pos h1]at h
   have e:i.toNat=j:=Option.some.inj h
   exact⟨by rw[seqIndex_of h0 h1,e],by omega,by omega,h1⟩
  ·rw[if_neg h1]at h;cases h
 ·rw[if_neg h0]at h
  by_cases h1:-(n:Int)<=i
  ·rw[if_pos h1]at h
   have e:(i+n).toNat=j:=Option.some.inj h
   exact⟨by rw[seqIndex_neg (by omega) h1,e],by omega,h1,by omega⟩
  ·rw[if_neg h1]at h;cases h
theorem atI_get{α:Type}{xs:List α}{i:Int}{v:α}(h:atI xs i=some v):∃j,seqIndex? i xs.length=some j/\xs[j]?=some v/\j<xs.length/\-(xs.length:Int)<=i/\i<xs.length:=by
 unfold atI at h
 cases e:ixN xs.length i with
 |none=>rw[e]at h;cases h
 |some j =>
  rw[e]at h
  obtain⟨h1,h2,h3,h4⟩:=ixN_seq e
  exact⟨j,h1,h,h2,h3,h4⟩
theorem atI_nat{α:Type}{xs:List α}{j:Nat}{v:α}(h:xs[j]?=some v):atI xs (j:Int)=some v:=by
 have hj:j<xs.length:=(List.getElem?_eq_some_iff.mp h).1
 have e:ixN xs.length (j:Int)=some j:=by
  unfold ixN
  rw[if_pos (by omega),if_pos (by omega)];simp
 unfold atI;rw[e];exact h
def PlainIx(b:Expr):Prop:=∀o i,subscripted b false o i=operate [o,i] (getItem o i)
def IxR(X:Cx)(r:R2):Prop :=
 ∀(value slice:Expr) (pins:List (Addr×Obj)) (s:Shared) (σ:St) (H:Hp) (x y:V) (v u:Value) (Q:VK),Inv X pins σ H s->RelV x v->RelV y u->r x y H Q ->
  subscripted slice false v u=operate [v,u] (getItem v u)->wpAny (model X.prog X.w) X.A (subscriptTail value slice v u) (EP X pins σ Q) X.xe s
def MtR(X:Cx)(id:String)(r:V->List V->Hp->VK->Prop):Prop :=
 ∀(pins:List (Addr×Obj)) (s:Shared) (σ:St) (H:Hp) (x:V) (xs:List V) (v:Value) (us:List Value) (Q:VK),Inv X pins σ H s->RelV x v->Vals xs us->r x xs H Q ->
  wpAny (model X.prog X.w) X.A (call (.builtin id) (v::us)) (EP X pins σ Q) X.xe s
section
variable {X:Cx}{a b:Expr}{ta tb:TE}{pos:Pos}
theorem IxR.or{r r':R2}(h:IxR X r)(h':IxR X r'):IxR X (fun x y H Q=>r x y H Q\/r' x y H Q):=by
 intro value slice pins s σ H x y v u Q I rx ry q hs
 rcases q with q|q
 ·exact h value slice pins s σ H x y v u Q I rx ry q hs
 ·exact h' value slice pins s σ H x y v u Q I rx ry q hs
theorem pe_ix{r:R2}(hr:IxR X r)(ha:PE X a ta)(hb:PE X b tb)(hs:PlainIx b):PE X (.Subscript a b pos) (tOp r ta tb):=by
 intro pins s σ H Q I h
 exact Subscript_ (binT ha hb I h fun v u s2 x y H2 I2 rx ry q=>hr a b pins s2 σ H2 x y v u Q I2 rx ry q (hs _ _))
def rIxL(K:PySem.W.Frag):R2:=fun x y H Q=>∃p xs i v,x=.ref p/\y=.int i/\SqL K H p xs/\atI xs i=some v/\Q v H
def rIxT(K:PySem.W.Frag):R2:=fun x y H Q=>∃p xs i v,x=.ref p/\y=.int i/\SqT K H p xs/\atI xs i=some v/\Q v H
def rIxS:R2:=fun x y H Q=>∃z i c,x=.str z/\y=.int i/\z.length<=sizeLine/\atI z.cps.toList i=some c/\Q (.str ⟨#[c]⟩) H
theorem ix_list:IxR X (rIxL X.K):=by
 intro value slice pins s σ H x y v u Q I rx ry h hs
 obtain⟨p,xs,i,z,rfl,rfl,hq,he,q⟩:=h
 cases rx
 obtain⟨t,rfl⟩:=ry
 obtain⟨its,r,pl,hz⟩:=I.list hq
 obtain⟨j,h1,h2,h3,h4,h5⟩:=atI_get he
 obtain⟨w,ew,rw'⟩:=r.get h2
 have hl:=r.length
 have hn:=line63
 have fin:EP X pins σ Q w s:=⟨z,H,I,rw',q⟩
 by_cases h0:0<=i
 ·have hj:i.toNat=j:=by
   rw[seqIndex_of h0 h5]at h1
   exact Option.some.inj h1
  exact item_listR pl.isList h0 (by omega) (by rw[hj];simpa using ew) fin hs
 ·have hj:(i+(its.toArray.size:Int)).toNat=j:=by
   rw[seqIndex_neg (by omega) h4]at h1
   rw[List.size_toArray,←hl]
   exact Option.some.inj h1
  exact subscriptTail_builtinR (x:=w) pl.isList.typeIs slot_list_getitem.lookup
   (wpAny_getItem_list_neg (Q:=fun r s'=>r=w/\EP X pins σ Q r s') pl.isList (by omega) (by rw[List.size_toArray]<;>omega) (by omega) (by rw[hj];simpa using ew) ⟨rfl,fin⟩) hs
theorem ix_tup:IxR X (rIxT X.K):=by
 intro value slice pins s σ H x y v u Q I rx ry h hs
 obtain⟨p,xs,i,z,rfl,rfl,hq,he,q⟩:=h
 cases rx
 obtain⟨t,rfl⟩:=ry
 obtain⟨its,r,pl,hz⟩:=I.tuple hq
 obtain⟨j,h1,h2,h3,h4,h5⟩:=atI_get he
 obtain⟨w,ew,rw'⟩:=r.get h2
 have hl:=r.length
 have hn:=line63
 have fin:EP X pins σ Q w s:=⟨z,H,I,rw',q⟩
 exact subscriptTail_builtinR (x:=w) pl.typeIs slot_tuple_getitem.lookup
  (getItem_tuple (j:=j) (Q:=fun r s'=>r=w/\EP X pins σ Q r s') pl (by omega) (by omega) (by rw[List.size_toArray,←hl];exact h1) (by simpa using ew) ⟨rfl,fin⟩) hs
theorem ix_str:IxR X rIxS:=by
 intro value slice pins s σ H x y v u Q I rx ry h hs
 obtain⟨z,i,c,rfl,rfl,hz,he,q⟩:=h
 obtain⟨t,rfl⟩:=rx
 obtain⟨t',rfl⟩:=ry
 obtain⟨j,h1,h2,h3,h4,h5⟩:=atI_get he
 have hl:z.cps.toList.length=z.length:=by simp[Str.length]
 rw[hl]at h1 h4 h5
 have hn:=line63
 exact tail_any (typeIs_str s z t) slot_str_getitem.lookup (getItem_str (c:=c) (by
  have e1:decide (i < -(2 ^ 63:Int))=false:=decide_eq_false (by omega)
  have e2:decide (i ≥ 2 ^ 63)=false:=decide_eq_false (by omega)
  rw[e1,e2,Bool.or_false]) (by rw[h1];simpa using h2) ⟨.str ⟨#[c]⟩,H,I.tok _,⟨_,rfl⟩,q⟩) hs
def rIx(K:PySem.W.Frag):R2:=fun x y H Q=>rIxL K x y H Q\/rIxT K x y H Q\/rIxS x y H Q
theorem ix_seq:IxR X (rIx X.K):=ix_list.or (ix_tup.or ix_str)
theorem mapSeq_set(its:List Value)(n j:Nat)(u:Value):Obj.mapSeq (·.setIfInBounds j u) {cls:=.type "list",data:=.seq its.toArray n}={cls:=.type "list",data:=.seq (its.set j u).toArray n}:=by
 simp[Obj.mapSeq]
theorem Inv.lst{pins:List (Addr×Obj)}{σ:St}{H:Hp}{s:Shared}{p:Addr}{xs:List V}(I:Inv X pins σ H s)(h:H p=some (.lst xs)) :
  ∃(its:List Value) (n:Nat),Vals xs its/\s.heap.get? p=some {cls:=.type "list",data:=.seq its.toArray n}/\xs.length<=sizeLine:=by
 obtain⟨z,its,n,r,e⟩:=I.hok p _ h
 exact⟨its,n,r,e,z⟩
theorem Inv.lstUpd{pins:List (Addr×Obj)}{σ:St}{H:Hp}{s:Shared}{p:Addr}{xs ys:List V}{its its':List Value}{n n':Nat}{f:Obj->Obj}(I:Inv X pins σ H s)(h:H p=some (.lst xs))
  (ho:s.heap.get? p=some {cls:=.type "list",data:=.seq its.toArray n}) (hf:f {cls:=.type "list",data:=.seq its.toArray n}={cls:=.type "list",data:=.seq its'.toArray n'}) (r:Vals ys its') (hz:ys.length<=sizeLine) (t:Nat) :
  Inv X pins σ (upd H p (.lst ys)) {s with heap:=s.heap.update p f,toks:=t}:=by
 have e:(s.heap.update p f).get? p=some {cls:=.type "list",data:=.seq its'.toArray n'}:=by
  rw[Heap.get?_update_self f ho (by rw[hf]<;>rfl),hf]
 refine I.write (x:=p) (e:=p) (by rw[h];trivial) (.inl rfl) (fun b u hb q=>(Heap.get?_update_other _ _ (Ne.symm hb)).trans q) ⟨_,e⟩ ?_
 exact⟨hz,its',n',r,e⟩
def rSetL:V->V->V->Hp->(Hp->Prop)->Prop:=fun o i v H Q=>∃p xs k j,o=.ref p/\i=.int k/\H p=some (.lst xs)/\ixN xs.length k=some j/\Q (upd H p (.lst (xs.set j v)))
theorem set_list:PSet X rSetL:=by
 intro pins s σ H o i v ov iv u Q I ro ri rv h
 obtain⟨p,xs,k,j,rfl,rfl,hp,hj,q⟩:=h
 cases ro
 obtain⟨t,rfl⟩:=ri
 obtain⟨its,n,r,ho,hz⟩:=I.lst hp
 obtain⟨h1,h2,h3,h4⟩:=ixN_seq hj
 have hl:=r.length
 have hn:=line63
 have I':Inv X pins σ (upd H p (.lst (xs.set j v))) {s with heap:=s.heap.update p (Obj.mapSeq (·.setIfInBounds j u))} :=
  I.lstUpd hp ho (mapSeq_set its n j u) (r.set rv j) (by rw[List.length_set];exact hz) s.toks
 by_cases h0:0<=k
 ·have hk:k.toNat=j:=by
   rw[seqIndex_of h0 h4]at h1
   exact Option.some.inj h1
  exact PySem.W.ki_setAt ho h0 (by omega) (by rw[List.size_toArray,←hl];exact h4) (by rw[hk];exact⟨_,I',q⟩)
 ·have hk:(k+(its.toArray.size:Int)).toNat=j:=by
   rw[seqIndex_neg (by omega) h3]at h1
   rw[List.size_toArray,←hl]
   exact Option.some.inj h1
  exact PySem.W.ki_setBack ho (by omega) (by rw[List.size_toArray,←hl];exact h3) (by omega) (by rw[hk];exact⟨_,I',q⟩)
theorem slice_bounds(lo hi:Option Int)(n:Nat):(sliceBounds lo hi none n).1=((HT.sIx n 0 lo:Nat):Int)/\(sliceBounds lo hi none n).2.1=((HT.sIx n n hi:Nat):Int)/\(sliceBounds lo hi none n).2.2=1:=by
 refine⟨?_,?_,rfl⟩
 ·cases lo with
  |none=>simp[sliceBounds,HT.sIx]
  |some i =>
   simp only[sliceBounds,HT.sIx,Option.getD_none,show(1:Int)>0 by decide,if_true]
   by_cases h:i<0
   ·simp only[h,if_true]<;>omega
   ·simp only[h,if_false]<;>omega
 ·cases hi with
  |none=>simp[sliceBounds,HT.sIx]
  |some i =>
   simp only[sliceBounds,HT.sIx,Option.getD_none,show(1:Int)>0 by decide,if_true]
   by_cases h:i<0
   ·simp only[h,if_true]<;>omega
   ·simp only[h,if_false]<;>omega
theorem slicePick_cut(its:List Value)(lo hi:Option Int):slicePick its.toArray lo hi none=((its.drop (HT.sIx its.length 0 lo)).take (HT.sIx its.length its.length hi-HT.sIx its.length 0 lo)).toArray:=by
 obtain⟨h1,h2,h3⟩:=slice_bounds lo hi its.toArray.size
 unfold slicePick
 rw[h1,h2,h3]
 simp only[sliceRange_one,pick_run,List.size_toArray]<;>rfl
def rSlL(K:PySem.W.Frag):V->Option Int->Option Int->Hp->VK->Prop:=fun x lo hi H Q=>∃a xs,x=.ref a/\SqL K H a xs/\∀p,H p=none->Q (.ref p) (upd H p (.lst (cutV xs lo hi)))
theorem sl_list:SlR X (rSlL X.K):=by
 intro pins s σ H x v vl vu lo hi sl Q I rx hs pl pu h
 obtain⟨a,xs,rfl,hx,q⟩:=h
 cases rx
 obtain⟨its,r,ht,hz⟩:=I.list hx
 have hlen:=r.length
 refine⟨"list",_,slot_list_getitem.lookup,ht.isList.typeIs,?_⟩
 refine wpAny_getItem_list_slice ht.isList hs pl pu .none (by simp) ?_ (by rw[List.size_toArray]<;>omega)
 rw[slicePick_cut,←hlen]
 refine⟨.ref s.heap.objs.size,_,I.laid (t':=s.toks) (o:=.lst (cutV xs lo hi)) (fun b ob q=>Heap.get?_push_of_some _ q) (Nat.le_refl _) ?_,rfl,q _ (I.hok.fresh (Nat.le_refl _))⟩
 exact⟨Nat.le_trans (cutV_length xs lo hi) hz,_,0,(r.drop (HT.sIx xs.length 0 lo)).take (HT.sIx xs.length xs.length hi-HT.sIx xs.length 0 lo),Heap.get?_push_size _ rfl⟩
theorem call_len_seq:CallR X (.builtin "len") (fun xs H Q=>∃p ys,xs=[.ref p]/\(SqL X.K H p ys\/SqT X.K H p ys)/\Q (.int ys.length) H):=by
 intro pins s σ H xs us Q I r h
 obtain⟨p,ys,rfl,hq,q⟩:=h
 obtain⟨u,rfl,rx⟩:=vals1 r
 cases rx
 have hn:=line63
 rcases hq with hq|hq
 ·obtain⟨its,r',pl,hz⟩:=I.list hq
  have hlen:=r'.length
  exact Calls.call_len_list pl.isList (by simp only[List.size_toArray]<;>omega) ⟨.int ys.length,H,I.tok _,⟨s.toks+1,by rw[List.size_toArray,hlen]⟩,q⟩
 ·obtain⟨its,r',pl,hz⟩:=I.tuple hq
  have hlen:=r'.length
  exact len_tuple pl (by simp only[List.size_toArray]<;>omega) ⟨.int ys.length,H,I.tok _,⟨s.toks+1,by rw[List.size_toArray,hlen]⟩,q⟩
theorem call_len_str:CallR X (.builtin "len") (fun xs H Q=>∃z,xs=[.str z]/\z.length<=sizeLine/\Q (.int z.length) H):=by
 intro pins s σ H xs us Q I r h
 obtain⟨z,rfl,hz,q⟩:=h
 obtain⟨u,rfl,t,rfl⟩:=vals1 r
 have hn:=line63
 exact len_str (by omega) ⟨.int z.length,H,I.tok _,⟨_,rfl⟩,q⟩
theorem call_list_of:CallR X (.type "list") (fun xs H Q=>∃p ys,xs=[.ref p]/\(SqL X.K H p ys\/SqT X.K H p ys)/\∀l,H l=none->Q (.ref l) (upd H l (.lst ys))):=by
 intro pins s σ H xs us Q I r h
 obtain⟨p,ys,rfl,hq,q⟩:=h
 obtain⟨u,rfl,rx⟩:=vals1 r
 cases rx
 have fin:∀(its:List Value),Vals ys its->ys.length<=sizeLine->∀(h':Heap) (c':Nat),(∀b o',s.heap.get? b=some o'->h'.get? b=some o') ->
   h'.get? s.heap.objs.size=some {cls:=.type "list",dict:=none,data:=.seq its.toArray c',slots:=#[]}->EP X pins σ Q (.ref s.heap.objs.size) {s with heap:=h'}:=fun its r' hz h' c' kp e =>
  ⟨.ref s.heap.objs.size,_,I.laid (t':=s.toks) kp (Nat.le_refl _) (show ObjOk X.prog X.w _ h' _ (.lst ys)from⟨hz,its,c',r',e⟩),rfl,q _ (I.hok.fresh (Nat.le_refl _))⟩
 rcases hq with hq|hq
 ·obtain⟨its,r',pl,hz⟩:=I.list hq
  have hlen:=r'.length
  obtain⟨o,ho,hc,n,hd⟩:=pl.isList
  exact call_list_seq p (.inl rfl) ho hc hd (fun h' c' kp e=>fin its r' hz h' c' kp e) (by simp only[List.size_toArray]<;>omega)
 ·obtain⟨its,r',pl,hz⟩:=I.tuple hq
  have hlen:=r'.length
  obtain⟨o,ho,hc,n,hd⟩:=pl
  exact call_list_seq p (.inr rfl) ho hc hd (fun h' c' kp e=>fin its r' hz h' c' kp e) (by simp only[List.size_toArray]<;>omega)
theorem call_tuple_of:CallR X (.type "tuple") (fun xs H Q=>∃p ys,xs=[.ref p]/\((SqL X.K H p ys/\∀l,H l=none->Q (.ref l) (upd H l (.tup ys)))\/(SqT X.K H p ys/\Q (.ref p) H))):=by
 intro pins s σ H xs us Q I r h
 obtain⟨p,ys,rfl,h⟩:=h
 obtain⟨u,rfl,rx⟩:=vals1 r
 cases rx
 rcases h with⟨hq,q⟩|⟨hq,q⟩
 ·obtain⟨its,r',pl,hz⟩:=I.list hq
  have hlen:=r'.length
  refine call_tuple_list pl.isList (fun h' kp=>?_) (by simp only[List.size_toArray]<;>omega)
  have I1:Inv X pins σ H {s with heap:=h'}:=I.kept (t':=s.toks) kp
  have I2:Inv X pins σ (upd H h'.objs.size (.tup ys)) {s with heap:=h'.push {cls:=.type "tuple",data:=.seq its.toArray}} :=
   I1.laid (t':=s.toks) (fun b o e=>Heap.get?_push_of_some _ e) (Nat.le_refl _) (show ObjOk X.prog X.w _ _ _ (.tup ys)from⟨hz,its,r',IsTup.new _ _,_,Heap.get?_push_size _ rfl,rfl⟩)
  exact⟨.ref h'.objs.size,_,I2,rfl,q _ (I1.hok.fresh (Nat.le_refl _))⟩
 ·obtain⟨its,r',pl,hz⟩:=I.tuple hq
  exact call_tuple_same pl ⟨.ref p,H,I,rfl,q⟩
def tyV(K:PySem.W.Frag)(T:String)(x:V)(H:Hp):Prop:=match x with
 |.str _=>T="str"
 |.int _=>T="int"
 |.ref p=>(T="list"/\∃xs,SqL K H p xs)\/(T="tuple"/\∃o,K.lookup p=some o/\o.cls=.type "tuple"/\o.dict=none) \/
   (T="dict"/\((∃kvs,H p=some (.dK kvs))\/∃kvs,H p=some (.dT kvs)))\/(T="set"/\∃S n,H p=some (.set S n))
 |_=>False
theorem tyV_is{pins:List (Addr×Obj)}{σ:St}{H:Hp}{s:Shared}{T:String}{x:V}{v:Value}(I:Inv X pins σ H s)(r:RelV x v)(ty:tyV X.K T x H) :
  s.TypeIs v T/\∀a,v=.ref a->∃ob,s.heap.get? a=some ob/\ob.dict=none:=by
 cases x with
 |str z =>
  obtain⟨t,rfl⟩:=r
  cases(show T="str" from ty)
  exact⟨typeIs_str s z t,fun _ e=>nomatch e⟩
 |int i =>
  obtain⟨t,rfl⟩:=r
  cases(show T="int" from ty)
  exact⟨typeIs_int s i t,fun _ e=>nomatch e⟩
 |ref p =>
  cases r
  rcases ty with⟨rfl,xs,hq⟩|⟨rfl,o,hk,hc,hd⟩|⟨rfl,hk⟩|⟨rfl,S,n,hk⟩
  ·obtain⟨its,_,pl,_⟩:=I.list hq
   refine⟨pl.isList.typeIs,fun a e=>?_⟩
   cases e
   obtain⟨o,n,e,c,hd,_⟩:=pl
   exact⟨o,e,hd⟩
  ·refine⟨⟨o,I.kIn p o hk,hc⟩,fun a e=>?_⟩
   cases e
   exact⟨o,I.kIn _ o hk,hd⟩
  ·have z:∃o,s.heap.get? p=some o/\o.ExactDict:=by
    rcases hk with⟨kvs,hk⟩|⟨kvs,hk⟩
    ·obtain⟨_,_,_,_,o,_,_,e,ex,_⟩:=I.hok p _ hk
     exact⟨o,e,ex⟩
    ·obtain⟨_,_,_,_,o,_,_,e,ex,_⟩:=I.hok p _ hk
     exact⟨o,e,ex⟩
   obtain⟨o,e,ex⟩:=z
   refine⟨⟨o,e,ex.1⟩,fun a e2=>?_⟩
   cases e2
   exact⟨o,e,ex.2.1⟩
  ·obtain⟨o,_,_,_,e,ex,_⟩:=I.hok p _ hk
   refine⟨⟨o,e,ex.1⟩,fun a e2=>?_⟩
   cases e2
   exact⟨o,e,ex.2.1⟩
 |_=>exact False.elim ty
def tBM0(K:PySem.W.Frag)(T:String)(r:V->List V->Hp->VK->Prop)(to:TE):TE:=fun σ H Q=>to σ H fun x H1=>tyV K T x H1/\r x [] H1 Q
def tBM(K:PySem.W.Frag)(T:String)(r:V->List V->Hp->VK->Prop)(to:TE)(t:TA):TE:=fun σ H Q=>to σ H fun x H1=>tyV K T x H1/\t σ H1 fun xs H2=>r x xs H2 Q
variable {o e:Expr}{es:List Expr}{to:TE}{t:TA}{name:Str}{apos cpos:Pos}{T id:String}{r:V->List V->Hp->VK->Prop}
theorem pe_bm0(pa:PlainAttrs T)(slot:Slot T name id)(hty:typeOf (.builtin id)=pure (.type "method_descriptor"))(hm:MtR X id r)(ho:PE X o to)
  (hbase:attributeBase o name X.env (eval o X.env)=eval o X.env:=by rfl) (hline:(apos.endLine == cpos.line)=true:=by rfl):PE X (.Call (.Attribute o name apos) [] [] cpos) (tBM0 X.K T r to):=by
 intro pins s σ H Q I h
 refine wpAny_Call_method0_late hbase hline (thn (ho pins s σ H _ I h) fun v s1 ⟨x,H1,I1,r1,ty,q1⟩=>?_)
 obtain⟨h1,h2⟩:=tyV_is I1 r1 ty
 exact⟨T,id,pa,slot,hty,h1,h2,Calls.callWith_builtin rfl (PySem.evalArgs_none (hm pins s1 σ H1 x [] v [] Q I1 r1 .nil q1))⟩
theorem pe_bm(pa:PlainAttrs T)(slot:Slot T name id)(hty:typeOf (.builtin id)=pure (.type "method_descriptor"))(hm:MtR X id r)(ho:PE X o to)(ha:PA X (e::es) t)
  (hbase:attributeBase o name X.env (eval o X.env)=eval o X.env:=by rfl)
  (hfew:((backTo cpos (starEach (e::es) X.env)).all (fun x=>!x.1)&&(backToKw cpos (keywordEach [] X.env)).all (fun x=>x.1.isSome)
   && decide ((e::es).length+([]:List Keyword).length+(if([]:List Keyword).isEmpty then 0 else 1)<30))=true:=by rfl)
  (hline:(apos.endLine == cpos.line)=true:=by rfl) (hs:starEach (e::es) X.env=(false,eval e X.env)::starEach es X.env:=by rfl) (hplain:(backTo cpos (starEach es X.env)).any (·.1)=false:=by rfl) :
  PE X (.Call (.Attribute o name apos) (e::es) [] cpos) (tBM X.K T r to t):=by
 intro pins s σ H Q I h
 refine wpAny_Call_method_late hbase hfew hline rfl (thn (ho pins s σ H _ I h) fun v s1 ⟨x,H1,I1,r1,ty,q1⟩=>?_)
 obtain⟨h1,h2⟩:=tyV_is I1 r1 ty
 refine⟨T,id,pa,slot,hty,h1,h2,?_⟩
 have hA:=ha cpos pins s1 σ H1 _ I1 q1
 rw[hs]at hA⊢
 refine Calls.callWith_builtin (by show(false||(backTo cpos (starEach es X.env)).any (·.1))=false;rw[hplain]<;>rfl) (Calls.evalArgs_plain ?_)
 exact thn hA fun us s2 ⟨vs,H2,I2,r2,q2⟩=>hm pins s2 σ H2 x vs v us Q I2 r1 r2 q2
/- xs.append(e),list.index on a module's tuple .. are MtR facts of 06m -/
end
def MtM(X:Cx)(id:String)(r:V->List V->Hp->VK->Prop):Prop :=
 ∀(pins:List (Addr×Obj)) (s:Shared) (σ:St) (H:Hp) (x:V) (xs:List V) (v:Value) (us:List Value) (Q:VK),Inv X pins σ H s->RelV x v->Vals xs us->r x xs H Q ->
  wpAny (model X.prog X.w) X.A (call (.builtin id) (v::us)) (EP X pins σ Q) X.xe s
theorem Vals.one:∀{x:V}{us:List Value},Vals [x] us->∃u,us=[u]/\RelV x u
 |_,_,.cons r .nil=>⟨_,rfl,r⟩
theorem Vals.zero:∀{us:List Value},Vals [] us->us=[]
 |_,.nil=>rfl
theorem Vals.dropLast{xs:List V}{us:List Value}(h:Vals xs us):Vals xs.dropLast us.dropLast:=by
 induction h with
 |nil=>exact .nil
 |cons r t ih =>
  cases t with
  |nil=>exact .nil
  |cons q t'=>exact .cons r ih
theorem Vals.rep{xs:List V}{us:List Value}(h:Vals xs us):∀k:Nat,Vals (List.replicate k xs).flatten (List.replicate k us).flatten
 |0=>.nil
 |k+1=>by
  rw[List.replicate_succ,List.replicate_succ,List.flatten_cons,List.flatten_cons]
  exact Vals.append h (Vals.rep h k)
theorem erase_last{α:Type}(l:List α):l.eraseIdx (l.length-1)=l.dropLast:=by
 induction l with
 |nil=>rfl
 |cons a r ih =>
  cases r with
  |nil=>rfl
  |cons b r =>
   have e:(a::b::r).length-1=((b::r).length-1)+1:=by
    have h1:(a::b::r).length=r.length+2:=rfl
    have h2:(b::r).length=r.length+1:=rfl
    omega
   rw[e,List.eraseIdx_cons_succ,ih]
   all_goals rfl
theorem foldl_rep(its:List Value):∀(k:Nat) (acc:List Value),
  List.foldl (fun x1 x2=>x1++x2) acc.toArray (List.replicate k its.toArray)=(acc++(List.replicate k its).flatten).toArray
 |0,acc=>by simp
 |k+1,acc=>by
  have e:acc.toArray++its.toArray=(acc++its).toArray:=by simp
  have e2:(acc++its)++(List.replicate k its).flatten=acc++(List.replicate (k+1) its).flatten:=by
   rw[List.replicate_succ,List.flatten_cons,List.append_assoc]
  rw[←e2,←foldl_rep its k (acc++its),←e,List.replicate_succ,List.foldl_cons]
section
variable {X:Cx}{pins:List (Addr×Obj)}{σ:St}{H:Hp}{s:Shared}{l b:Addr}{xs ys zs:List V}
theorem Inv.lset{its its':List Value}{n:Nat}{f:Array Value->Array Value}{t':Nat}(I:Inv X pins σ H s)(hH:H l=some (.lst xs))
  (e:s.heap.get? l=some {cls:=.type "list",data:=.seq its.toArray n}) (hf:f its.toArray=its'.toArray) (hv:Vals ys its') (hz:ys.length<=sizeLine) :
  Inv X pins σ (upd H l (.lst ys)) {s with heap:=s.heap.update l (Obj.mapSeq f),toks:=t'}:=by
 have q:=PySem.IsL.update e f
 rw[hf]at q
 refine I.write (x:=l) (e:=l) (by rw[hH];exact trivial) (.inl rfl) (fun b' u hb hu=>(Heap.get?_update_other s.heap (Obj.mapSeq f) (Ne.symm hb)).trans hu) ⟨_,q⟩ ?_
 exact⟨hz,its',_,hv,q⟩
theorem Inv.lnew{its:List Value}{t':Nat}(I:Inv X pins σ H s)(hv:Vals ys its)(hz:ys.length<=sizeLine) :
  Inv X pins σ (upd H s.heap.objs.size (.lst ys)) {s with heap:=s.heap.push {cls:=.type "list",data:=.seq its.toArray},toks:=t'} :=
 I.laid (fun _ _ q=>Heap.get?_push_of_some _ q) (Nat.le_refl _) ⟨hz,its,0,hv,Heap.get?_push_size _ rfl⟩
theorem Inv.fresh(I:Inv X pins σ H s):H s.heap.objs.size=none:=I.hok.fresh (Nat.le_refl _)
theorem Inv.lstM(I:Inv X pins σ H s)(hH:H l=some (.lst xs)):xs.length<=sizeLine/\∃(its:List Value) (n:Nat),Vals xs its/\xs.length=its.length/\s.heap.get? l=some {cls:=.type "list",data:=.seq its.toArray n}:=by
 obtain⟨z,its,n,r,e⟩:=I.hok l _ hH
 exact⟨z,its,n,r,r.length,e⟩
theorem notLongL{n:Nat}(h:n<=sizeLine):Builtin.List.listTooLong n=false:=by
 unfold Builtin.List.listTooLong
 exact decide_eq_false (by omega)
end
section
variable {X:Cx}
def rAppend:V->List V->Hp->VK->Prop:=fun x vs H Q=>∃l xs y,x=.ref l/\vs=[y]/\H l=some (.lst xs)/\xs.length<sizeLine/\Q .non (upd H l (.lst (xs++[y])))
theorem mt_append:MtM X "list.append" rAppend:=by
 intro pins s σ H x vs v us Q I rx rv h
 obtain⟨l,xs,y,rfl,rfl,hH,hz,q⟩:=h
 cases rx
 obtain⟨u,rfl,ru⟩:=rv.one
 obtain⟨z,its,n,r,hl,e⟩:=I.lstM hH
 refine call_meets F.slot_list_append ⟨_,e,rfl⟩ F.entry_list_append (F.args_list_append_2 _ _) (PySem.list_append l its.toArray n u (by rw[List.size_toArray];omega)) ⟨e,?_⟩
 refine⟨.non,_,I.lset (its':=its++[u]) hH e (by simp) (r.append (.cons ru .nil)) ?_,rfl,q⟩
 rw[List.length_append,List.length_singleton]
 omega
def rExtend:V->List V->Hp->VK->Prop:=fun x vs H Q=>∃l b xs zs,x=.ref l/\vs=[.ref b]/\H l=some (.lst xs)/\H b=some (.lst zs)/\xs.length+zs.length<=sizeLine/\Q .non (upd H l (.lst (xs++zs)))
theorem mt_extend:MtM X "list.extend" rExtend:=by
 intro pins s σ H x vs v us Q I rx rv h
 obtain⟨l,b,xs,zs,rfl,rfl,hH,hB,hz,q⟩:=h
 cases rx
 obtain⟨u,rfl,ru⟩:=rv.one
 cases ru
 obtain⟨z,its,n,r,hl,e⟩:=I.lstM hH
 obtain⟨z2,its2,n2,r2,hl2,e2⟩:=I.lstM hB
 have hsz:its.toArray.size+its2.toArray.size<=sizeLine:=by rw[List.size_toArray,List.size_toArray];omega
 have hlong:¬(!its.toArray.isEmpty&&Builtin.List.listTooLong (its.toArray.size+its2.toArray.size))=true:=by
  rw[notLongL hsz,Bool.and_false]
  exact Bool.false_ne_true
 refine call_meets F.slot_list_extend ⟨_,e,rfl⟩ F.entry_list_extend (F.args_list_extend_2 _ _)
  (AutoSeq1.list_extend_list_list_0 l its.toArray n b its2.toArray n2 hlong (by rw[List.size_toArray];omega) (by omega)) ⟨e,e2,?_⟩
 refine⟨.non,_,I.lset (its':=its++its2) hH e (by simp) (r.append r2) ?_,rfl,q⟩
 rw[List.length_append]
 omega
def rPop:V->List V->Hp->VK->Prop:=fun x vs H Q=>∃l xs y,x=.ref l/\vs=[]/\H l=some (.lst xs)/\xs[xs.length-1]?=some y/\Q y (upd H l (.lst xs.dropLast))
theorem mt_pop:MtM X "list.pop" rPop:=by
 intro pins s σ H x vs v us Q I rx rv h
 obtain⟨l,xs,y,rfl,rfl,hH,hy,q⟩:=h
 cases rx
 have hus:=rv.zero
 subst hus
 obtain⟨z,its,n,r,hl,e⟩:=I.lstM hH
 obtain⟨u,hu,ru⟩:=r.get hy
 have hy':its.toArray[its.toArray.size-1]?=some u:=by
  show its.toArray[its.length-1]?=some u
  rw[←Array.getElem?_toList,←hl]
  exact hu
 refine call_meets F.slot_list_pop ⟨_,e,rfl⟩ F.entry_list_pop (F.args_list_pop_1 _) (MeetsSeq.list_pop_last l its.toArray n u hy' (by rw[List.size_toArray];omega)) ⟨e,?_⟩
 refine⟨y,_,I.lset (its':=its.dropLast) hH e ?_ r.dropLast ?_,ru,q⟩
 ·show its.toArray.eraseIdxIfInBounds (its.toArray.size-1)=its.dropLast.toArray
  rw[List.size_toArray,List.eraseIdxIfInBounds_toArray,erase_last]
 ·rw[List.length_dropLast]
  omega
def rCat:R2:=fun x y H Q=>∃l b xs zs,x=.ref l/\y=.ref b/\H l=some (.lst xs)/\H b=some (.lst zs)/\xs.length+zs.length<=sizeLine/\∀p,H p=none->Q (.ref p) (upd H p (.lst (xs++zs)))
theorem op_cat:OpR X (binaryOp .Add) rCat:=by
 intro pins s σ H x y v u Q I rx ry h
 obtain⟨l,b,xs,zs,rfl,rfl,hH,hB,hz,q⟩:=h
 cases rx
 cases ry
 obtain⟨z,its,n,r,hl,e⟩:=I.lstM hH
 obtain⟨z2,its2,n2,r2,hl2,e2⟩:=I.lstM hB
 refine PySem.P.add_list e e2 ?_ (by rw[List.size_toArray,List.size_toArray];omega)
 have ea:its.toArray++its2.toArray=(its++its2).toArray:=by simp
 rw[ea]
 exact⟨.ref _,_,I.lnew (t':=s.toks) (r.append r2) (by rw[List.length_append];omega),rfl,q _ I.fresh⟩
def rRep:R2:=fun x y H Q=>∃l k xs,x=.ref l/\y=.int k/\H l=some (.lst xs)/\-(2 ^ 63)<=k/\k<2 ^ 63/\xs.length*k.toNat<=sizeLine /\
 ∀p,H p=none->Q (.ref p) (upd H p (.lst (List.replicate k.toNat xs).flatten))
theorem len_rep{α:Type}(xs:List α)(k:Nat):(List.replicate k xs).flatten.length=k*xs.length:=by
 induction k with
 |zero=>simp
 |succ k ih=>rw[List.replicate_succ,List.flatten_cons,List.length_append,ih,Nat.succ_mul,Nat.add_comm]
theorem op_rep:OpR X (binaryOp .Mult) rRep:=by
 intro pins s σ H x y v u Q I rx ry h
 obtain⟨l,k,xs,rfl,rfl,hH,h1,h2,hz,q⟩:=h
 cases rx
 obtain⟨t,rfl⟩:=ry
 obtain⟨z,its,n,r,hl,e⟩:=I.lstM hH
 have hlen:its.toArray.size*k.toNat<=sizeLine:=by rw[List.size_toArray,←hl];exact hz
 have hcap:¬its.toArray.size*k.toNat>(2 ^ 63-1) / 8:=by
  have:(sizeLine:Nat)<=(2 ^ 63-1) / 8:=by decide
  omega
 have hfit:¬(!Builtin.List.listFitsIndex k)=true:=by
  rw[fitsIndex_both h1 h2]
  exact Bool.false_ne_true
 have hlong:¬Builtin.List.listTooLong (its.toArray.size*k.toNat)=true:=by
  rw[notLongL hlen]
  exact Bool.false_ne_true
 have hnew:List.foldl (fun x1 x2=>x1++x2) #[] (List.replicate (if its.toArray.isEmpty=true then 0 else k.toNat) its.toArray)=(List.replicate k.toNat its).flatten.toArray:=by
  have f0:∀m:Nat,List.foldl (fun x1 x2=>x1++x2) #[] (List.replicate m its.toArray)=(List.replicate m its).flatten.toArray:=fun m=>by
   have:=foldl_rep its m []
   rw[List.nil_append]at this
   exact this
  rw[f0]
  cases its with
  |nil=>simp
  |cons a r'=>rw[if_neg (by simp)]
 refine wpAny_binaryOp_repeat_ref (T:="list") (U:="int") (by decide) ⟨_,e,rfl⟩ (fun s'=>typeIs_int s' k t) noFill_list_mul F.fills_int_mul F.slot_int_rmul repeat_list F.slot_int_index.lookup
  (call_meets F.slot_int_rmul (typeIs_int s k t) F.entry_int_rmul (F.args_int_rmul_2 _ _) (int___rmul___int_list k t l its.toArray n)
   ⟨e,rfl,⟨_,e,rfl⟩,call_meets F.slot_list_mul ⟨_,e,rfl⟩ F.entry_list_mul (F.args_list_mul_2 _ _) (AutoListH.list___mul___list_int_3 l its.toArray n k t hfit hcap hlong) ⟨e,?_⟩⟩)
 rw[hnew]
 exact⟨.ref _,_,I.lnew (t':=s.toks) (r.rep k.toNat) (by rw[len_rep,Nat.mul_comm];exact hz),rfl,q _ I.fresh⟩
end
section
variable {prog:Program}{w:World}{A:Around}{E:Value->Shared->Prop}{s:Shared}
end
section
variable {X:Cx}
end
end L2
namespace Att
open PySem PySem.W PySem.Calls PyProof.Rows
theorem ints_of_wellAll{P:Params}{h:Heap}:∀(ns:List Int) (vs:List Value),WellAll P h vs (ns.map WData.int)->IntsAre vs ns:=by
 intro ns
 induction ns with
 |nil =>
  intro vs w
  rw[List.map_nil]at w
  cases w
  exact .nil
 |cons n ns ih =>
  intro vs w
  rw[List.map_cons]at w
  cases w with
  |cons a b =>
   cases a
   exact .cons _ _ (ih _ b)
theorem script_of{l:OpenLaw}{n:Nat}(hn:l.most=some n){P:Params}{h:Heap}{args:List WData}{vals:List Value}
  (hpre:l.row.toRowW.claim.pre args=true) (hwl:WellAll P h vals args) :
  ∃a vs ns,vals=[Value.ref a]/\args=[WData.list (ns.map WData.int)]/\h.get? a=some {cls:=.type "list",data:=.seq vs.toArray}/\IntsAre vs ns/\ns.length<=n:=by
 have hsh:WShape.hasAll [] args [.list .int]=true:=(pre_splitW hpre).1
 have hc:l.pre.holds [] {args:=args}=true:=(pre_splitW hpre).2
 obtain⟨d,r,rfl,h1,h2⟩:=hasAllW_cons hsh
 obtain rfl:=hasAllW_nil h2
 obtain⟨xs,rfl,h3⟩:=hasW_list h1
 obtain⟨ns,rfl⟩:=items_int h3
 have hlen:ns.length<=n:=by
  unfold OpenLaw.pre at hc
  have h4:(WTm.not (.lt (.lit (.int (n:Int))) (.len (.arg 0)))).holds [] {args:=[.list (ns.map .int)]}=true:=by
   have h4:=(holds_andW hc).1
   rw[hn]at h4
   exact h4
  have h5:=condW_of h4 (w_not (w_lt w_lit (w_len_list (w_arg rfl))))
  rw[List.length_map]at h5
  refine Nat.le_of_not_lt fun q=>?_
  have q':(n:Int)<((ns.length:Nat):Int):=by omega
  first
   |(rw[decide_eq_true q']at h5;exact absurd h5 (by decide))
   |(simp at h5;omega)
 cases hwl with
 |cons w1 w2 =>
  cases w2
  cases w1 with
  |list ho hall=>exact⟨_,_,ns,rfl,rfl,ho,ints_of_wellAll ns _ hall,hlen⟩
theorem post_true(l:OpenLaw)(args:List WData):l.row.toRowW.claim.post args (.bool true) args=true :=
 postW_of (r:=l.row.toRowW) (X:=(true == true))
  (show WShape.has [] (.bool true) .bool=true by first|rfl|decide|simp[WShape.has,WShape.arms,WShape.armsAll])
  (show(WTm.eq .res (.lit (.bool true))).value [] {args:=args,res:=some (.bool true),after:=args}=some (.bool (true == true))from w_eq_bool (w_res rfl) w_lit) rfl
theorem attach_call{l:OpenLaw}{n:Nat}{q:Program}{loose:List Str}{XP:(Str->Option Value)->Heap->Prop}{YP:World->Heap->Prop}{d:DefRec}
  (hn:l.most=some n) (hdf:d.params.defaults=[])
  (call:∀(w:World) (s₀ s₁:Shared) (mg mb:Str->Option Value) (fa:Addr) (o:Obj) (pm cd doc:Value) (a:Addr) (vs:List Value) (ns:List Int),
   Ground q loose [] XP w s₀ mg mb s₁.heap->YP w s₁.heap ->
   s₁.heap.get? fa=some o->o.data=.func (docDef d.name d.params d.body d.scope pm cd doc)->s₁.heap.CodeRec cd d.name->mg d.name=some (.ref fa) ->
   s₁.heap.get? a=some {cls:=.type "list",data:=.seq vs.toArray}->IntsAre vs ns->ns.length<=n->s₁.gens=#[] ->
   codeAny (model l.prog w) callerA (.call (.ref fa) ⟨[.ref a],[]⟩) (fun r s'=>r=.ok (.ret (.bool true))/\OldK s₁.heap s'.heap/\s'.os=s₁.os/\AllBare s'.gens) s₁) :
  WalkO q loose XP YP l.row.toRowW d [] (fun f vs=>PySem.call f vs):=by
 intro w s₀ s₁ mg mb G Y fa o pm cd doc dV kV ho hd hcd hD hmg hg args vals as hpre hlay hrd hwl hlo
 obtain rfl:dV=.none:=Dflts.none hD hdf
 obtain rfl:kV=.none:=Dflts.noKw hD
 obtain⟨a,vs,ns,rfl,rfl,hobj,hints,hlen⟩:=script_of hn hpre hwl
 refine enter_call (codeAny_mono (call w s₀ s₁ mg mb fa o pm cd doc a vs ns G Y ho (fd_plain hd) hcd hmg hobj hints hlen hg) fun r s' hq=>?_)
 obtain⟨rfl,h2,h3,h4⟩:=hq
 exact⟨.inl ⟨.bool true,.bool true,[],rfl,fun _=>rfl,.bool true,post_true l _,fun _=>⟨List.Pairwise.nil,fun _ hm=>(nomatch hm)⟩⟩,h2,h3,h4⟩
section
variable {prog:Program}{w:World}{A:Around}{E:Value->Shared->Prop}{s:Shared}{K:Frag}
end
end Att
namespace L2
open PySem PySem.Spec PyProof.Rows
theorem vals_ints:∀{vs:List Value}{ns:List Int},IntsAre vs ns->Vals (ns.map V.int) vs
 |_,_,.nil=>.nil
 |_,_,.cons n t h=>.cons ⟨t,rfl⟩ (vals_ints h)
def defArgs(s:Stmt):Arguments:=match s with
 |.FunctionDef _ a _ _ _ _ _ _ _ _=>a
 |_=>{posonlyargs:=[],args:=[],vararg:=none,kwonlyargs:=[],kw_defaults:=[],kwarg:=none,defaults:=[]}
def defBody(s:Stmt):List Stmt:=match s with
 |.FunctionDef _ _ b _ _ _ _ _ _ _=>b
 |_=>[]
def defScope(s:Stmt):Scope:=match s with
 |.FunctionDef _ _ _ _ _ _ sc _ _ _=>sc
 |_=>{kind:=.function,names:=[],isGenerator:=false,isCoroutine:=false}
abbrev CX0:CXT:=fun _ _ _ _ _ _=>False
abbrev E0:XK:=fun _ _ _=>False
theorem pass0{X:Cx}:Passes CX0 X E0:=fun _ _ _ _ _ _ _ h=>h.elim
structure Fun(K:PySem.W.Frag) (x qual:Str) (st:Stmt) (f:Addr) (fd:FuncData):Prop where
 ex:∃(oc:Value) (od:Option Addr) (kV doc pm:Value) (an:Option Addr) (cdv ct:Value) (osl:Array (Option Value)),
  fd=PySem.W.fnOf x qual (defArgs st) (defBody st) (defScope st) .none kV doc pm an cdv ct/\K.lookup f=some ⟨oc,od,.func fd,osl⟩/\PySem.W.codeIn K cdv qual=true
 kp:PySem.W.keepIn K (.ref f)=true
section
variable {P:Program}{w:World}{K:PySem.W.Frag}{mg:Str->Option Value}{base:Heap}
theorem Fun.ok{x qual:Str}{st:Stmt}{f:Addr}{fd:FuncData}{N ps:List Str}{k:Nat}{sp:Sp}(F:Fun K x qual st f fd)(S:FnScope N ps (defScope st))(len:∀vs H Q E,sp vs H Q E->vs.length=ps.length)
  (hbody:∀(cdv:Value) (A:Around) (outer:List Env) (s:Shared) (H:Hp) (vs:List V) (Q:VK) (E:XK),Room k (A.deeper (envOfC qual (defScope st) s.heap.objs.size f cdv))->sp vs H Q E ->
   ∃t,PSs (cxOf CX0 P w K mg base N qual (defScope st) f cdv A outer s H E).nox (defBody st) t/\t {nx:=fun _ H'=>Q .non H',rt:=Q} (start N vs) H):FnOk P w K mg base CX0 (k+1) f fd ps sp:=by
 obtain⟨oc,od,kV,doc,pm,an,cdv,ct,osl,rfl,lk,hcd⟩:=F.ex
 refine fn_of lk hcd S len fun A outer s H vs Q E hr hsp=>?_
 obtain⟨t,h,q⟩:=hbody cdv A outer s H vs Q E hr hsp
 exact⟨t,h.nox,q⟩
theorem Fun.binds{x qual:Str}{st:Stmt}{f:Addr}{fd:FuncData}{ps:List Str}(F:Fun K x qual st f fd)
  (h:∀(kV doc pm:Value) (an:Option Addr) (cdv ct:Value) (us:List Value),us.length=ps.length->bindArgs (PySem.W.fnOf x qual (defArgs st) (defBody st) (defScope st) .none kV doc pm an cdv ct) ⟨us,[]⟩=pure (ps.zip us)):Binds K fd ps []:=by
 obtain⟨oc,od,kV,doc,pm,an,cdv,ct,osl,rfl,lk,hcd⟩:=F.ex
 exact .all (h kV doc pm an cdv ct)
end
theorem hu_of{A:Around}{k:Nat}(hr:Room k A):A.units+1<cLine:=Nat.lt_of_le_of_lt (Nat.add_le_add_left (by decide:1<=64) _) hr.units
theorem small1000{n:Nat}(h:n<=1000):n<sizeLine:=Nat.lt_of_le_of_lt h (by decide)
section
variable {X:Cx}
theorem pv(i:Nat){x:Str}{pos:Pos}(hN:X.N[i]?=some x:=by rfl)(hv:Vis X.env.scope x:=by first|exact Or.inl rfl|exact Or.inr (Or.inl rfl)|exact Or.inr (Or.inr rfl))(hd:(x == ("__debug__":Str))=false:=by decide)
  (hcd:(x == ("__classdict__":Str))=false:=by decide):PE X (.Name x pos) (tVar i):=pe_var hN hv hd hcd
end
theorem ite2{c A B:Prop}[Decidable c](h1:c->A)(h2:¬c->B):if c then A else B:=by
 by_cases h:c
 ·rw[if_pos h]
  exact h1 h
 ·rw[if_neg h]
  exact h2 h
def Same(H H':Hp):Prop:=∀b o,H b=some o->H' b=some o
theorem Same.refl(H:Hp):Same H H:=fun _ _ h=>h
theorem Same.trans{H H1 H2:Hp}(a:Same H H1)(b:Same H1 H2):Same H H2:=fun c o h=>b c o (a c o h)
theorem Same.free{H H':Hp}(e:Same H H'){l:Addr}(h:H' l=Option.none):H l=Option.none:=by
 cases q:H l with
 |none=>rfl
 |some o =>
  rw[e l o q]at h
  cases h
theorem Same.seq{K:PySem.W.Frag}{H H':Hp}{a:Addr}{xs:List V}(e:Same H H')(h:SqL K H a xs):SqL K H' a xs:=by
 rcases h with(h|⟨o,h⟩)|h
 ·exact .inl (.inl (e _ _ h))
 ·exact .inl (.inr ⟨o,e _ _ h⟩)
 ·exact .inr h
section
variable {κ:Type} [DecidableEq κ]
def valV(kvs:List (κ×V))(k:κ):Option V:=(kvs.find? fun kv=>decide (kv.1=k)).map (·.2)
def putK(kvs:List (κ×V))(k:κ)(v:V):List (κ×V) :=
 if(kvs.any fun kv=>decide (kv.1=k))=true then kvs.map (fun kv=>if kv.1=k then(kv.1,v)else kv)else kvs++[(k,v)]
theorem valV_pos{p:κ×V}{r:List (κ×V)}{k:κ}(e:p.1=k):valV (p::r) k=some p.2:=by simp[valV,List.find?_cons,e]
theorem valV_neg{p:κ×V}{r:List (κ×V)}{k:κ}(e:¬p.1=k):valV (p::r) k=valV r k:=by simp[valV,List.find?_cons,e]
theorem length_putK(kvs:List (κ×V))(k:κ)(v:V):(putK kvs k v).length<=kvs.length+1:=by
 unfold putK
 split
 ·rw[List.length_map];omega
 ·rw[List.length_append,List.length_cons,List.length_nil];omega
theorem RelO.isSome_eq{o:Option V}{u:Option Value}(r:RelO o u):o.isSome=u.isSome:=by
 cases o with
 |none=>cases u with
  |none=>rfl
  |some _=>exact(show False from r).elim
 |some _=>cases u with
  |none=>exact(show False from r).elim
  |some _=>rfl
theorem RelO.getD{o:Option V}{u:Option Value}{d:V}{d':Value}(r:RelO o u)(rd:RelV d d'):RelV (o.getD d) (u.getD d'):=by
 cases o with
 |none=>cases u with
  |none=>exact rd
  |some _=>exact(show False from r).elim
 |some _=>cases u with
  |none=>exact(show False from r).elim
  |some _=>exact r
theorem KV.val{kvs:List (κ×V)}{vs:List (κ×Value)}(r:KV kvs vs)(k:κ):RelO (valV kvs k) (valueAt vs k):=by
 unfold KV at r
 induction r with
 |nil=>exact True.intro
 |@cons p q ps qs h t ih =>
  obtain⟨h1,h2⟩:=h
  by_cases e:p.1=k
  ·have e':q.1=k:=h1.symm.trans e
   have b:valueAt (q::qs) k=some q.2:=by simp[valueAt,List.find?_cons,e']
   rw[valV_pos e,b];exact h2
  ·have e':¬q.1=k:=fun z=>e (h1.trans z)
   have b:valueAt (q::qs) k=valueAt qs k:=by simp[valueAt,List.find?_cons,e']
   rw[valV_neg e,b];exact ih
theorem KV.any{kvs:List (κ×V)}{vs:List (κ×Value)}(r:KV kvs vs)(k:κ):(kvs.any fun kv=>decide (kv.1=k))=vs.any fun kv=>decide (kv.1=k):=by
 unfold KV at r
 induction r with
 |nil=>rfl
 |cons h t ih=>rw[List.any_cons,List.any_cons,ih,h.1]
theorem KV.repl{kvs:List (κ×V)}{vs:List (κ×Value)}(r:KV kvs vs)(k:κ){y:V}{u:Value}(ry:RelV y u) :
  KV (kvs.map fun kv=>if kv.1=k then(kv.1,y)else kv) (vs.map fun kv=>if kv.1=k then(kv.1,u)else kv):=by
 unfold KV at r⊢
 induction r with
 |nil=>exact .nil
 |@cons p q ps qs h t ih =>
  rw[List.map_cons,List.map_cons]
  refine .cons ?_ ih
  obtain⟨h1,h2⟩:=h
  by_cases e:p.1=k
  ·rw[if_pos e,if_pos (h1.symm.trans e)];exact⟨h1,ry⟩
  ·rw[if_neg e,if_neg (fun z=>e (h1.trans z))];exact⟨h1,h2⟩
theorem KV.put{kvs:List (κ×V)}{vs:List (κ×Value)}(r:KV kvs vs)(k:κ){y:V}{u:Value}(ry:RelV y u):KV (putK kvs k y) (stored vs k u):=by
 unfold putK stored
 rw[r.any k]
 by_cases e:(vs.any fun kv=>decide (kv.1=k))=true
 ·rw[if_pos e,if_pos e];exact r.repl k ry
 ·rw[if_neg e,if_neg e];exact Paired.snoc r ⟨rfl,ry⟩
theorem KV.length{kvs:List (κ×V)}{vs:List (κ×Value)}(r:KV kvs vs):kvs.length=vs.length:=Paired.length r
end
theorem kV_is{P:Program}{w:World}{k:Key}{u:Value}(r:RelV (kV k) u):(mixKind P w).is k u=true:=by
 cases k with
 |inl i=>obtain⟨t,e⟩:=(show ∃t,u=Value.int i t from r);subst e;exact mixKind_int P w i t
 |inr x=>obtain⟨t,e⟩:=(show ∃t,u=Value.str x t from r);subst e;exact mixKind_str P w x t
theorem items_are{P:Program}{w:World}:∀{ks:List Key}{us:List Value},Vals (ks.map kV) us->ItemsAre (mixKind P w) ks us
 | [],_,r=>by rw[List.map_nil]at r;cases r;exact .nil
 |k::ks,_,r=>by
  rw[List.map_cons]at r
  cases r with
  |cons h t=>exact .cons (kV_is h) (items_are t)
abbrev KT(H:Hp):List (List Key×V)->List (List Key×Addr×Value)->Prop:=Paired fun p q=>p.1=q.1/\H q.2.1=some (.tup (p.1.map kV))/\RelV p.2 q.2.2
theorem KT.val{H:Hp}{kvs:List (List Key×V)}{xs:List (List Key×Addr×Value)}(r:KT H kvs xs)(k:List Key):RelO (valV kvs k) ((atKey xs k).map (·.2)):=by
 induction r with
 |nil=>exact True.intro
 |@cons p q ps qs h t ih =>
  obtain⟨h1,_,h2⟩:=h
  by_cases e:p.1=k
  ·have e':q.1=k:=h1.symm.trans e
   have b:atKey (q::qs) k=some q.2:=by simp[atKey,List.find?_cons,e']
   rw[valV_pos e,b];exact h2
  ·have e':¬q.1=k:=fun z=>e (h1.trans z)
   have b:atKey (q::qs) k=atKey qs k:=by simp[atKey,List.find?_cons,e']
   rw[valV_neg e,b];exact ih
section
variable {P:Program}{w:World}{H:Hp}{h:Heap}{a:Addr}
theorem rd_of{u:HO}(ok:HOk P w H h)(e:Rd H a u):ObjOk P w H h a u:=e.ok ok
theorem dk_rd{kvs:List (Key×V)}(ok:HOk P w H h)(e:Rd H a (.dK kvs)):kvs.length<=sizeLine/\(a == sysModules)=false/\∃vs,KV kvs vs/\h.DictOf (mixKind P w) a vs :=
 show ObjOk P w H h a (.dK kvs)from rd_of ok e
theorem key_of{ks:List Key}(ok:HOk P w H h)(e:H a=some (.tup (ks.map kV))):(tupleKind (mixKind P w)).is h ks a:=by
 obtain⟨_,its,r,⟨o,h1,h2,n,h3⟩,_⟩:=(show ObjOk P w H h a (.tup (ks.map kV))from ok a _ e)
 exact⟨o,its.toArray,n,h1,h2,h3,by simpa using items_are r⟩
theorem dt_rd{kvs:List (List Key×V)}(ok:HOk P w H h)(e:Rd H a (.dT kvs)):kvs.length<=sizeLine/\(a == sysModules)=false /\
  ∃xs,KT H kvs xs/\h.DictOfH (tupleKind (mixKind P w)) a xs:=by
 obtain⟨z,y,xs,r,o,es,ep,h1,h2,h3,h4,h5⟩:=(show ObjOk P w H h a (.dT kvs)from rd_of ok e)
 refine⟨z,y,xs,r,o,es,ep,h1,h2,h3,h4,fun x hx=>?_,h5⟩
 have all:∀{l:List (List Key×V)}{m:List (List Key×Addr×Value)},KT H l m->∀x∈m,(tupleKind (mixKind P w)).is h x.1 x.2.1:=by
  intro l m q
  induction q with
  |nil=>intro x hx;exact nomatch hx
  |@cons p q ps qs hq t ih =>
   intro x hx
   rcases List.mem_cons.mp hx with e|hx
   ·subst e
    exact key_of ok (by rw[←hq.1];exact hq.2.1)
   ·exact ih x hx
 exact all r x hx
end
def DGet(H:Hp)(a:Addr)(y:V)(r:Option V):Prop :=
 (∃kvs k,Rd H a (.dK kvs)/\y=kV k/\r=valV kvs k)\/∃kvs k b,Rd H a (.dT kvs)/\y=.ref b/\H b=some (.tup (k.map kV))/\r=valV kvs k
def DPut(H:Hp)(a:Addr)(y v:V)(H':Hp):Prop :=
 (∃kvs k,H a=some (.dK kvs)/\y=kV k/\kvs.length<sizeLine/\H'=upd H a (.dK (putK kvs k v))) \/
 ∃kvs k b,H a=some (.dT kvs)/\y=.ref b/\H b=some (.tup (k.map kV))/\kvs.length<sizeLine/\H'=upd H a (.dT (putK kvs k v))
theorem DGet.k{H:Hp}{a:Addr}{kvs:List (Key×V)}{k:Key}(e:H a=some (.dK kvs)):DGet H a (kV k) (valV kvs k):=.inl ⟨kvs,k,.inl e,rfl,rfl⟩
theorem DGet.t{H:Hp}{a b:Addr}{kvs:List (List Key×V)}{k:List Key}(e:H a=some (.dT kvs))(eb:H b=some (.tup (k.map kV))):DGet H a (.ref b) (valV kvs k):=.inr ⟨kvs,k,b,.inl e,rfl,eb,rfl⟩
theorem DPut.k{H:Hp}{a:Addr}{kvs:List (Key×V)}{k:Key}{v:V}(e:H a=some (.dK kvs))(hl:kvs.length<sizeLine):DPut H a (kV k) v (upd H a (.dK (putK kvs k v))):=.inl ⟨kvs,k,e,rfl,hl,rfl⟩
theorem DPut.t{H:Hp}{a b:Addr}{kvs:List (List Key×V)}{k:List Key}{v:V}(e:H a=some (.dT kvs))(eb:H b=some (.tup (k.map kV)))(hl:kvs.length<sizeLine) :
  DPut H a (.ref b) v (upd H a (.dT (putK kvs k v))):=.inr ⟨kvs,k,b,e,rfl,eb,hl,rfl⟩
section
variable {X:Cx}{pins:List (Addr×Obj)}{σ:St}{H:Hp}{s:Shared}{a:Addr}{y v:V}{u r:Value}{o:Option V}{A:Around}{E:Value->Shared->Prop}
theorem Inv.big(I:Inv X pins σ H s):sysModules<s.heap.objs.size:=by
 have h:mainGlobals<s.heap.objs.size:=(I.mod.glob.keeps I.bk).lt
 exact Nat.lt_trans (by decide) h
theorem d_getItem{Q:Value->Shared->Prop}(hu:A.units+1<cLine)(I:Inv X pins σ H s)(g:DGet H a y (some v))(ry:RelV y u)(h:∀w' s',Inv X pins σ H s'->RelV v w'->Q w' s') :
  wpAny (model X.prog X.w) A (getItem (.ref a) u) Q E s:=by
 rcases g with⟨kvs,k,e,ey,l⟩|⟨kvs,k,b,e,ey,eb,l⟩
 ·subst ey
  obtain⟨z,hd,vs,rel,dd⟩:=dk_rd I.hok e
  obtain⟨w',hw,rw'⟩:=RelO.some_of (v:=v) (o:=valueAt vs k) (by rw[l];exact rel.val k)
  exact wpAny_getItem_of (kV_is ry) dd.mapOf hw (h w' _ (I.tok _) rw')
 ·subst ey
  cases(show u=Value.ref b from ry)
  obtain⟨z,hd,xs,rel,dd⟩:=dt_rd I.hok e
  obtain⟨w',hw,rw'⟩:=RelO.some_of (v:=v) (o:=(atKey xs k).map (·.2)) (by rw[l];exact rel.val k)
  obtain⟨p,hp,hp2⟩:=Option.map_eq_some_iff.mp hw
  refine wpAny_getItem_heap (tupleKind_room_in1 hu) (key_of I.hok eb) dd hp ?_
  rw[hp2]
  exact h w' _ (I.tok _) rw'
theorem d_in{Q:Value->Shared->Prop}(hu:A.units+1<cLine)(I:Inv X pins σ H s)(g:DGet H a y o)(ry:RelV y u)(h:∀s',Inv X pins σ H s'->Q (.bool o.isSome) s') :
  wpAny (model X.prog X.w) A (compareOp .In u (.ref a)) Q E s:=by
 rcases g with⟨kvs,k,e,ey,l⟩|⟨kvs,k,b,e,ey,eb,l⟩
 ·subst ey
  obtain⟨z,hd,vs,rel,dd⟩:=dk_rd I.hok e
  refine wpAny_in_of (kV_is ry) hd dd.mapOf ?_
  rw[←(rel.val k).isSome_eq,←l]
  exact h _ (I.tok _)
 ·subst ey
  cases(show u=Value.ref b from ry)
  obtain⟨z,hd,xs,rel,dd⟩:=dt_rd I.hok e
  refine wpAny_in_heap (tupleKind_room_in1 hu) (key_of I.hok eb) hd dd ?_
  have q:=(rel.val k).isSome_eq
  rw[Option.isSome_map]at q
  rw[←q,←l]
  exact h _ (I.tok _)
theorem dk_new{P:Program}{w:World}{H':Hp}{h':Heap}{kvs:List (Key×V)}{vs:List (Key×Value)}(z:kvs.length<=sizeLine)(hd:(a == sysModules)=false)(rel:KV kvs vs)(dd:h'.DictOf (mixKind P w) a vs) :
  ObjOk P w H' h' a (.dK kvs):=⟨z,hd,vs,rel,dd⟩
end
section
variable {X:Cx}{pins:List (Addr×Obj)}{σ:St}{H:Hp}{s:Shared}{a:Addr}{kvs:List (Key×V)}{k:Key}{u:Value}{A:Around}{E:Value->Shared->Prop}
end
def NoSl(i:Expr):Prop:=∀ov iv,subscripted i false ov iv=operate [ov,iv] (getItem ov iv)
theorem subD_of{prog:Program}{w:World}{A:Around}{E:Value->Shared->Prop}{s:Shared}{env:Env}{value slice:Expr}{pos:Pos}{T id:String}{Q:Value->Shared->Prop}
  (hl:typeLookup (.type T) "__getitem__"=pure (some (.builtin id))) (hs:NoSl slice)
  (h:wpAny (model prog w) A (eval value env) (fun o s₁=>wpAny (model prog w) A (eval slice env) (fun i s₂=>s₂.TypeIs o T/\wpAny (model prog w) A (getItem o i) Q E s₂) E s₁) E s) :
  wpAny (model prog w) A (eval (.Subscript value slice pos) env) Q E s:=by
 refine Subscript_ (wpAny_mono h (fun o s₁ h₁=>wpAny_mono h₁ (fun i s₂ h₂=>?_) fun _ _ x=>x) fun _ _ x=>x)
 obtain⟨hT,h₂⟩:=h₂
 unfold subscriptTail
 refine wpAny_bind ?_
 rw[getitemInPython_of_ne hT.not_modules]
 refine wpAny_bind (wpAny_specialOf hT hl ?_)
 have fin:wpAny (model prog w) A (subscripted slice false o i) (fun r s₃=>wpAny (model prog w) A (letTemporaryGo value o r>>=fun _=>pure r) Q E s₃) E s₂:=by
  rw[hs o i]
  exact wpAny_operating (wpAny_mono h₂ (fun r s₃ h₃=>wpAny_bind (wpAny_letTemporaryGo (wpAny_pure h₃))) fun _ _ x=>x)
 first
  |exact wpAny_pure (wpAny_bind fin)
  |exact wpAny_bind (wpAny_pure (wpAny_bind fin))
  |exact wpAny_bind fin
theorem dict_typeIs{X:Cx}{pins:List (Addr×Obj)}{σ:St}{H:Hp}{s:Shared}{a:Addr}{y:V}{o:Option V}(I:Inv X pins σ H s)(g:DGet H a y o):s.TypeIs (.ref a) "dict":=by
 rcases g with⟨kvs,k,e,_,_⟩|⟨kvs,k,b,e,_,_,_⟩
 ·obtain⟨_,_,vs,_,dd⟩:=dk_rd I.hok e
  exact dd.typeIs
 ·obtain⟨_,_,xs,_,dd⟩:=dt_rd I.hok e
  exact dd.typeIs
def tDGet(td ty:TE):TE:=fun σ H Q=>td σ H fun x H1=>ty σ H1 fun y H2=>∃a v,x=.ref a/\DGet H2 a y (some v)/\Q v H2
section
variable {X:Cx}{o i e value:Expr}{pos pos' tpos:Pos}{td ty tv:TE}
theorem pe_dget(hu:X.A.units+1<cLine)(ho:PE X o td)(hi:PE X i ty)(hs:NoSl i):PE X (.Subscript o i pos) (tDGet td ty):=by
 intro pins s σ H Q I h
 refine subD_of PySem.F.slot_dict_getitem.lookup hs (thn (ho pins s σ H _ I h) fun u s1 ⟨x,H1,I1,rx,q1⟩=>thn (hi pins s1 σ H1 _ I1 q1) fun iv s2 ⟨y,H2,I2,ry,a,v,ex,g,q2⟩=>?_)
 subst ex
 obtain rfl:u=Value.ref a:=rx
 exact⟨dict_typeIs I2 g,d_getItem hu I2 g ry fun w' s3 I3 rw'=>⟨v,H2,I3,rw',q2⟩⟩
end
section
variable {X:Cx}{pos:Pos}
end
def mergeK(kvs more:List (Key×V)):List (Key×V):=more.foldl (fun acc kv=>putK acc kv.1 kv.2) kvs
theorem KV.merge:∀{more:List (Key×V)}{rs:List (Key×Value)}{kvs:List (Key×V)}{vs:List (Key×Value)},KV more rs->KV kvs vs->KV (mergeK kvs more) (merged vs rs):=by
 intro more rs kvs vs r
 unfold KV at r
 induction r generalizing kvs vs with
 |nil=>intro q;exact q
 |@cons p q ps qs h t ih =>
  intro r0
  have e:KV (putK kvs p.1 p.2) (stored vs q.1 q.2):=by
   have:=r0.put p.1 h.2
   rw[←h.1];exact this
  exact ih e
theorem length_mergeK:∀(more kvs:List (Key×V)),(mergeK kvs more).length<=kvs.length+more.length
 | [],kvs=>by show kvs.length<=kvs.length+0;omega
 |p::r,kvs=>by
  have h1:=length_mergeK r (putK kvs p.1 p.2)
  have h2:=length_putK kvs p.1 p.2
  show(mergeK (putK kvs p.1 p.2) r).length<=_
  rw[List.length_cons];omega
structure M2(X:Cx) (o:Expr) (m:Str) (apos:Pos) (e f:Expr) (cpos:Pos):Prop where
 base:attributeBase o m X.env (eval o X.env)=eval o X.env
 few:((backTo cpos (starEach [e,f] X.env)).all (fun x=>!x.1)&&(backToKw cpos (keywordEach [] X.env)).all (fun x=>x.1.isSome)
  && decide (([e,f]:List Expr).length+([]:List Keyword).length+(if([]:List Keyword).isEmpty then 0 else 1)<30))=true
 line:(apos.endLine == cpos.line)=true
 trees:backTo cpos (starEach [e,f] X.env)=[(false,eval e X.env),(false,eval f X.env)]
def IsD(H:Hp)(a:Addr):Prop:=(∃kvs,Rd H a (.dK kvs))\/∃kvs,Rd H a (.dT kvs)
theorem isD_at{X:Cx}{pins:List (Addr×Obj)}{σ:St}{H:Hp}{s:Shared}{a:Addr}(I:Inv X pins σ H s)(d:IsD H a) :
  s.TypeIs (.ref a) "dict"/\(∀b,Value.ref a=.ref b->∃ob,s.heap.get? b=some ob/\ob.dict=none)/\(a == sysModules)=false:=by
 rcases d with⟨kvs,e⟩|⟨kvs,e⟩
 ·obtain⟨_,hd,vs,_,dd⟩:=dk_rd I.hok e
  refine⟨dd.typeIs,fun b q=>?_,hd⟩
  cases q
  obtain⟨ob,_,_,h1,h2,_⟩:=dd
  exact⟨ob,h1,h2.2.1⟩
 ·obtain⟨_,hd,xs,_,dd⟩:=dt_rd I.hok e
  refine⟨dd.typeIs,fun b q=>?_,hd⟩
  cases q
  obtain⟨ob,_,_,h1,h2,_⟩:=dd
  exact⟨ob,h1,h2.2.1⟩
section
variable {X:Cx}{pins:List (Addr×Obj)}{σ:St}{H:Hp}{s:Shared}{a:Addr}{y d:V}{u r:Value}{o:Option V}{A:Around}{E:Value->Shared->Prop}
theorem d_get2{Q:Value->Shared->Prop}(hu:A.units+1<cLine)(I:Inv X pins σ H s)(g:DGet H a y o)(ry:RelV y u)(rd:RelV d r)(h:∀w' s',Inv X pins σ H s'->RelV (o.getD d) w'->Q w' s') :
  wpAny (model X.prog X.w) A (call (.builtin "dict.get") [.ref a,u,r]) Q E s:=by
 rcases g with⟨kvs,k,e,ey,l⟩|⟨kvs,k,b,e,ey,eb,l⟩
 ·subst ey
  obtain⟨z,hd,vs,rel,dd⟩:=dk_rd I.hok e
  refine call_meetsIn PySem.F.slot_dict_get dd.typeIs PySem.F.entry_dict_get (PySem.F.args_dict_get_3 _ _ _) (meets_dict_get_default (mixKind X.prog X.w) a (kV_is ry) hd r) ⟨_,dd.mapOf,h _ _ (I.tok _) ?_⟩
  rw[l]
  exact(rel.val k).getD rd
 ·subst ey
  cases(show u=Value.ref b from ry)
  obtain⟨z,hd,xs,rel,dd⟩:=dt_rd I.hok e
  refine call_meetsIn PySem.F.slot_dict_get dd.typeIs PySem.F.entry_dict_get (PySem.F.args_dict_get_3 _ _ _) (meetsH_dict_get_default (tupleKind (mixKind X.prog X.w)) a b hd r) ⟨tupleKind_room_in1 hu,k,xs,key_of I.hok eb,dd,h _ _ (I.tok _) ?_⟩
  rw[l]
  exact(rel.val k).getD rd
end
def tDGet2(td ty tx:TE):TE:=fun σ H Q=>td σ H fun x H1=>∃a,x=.ref a/\IsD H1 a/\ty σ H1 fun y H2=>tx σ H2 fun z H3=>∃o,DGet H3 a y o/\Q (o.getD z) H3
section
variable {X:Cx}{o e f:Expr}{apos cpos:Pos}{td ty tx:TE}
theorem pe_dget2(hu:X.A.units+1<cLine)(ho:PE X o td)(he:PE X e ty)(hf:PE X f tx)(m:M2 X o "get" apos e f cpos):PE X (.Call (.Attribute o "get" apos) [e,f] [] cpos) (tDGet2 td ty tx):=by
 intro pins s σ H Q I h
 refine wpAny_Call_method m.base m.few m.line PySem.F.plainAttrs_dict PySem.F.slot_dict_get PySem.F.type_dict_get (thn (ho pins s σ H _ I h) fun u s1 ⟨x,H1,I1,rx,a,ex,d,q1⟩=>?_)
 subst ex
 obtain rfl:u=Value.ref a:=rx
 obtain⟨t1,t2,_⟩:=isD_at I1 d
 refine⟨t1,t2,?_⟩
 rw[m.trees]
 refine Calls.callWith_builtin rfl (Calls.evalArgs_plain (Calls.spliced_cons (thn (he pins s1 σ H1 _ I1 q1) fun iv s2 ⟨y,H2,I2,ry,q2⟩ =>
  Calls.spliced_cons (thn (hf pins s2 σ H2 _ I2 q2) fun fv s3 ⟨z,H3,I3,rz,ov,g,q3⟩=>Calls.spliced_nil ?_))))
 exact d_get2 hu I3 g ry rz fun w' s4 I4 rw'=>⟨_,H3,I4,rw',q3⟩
end
section
variable {X:Cx}{pins:List (Addr×Obj)}{σ:St}{H:Hp}{s:Shared}{a:Addr}{kvs:List (Key×V)}{A:Around}{E:Value->Shared->Prop}
end
section
variable {X:Cx}{pins:List (Addr×Obj)}{σ:St}{H:Hp}{s:Shared}{a:Addr}{y:V}{u:Value}{A:Around}{E:Value->Shared->Prop}
end
end L2
set_option maxHeartbeats 4000000
namespace L2
open PySem
inductive T where
 |s (x:Str)|i (n:Int)|n|t (xs:List T)
theorem T.induct{P:T->Prop}(hs:∀x,P (.s x))(hi:∀n,P (.i n))(hn:P .n)(ht:∀xs,(∀x∈xs,P x)->P (.t xs))(a:T):P a :=
 T.rec (motive_1:=P) (motive_2:=fun xs=>∀x∈xs,P x) hs hi hn ht (fun _ h=>nomatch h) (fun _ _ h1 h2 y hy=>by
  cases hy with
  |head=>exact h1
  |tail _ h=>exact h2 y h) a
mutual
def T.dep:T->Nat
 |.t xs=>T.deps xs+1
 |_=>0
def T.deps:List T->Nat
 | []=>0
 |x::r=>max x.dep (T.deps r)
end
theorem T.deps_mem{xs:List T}{x:T}(h:x∈xs):x.dep<=T.deps xs:=by
 induction xs with
 |nil=>cases h
 |cons y r ih =>
  unfold T.deps
  cases h with
  |head=>exact Nat.le_max_left _ _
  |tail _ h=>exact Nat.le_trans (ih h) (Nat.le_max_right _ _)
mutual
def T.eqB:T->T->Bool
 |.s x,.s y=>x == y
 |.i m,.i k=>m == k
 |.n,.n=>true
 |.t xs,.t ys=>T.eqBs xs ys
 |_,_=>false
def T.eqBs:List T->List T->Bool
 | [],[]=>true
 |x::r,y::q=>x.eqB y&&T.eqBs r q
 |_,_=>false
end
theorem T.eqBs_iff{xs:List T}(h:∀x∈xs,∀y,T.eqB x y=true↔x=y):∀ys,T.eqBs xs ys=true↔xs=ys:=by
 induction xs with
 |nil=>intro ys;cases ys<;>simp[T.eqBs]
 |cons x r ih =>
  intro ys
  cases ys with
  |nil=>simp[T.eqBs]
  |cons y q =>
   unfold T.eqBs
   rw[Bool.and_eq_true,h x (.head _) y,ih (fun z hz=>h z (.tail _ hz)) q,List.cons.injEq]
theorem T.eqB_iff(a:T):∀b,T.eqB a b=true↔a=b:=by
 induction a using T.induct with
 |hs x=>intro b;cases b<;>simp[T.eqB]
 |hi x=>intro b;cases b<;>simp[T.eqB]
 |hn=>intro b;cases b<;>simp[T.eqB]
 |ht xs ih =>
  intro b
  cases b with
  |t ys=>unfold T.eqB;rw[T.eqBs_iff ih ys,T.t.injEq]
  |_=>simp[T.eqB]
theorem T.eqB_self(a:T):T.eqB a a=true:=(T.eqB_iff a a).mpr rfl
instance:DecidableEq T:=fun a b=>if h:T.eqB a b=true then .isTrue ((T.eqB_iff a b).mp h)else .isFalse fun z=>h ((T.eqB_iff a b).mpr z)
theorem T.eqB_dec(a b:T):T.eqB a b=decide (a=b):=by rw[Bool.eq_iff_iff,decide_eq_true_iff,T.eqB_iff]
theorem T.eqBs_range:∀(xs ys:List T),T.eqBs xs ys=((List.range (min xs.length ys.length)).all (fun j=>T.eqB (xs.getD j .n) (ys.getD j .n))&&xs.length == ys.length)
 | [],[]=>rfl
 | [],y::q=>by simp[T.eqBs]
 |x::r,[]=>by simp[T.eqBs]
 |x::r,y::q=>by
  unfold T.eqBs
  rw[T.eqBs_range r q,List.length_cons,List.length_cons,Nat.succ_min_succ,List.range_succ_eq_map,List.all_cons,List.all_map]
  have e:(r.length+1 == q.length+1)=(r.length == q.length):=by simp
  rw[e,Bool.and_assoc]
  rfl
end L2
namespace L2
open PySem
inductive Hd where
 |num (n:Int)|name (x:Str)|gap (n:Int)|op (s:Str)|row|more|first|others|long|tag (t:Str)|call (f:Str)|mat (arms:List (Str×List Str))|ife|lt (x:Str)|fold (x y:Str)
inductive Tm where
 |mk (h:Hd) (ks:List Tm)
def Tm.hd:Tm->Hd|.mk h _=>h
def Tm.ks:Tm->List Tm|.mk _ ks=>ks
mutual
def Tm.size:Tm->Nat
 |.mk _ ks=>Tm.sizes ks+1
def Tm.sizes:List Tm->Nat
 | []=>0
 |k::r=>k.size+Tm.sizes r
end
end L2
namespace L2
open PySem PySem.Spec PyProof.Rows
def cellsFor(env:Env):List (Str×NameKind)->List (Str×Addr)->List (Str×Addr)
 | [],cs=>cs
 |(n,k)::r,cs=>cellsFor env r (if k == .free then(n,(env.cells.lookup n).getD 0)::cs else cs)
theorem closureFor_eq{scope:Scope}{env:Env}(h:∀x∈scope.names,x.2=.free->∃c,env.cells.lookup x.1=some c):closureFor scope env=pure (cellsFor env scope.names []):=by
 have go:∀(l:List (Str×NameKind)) (cs:List (Str×Addr)),(∀x∈l,x.2=.free->∃c,env.cells.lookup x.1=some c) ->
   (forIn l cs fun x r=>if(x.2 == NameKind.free)=true then do let a ←cellOf env x.1;pure (ForInStep.yield ((x.1,a)::r))else pure (ForInStep.yield r):Sem (List (Str×Addr)))=pure (cellsFor env l cs):=by
  intro l
  induction l with
  |nil=>intro cs _;rfl
  |cons x r ih =>
   intro cs hx
   obtain⟨n,k⟩:=x
   rw[List.forIn_cons]
   by_cases hk:k=.free
   ·subst hk
    obtain⟨c,hc⟩:=hx (n,.free) List.mem_cons_self rfl
    have e:cellOf env n=pure c:=by unfold cellOf;rw[show env.cells.lookup n=some c from hc]
    simp only[beq_self_eq_true,if_true,e,pure_bind]
    rw[ih _ fun y hy=>hx y (List.mem_cons_of_mem _ hy)]
    unfold cellsFor
    rw[show env.cells.lookup n=some c from hc]
    cases r<;>rfl
   ·have hb:(k == NameKind.free)=false:=by simpa using hk
    simp only[hb,Bool.false_eq_true,if_false,pure_bind]
    rw[ih _ fun y hy=>hx y (List.mem_cons_of_mem _ hy)]
    conv=>rhs;unfold cellsFor
    simp only[hb,Bool.false_eq_true,if_false]
 simp only[closureFor]
 have g:=go scope.names [] h
 simp only[g]
 rfl
theorem cellsFor_sub{env:Env}:∀(l:List (Str×NameKind)) (cs:List (Str×Addr)),(∀x∈l,x.2=.free->∃c,env.cells.lookup x.1=some c)->(∀y c,cs.lookup y=some c->env.cells.lookup y=some c) ->
  ∀y c,(cellsFor env l cs).lookup y=some c->env.cells.lookup y=some c
 | [],_,_,hc=>hc
 |(n,k)::r,cs,hl,hc=>by
  refine cellsFor_sub r _ (fun x hx=>hl x (List.mem_cons_of_mem _ hx)) fun y c e=>?_
  by_cases hk:(k == NameKind.free)=true
  ·rw[if_pos hk]at e
   rw[List.lookup_cons]at e
   by_cases hy:y=n
   ·subst hy
    simp only[beq_self_eq_true]at e
    obtain⟨c',hc'⟩:=hl (y,k) List.mem_cons_self (by simpa using hk)
    have hc'':env.cells.lookup y=some c':=hc'
    rw[hc'']at e⊢
    exact e
   ·have hb:(y == n)=false:=beq_eq_false_iff_ne.mpr hy
    rw[hb]at e
    exact hc y c e
  ·rw[if_neg hk]at e
   exact hc y c e
theorem cellsFor_keep{env:Env}:∀(l:List (Str×NameKind)) (cs:List (Str×Addr)) (y:Str),(∃c,cs.lookup y=some c)->∃c,(cellsFor env l cs).lookup y=some c
 | [],_,_,h=>h
 |(n,k)::r,cs,y,h=>by
  refine cellsFor_keep r _ y ?_
  by_cases hk:(k == NameKind.free)=true
  ·rw[if_pos hk,List.lookup_cons]
   cases hb:(y == n)with
   |true=>exact⟨_,rfl⟩
   |false=>exact h
  ·rw[if_neg hk];exact h
theorem cellsFor_has{env:Env}:∀(l:List (Str×NameKind)) (cs:List (Str×Addr)) (y:Str),(y,NameKind.free)∈l->∃c,(cellsFor env l cs).lookup y=some c
 | [],_,_,h=>nomatch h
 |(n,k)::r,cs,y,h=>by
  rcases List.mem_cons.mp h with e|h
  ·have e1:y=n:=congrArg Prod.fst e
   have e2:NameKind.free=k:=congrArg Prod.snd e
   subst e1
   subst e2
   refine cellsFor_keep r _ y ⟨(env.cells.lookup y).getD 0,?_⟩
   rw[if_pos (by rfl),List.lookup_cons,beq_self_eq_true]
  ·exact cellsFor_has r _ y h
theorem relabel_shape{env:Env}:∀{names:List (Str×NameKind)}{x:Str}{k':NameKind},(names.map fun(n,k)=>if(k == NameKind.free&&env.scope.kind == .function&&env.kindOf n == some .cell)then(n,NameKind.cell)else(n,k)).lookup x=some k' ->
  names.lookup x=some k'\/(k'=.cell/\names.lookup x=some .free)
 | [],_,_,h=>by simp at h
 |(n,k)::r,x,k',h=>by
  have ih:=@relabel_shape env r x k'
  change List.lookup x ((if(k == NameKind.free&&env.scope.kind == .function&&env.kindOf n == some .cell)=true then(n,NameKind.cell)else(n,k))::_)=_ at h
  cases hx:x == n with
  |true =>
   by_cases hc:(k == NameKind.free&&env.scope.kind == .function&&env.kindOf n == some .cell)=true
   ·rw[if_pos hc]at h
    simp only[List.lookup_cons,hx]at h
    cases h
    have hk:k=.free:=by simp at hc;exact hc.1.1
    subst hk
    exact .inr ⟨rfl,by simp only[List.lookup_cons,hx]⟩
   ·rw[if_neg hc]at h
    simp only[List.lookup_cons,hx]at h
    cases h
    exact .inl (by simp only[List.lookup_cons,hx])
  |false =>
   by_cases hc:(k == NameKind.free&&env.scope.kind == .function&&env.kindOf n == some .cell)=true
   ·rw[if_pos hc]at h
    simp only[List.lookup_cons,hx]at h⊢
    exact ih h
   ·rw[if_neg hc]at h
    simp only[List.lookup_cons,hx]at h⊢
    exact ih h
theorem relabel_free{env:Env}:∀{names:List (Str×NameKind)}{x:Str},names.lookup x=some .free ->
  (names.map fun(n,k)=>if(k == NameKind.free&&env.scope.kind == .function&&env.kindOf n == some .cell)then(n,NameKind.cell)else(n,k)).lookup x=some .cell \/
  (names.map fun(n,k)=>if(k == NameKind.free&&env.scope.kind == .function&&env.kindOf n == some .cell)then(n,NameKind.cell)else(n,k)).lookup x=some .free
 | [],_,h=>by simp at h
 |(n,k)::r,x,h=>by
  have ih:=@relabel_free env r x
  show List.lookup x ((if(k == NameKind.free&&env.scope.kind == .function&&env.kindOf n == some .cell)=true then(n,NameKind.cell)else(n,k))::_)=_\/List.lookup x ((if(k == NameKind.free&&env.scope.kind == .function&&env.kindOf n == some .cell)=true then(n,NameKind.cell)else(n,k))::_)=_
  cases hx:x == n with
  |true =>
   simp only[List.lookup_cons,hx]at h
   cases h
   by_cases hc:(NameKind.free == NameKind.free&&env.scope.kind == .function&&env.kindOf n == some .cell)=true
   ·rw[if_pos hc];exact .inl (by simp only[List.lookup_cons,hx])
   ·rw[if_neg hc];exact .inr (by simp only[List.lookup_cons,hx])
  |false =>
   simp only[List.lookup_cons,hx]at h
   by_cases hc:(k == NameKind.free&&env.scope.kind == .function&&env.kindOf n == some .cell)=true
   ·rw[if_pos hc];simp only[List.lookup_cons,hx];exact ih h
   ·rw[if_neg hc];simp only[List.lookup_cons,hx];exact ih h
section
variable {prog:Program}{w:World}{A:Around}{R:Result->Shared->Prop}{s:Shared}
theorem codeAny_compLoop_any{elt target iter:Expr}{ifs:List Expr}{scope:Scope}{pos:Pos}{it acc:Value}{env:Env}{E:Value->Shared->Prop}(I:Nat->Shared->Prop)
  (turn:∀n s,I n s->wpAny (model prog w) A (pyNext it) (fun r s₁=>match r with
   |none=>R (.ok .next) s₁
   |some v=>wpAny (model prog w) A (letOwnedTupleGo target it v) (fun _ s₁'=>wpAny (model prog w) A (assign target env v) (fun _ s₂ =>
     wpAny (model prog w) A (forIn ifs true fun c r=>if r=true then do let ok ←isTrue c env (eval c env);pure (ForInStep.yield ok)else pure (ForInStep.yield r)) (fun ok s₃ =>
      if ok=true then wpAny (model prog w) A (eval elt env) (fun x s₄ =>
       wpAny (model prog w) A (call (.builtin "list.append") [acc,x]) (fun _ s₅=>∃m,m<n/\I m s₅) E s₄) E s₃
      else ∃m,m<n/\I m s₃) E s₂) E s₁') E s₁) E s)
  (hE:∀e s',E e s'->notedBy (model prog w) A env (fun e s'=>R (.error e) s') e s')
  (n:Nat) (h:I n s) :
  codeAny (model prog w) A (.compLoop (.ListComp elt [⟨target,iter,ifs,0⟩] scope pos) 0 it acc env) R s:=by
 refine codeAny_loop rfl I (fun n s hI=>?_) n h
 show wpAny _ A ((compTurn (.ListComp elt [⟨target,iter,ifs,0⟩] scope pos) 0 it acc env).onRaise (fun x=>do noteFrame x env;theTreesLotGoes x)) _ _ s
 refine wpAny_noted ?_
 rw[compTurn_list]
 refine wpAny_bind (wpAny_standAt (wpAny_bind (wpAny_mono (turn n s hI) (fun r s₁ h₁=>?_) hE)))
 cases r with
 |none=>exact wpAny_pure h₁
 |some v =>
  refine wpAny_bind (wpAny_mono h₁ (fun _ s₁' h₁'=>?_) hE)
  refine wpAny_bind (wpAny_mono h₁' (fun _ s₂ h₂=>wpAny_bind (wpAny_mono h₂ (fun ok s₃ h₃=>?_) hE)) hE)
  cases ok with
  |false=>exact wpAny_pure ⟨rfl,h₃⟩
  |true =>
   exact wpAny_bind (wpAny_bind (wpAny_mono h₃ (fun x s₄ h₄=>wpAny_bind (wpAny_mono h₄ (fun _ s₅ h₅=>wpAny_pure (wpAny_pure ⟨rfl,h₅⟩)) hE)) hE))
end
def cxComp(X:Cx)(scope:Scope)(N':List Str)(fp:List Addr)(C:Addr)(s₂:Shared)(H₂:Hp):Cx where
 prog:=X.prog
 w:=X.w
 K:=X.K
 mg:=X.mg
 base:=X.base
 A:=X.A
 N:=N'
 s₀:=s₂
 H₀:=H₂
 env:=compEnvC scope (cellsFor X.env scope.names []) C X.env
 outer:=X.stack
 stack:=X.stack
 ex:=fp
 fn:=fun _=>false
 calm:=X.calm
 pn:=[]
 xe:=fun _ _=>False
def PIfs(X:Cx)(ifs:List Expr)(t:TT):Prop :=
 ∀(pins:List (Addr×Obj)) (s:Shared) (σ:St) (H:Hp) (Q:Bool->Hp->Prop),Inv X pins σ H s->t σ H Q ->
  wpAny (model X.prog X.w) X.A (forIn ifs true fun c r=>if r=true then do let ok ←isTrue c X.env (eval c X.env);pure (ForInStep.yield ok)else pure (ForInStep.yield r)) (TP X pins σ Q) X.xe s
def tNoIf:TT:=fun _ H Q=>Q true H
theorem pifs_nil{X:Cx}:PIfs X [] tNoIf:=fun pins s σ H Q I h=>by
 rw[List.forIn_nil]
 exact wpAny_pure ⟨H,I,h⟩
def innerSt(own:Nat)(fr:List Nat)(σ:St):St:=List.replicate own none++fr.map fun j=>(σ[j]?).join
def CompW(J:It)(g:TG)(tt:TT)(te:TE)(Q:VK)(σ0:St)(H0:Hp):Prop:=∃W:Nat->Nat->St->List V->Hp->Prop,(∃m,W 0 m σ0 [] H0)/\∀i m σ' vs H,W i m σ' vs H ->
 (J.stop i H/\vs.length<=sizeLine/\∀p,H p=none->Q (.ref p) (upd H p (.lst vs))) \/
 (J.go i H/\vs.length<sizeLine/\∃N:St->List V->Hp->Prop,(∀σ2 vs2 H2,N σ2 vs2 H2->∃m',m' < m/\W (i+1) m' σ2 vs2 H2)/\∀x H',J.yld i H x H'->g x σ' H' fun σ2 H2=>tt σ2 H2 fun ok H3 =>
  if ok=true then te σ2 H3 fun v H4=>N σ2 (vs++[v]) H4 else N σ2 vs H3)
def tComp(own:Nat)(fr:List Nat)(wi:TI)(g:TG)(tt:TT)(te:TE):TE:=fun σ H Q=>wi σ H fun J H1=>CompW J g tt te Q (innerSt own fr σ) H1
section
variable {X:Cx}{pins:List (Addr×Obj)}{σ:St}{H:Hp}{s:Shared}
theorem inner_ok{own:List Str}{fr:List Nat}(hl:σ.length=X.N.length){i:Nat}{x:Str}{v:V}(h1:(own++fr.map fun j=>X.N.getD j Str.empty)[i]?=some x)(h2:(innerSt own.length fr σ)[i]?=some (some v)) :
  ∃j∈fr,X.N[j]?=some x/\X.N.getD j Str.empty=x/\σ[j]?=some (some v):=by
 unfold innerSt at h2
 by_cases hi:i<own.length
 ·rw[List.getElem?_append_left (by simpa using hi),List.getElem?_replicate,if_pos hi]at h2
  cases h2
 ·rw[List.getElem?_append_right (by simpa using hi),List.length_replicate,List.getElem?_map]at h2
  rw[List.getElem?_append_right (by omega),List.getElem?_map]at h1
  cases e:fr[i-own.length]? with
  |none=>rw[e]at h2;cases h2
  |some j =>
   rw[e]at h1 h2
   simp only[Option.map_some,Option.some.injEq]at h1 h2
   have hj:σ[j]?=some (some v):=by
    cases q:σ[j]? with
    |none=>rw[q]at h2;cases h2
    |some o=>rw[q]at h2;exact congrArg some h2
   have hjl:j<X.N.length:=by rw[←hl];exact(List.getElem?_eq_some_iff.mp hj).1
   refine⟨j,List.mem_of_getElem? e,?_,h1,hj⟩
   rw[←h1,List.getD_eq_getElem?_getD,List.getElem?_eq_getElem hjl]
   rfl
theorem comp_enter{scope:Scope}{own:List Str}{fr:List Nat}{fp:List Addr}{C:Addr}{h₁:Heap}{tk:Nat}{m:Str->Option Value}(I:Inv X pins σ H s)
  (hkind:scope.kind=.function) (hcell:∀x∈scope.names,x.2≠.cell) (hfr:∀x∈scope.names,x.2=.free->X.env.scope.names.lookup x.1=some .cell\/X.env.scope.names.lookup x.1=some .free)
  (hin:∀j∈fr,scope.names.lookup (X.N.getD j Str.empty)=some .free) (hC:s.heap.objs.size<=C) (hf:∀b∈fp,FpOk X pins H b) (hfo:∀b∈fp,b<s.heap.objs.size)
  (old:∀b o,s.heap.get? b=some o->h₁.get? b=some o) (hn:h₁.Ns C m) :
  Inv (cxComp X scope (own++fr.map fun j=>X.N.getD j Str.empty) fp C s H) [] (innerSt own.length fr σ) H {s with heap:=h₁,toks:=tk}:=by
 have hfree:∀x∈scope.names,x.2=.free->∃c,X.env.cells.lookup x.1=some c:=fun x hx e=>I.ok.has x.1 (hfr x hx e)
 have sub:∀y c,(cellsFor X.env scope.names []).lookup y=some c->X.env.cells.lookup y=some c:=cellsFor_sub _ _ hfree (by intro y c e;simp at e)
 have hasF:∀y,scope.names.lookup y=some .free->∃c,(cellsFor X.env scope.names []).lookup y=some c:=fun y e=>cellsFor_has _ _ _ (PySem.mem_of_lookup e)
 refine⟨⟨I.ok.mod,?_,I.ok.glob,I.ok.blt,hC,fun x y c h1 h2=>I.ok.inj x y c (sub x c h1) (sub y c h2),fun x hx=>?_,(fun x c hx=>nomatch hx),I.ok.hd,I.ok.frames,.inl rfl,fun b hb=>?_,I.bs,Nat.le_trans I.ok.bsz I.sz,fun b o e hb=>?_,fun b hb z=>?_,I.stack,I.stkFree⟩,
  rfl,I.bare,Un.kept old,⟨m,hn,fun i x v h1 h2 h3=>?_⟩,fun x c e=>?_,I.hok.fresh hC,fun x c e=>I.freeC x c (sub x c e),fun p hp=>absurd (show p∈([]:List (Addr×Obj))from hp) (by simp),I.hok.kept old,?_⟩
 ·exact hkind
 ·have hx':(relabel scope X.env).names.lookup x=some .cell\/(relabel scope X.env).names.lookup x=some .free:=hx
  have hx2:scope.names.lookup x=some .free:=by
   rcases hx' with e|e
   ·rcases relabel_shape e with e|⟨_,e⟩
    ·exact absurd rfl (hcell _ (PySem.mem_of_lookup e))
    ·exact e
   ·rcases relabel_shape e with e|⟨z,_⟩
    ·exact e
    ·cases z
  exact hasF x hx2
 ·refine⟨Nat.ne_of_lt (Nat.lt_of_lt_of_le (hfo b hb) hC),fun x c e=>(hf b hb).2.2.2.2.1 x c (sub x c e)⟩
 ·rcases(hf b hb).2.2.2.1 with z|z
  ·exact I.ok.noex b o e z
  ·exact absurd (Nat.lt_of_lt_of_le (Heap.lt_size e) (Nat.le_trans I.ok.bsz z)) (Nat.lt_irrefl _)
 ·have hb':b∈fp:=hb
  have z':b∈frs X.stack:=z
  rcases List.mem_cons.mp (I.stkSub b z')with e|e
  ·exact(hf b hb').2.1 e
  ·exact(hf b hb').2.2.1 e
 ·obtain⟨j,hj,e1,e2,e3⟩:=inner_ok (own:=own) I.len h1 h2
  have hxf:scope.names.lookup x=some .free:=by rw[←e2];exact hin j hj
  have hk:=hfr _ (PySem.mem_of_lookup hxf) rfl
  obtain⟨m0,hn0,hl0⟩:=I.loc
  obtain⟨u,r,l⟩:=hl0 j x v e1 e3 (.inr hk)
  refine⟨u,r,?_⟩
  rcases l with⟨k,_⟩|⟨_,c,ec,z⟩
  ·have k':X.env.scope.names.lookup x=some .local:=k
   rcases hk with q|q<;>(rw[show X.env.scope.names.lookup x=_ from q]at k';cases k')
  ·obtain⟨c',ec'⟩:=hasF x hxf
   have:=sub x c' ec'
   rw[ec]at this
   cases this
   obtain⟨o,ho,hd⟩:=z
   exact .inr ⟨relabel_free hxf,c,ec',o,old c o ho,hd⟩
 ·obtain⟨v,o,ho,hd⟩:=I.cell x c (sub x c e)
  exact⟨v,o,old c o ho,hd⟩
 ·show(innerSt own.length fr σ).length=(own++fr.map fun j=>X.N.getD j Str.empty).length
  simp[innerSt]
theorem comp_leave{scope:Scope}{N':List Str}{fp:List Addr}{C D:Addr}{s':Shared}{H':Hp}{σ':St}{pins':List (Addr×Obj)}{vs:List V}{ys:Array Value}{h'':Heap}(I:Inv X pins σ H s)(hf:∀b∈fp,FpOk X pins H b)
  (I':Inv (cxComp X scope N' fp C s H) pins' σ' H' s') (hC:s.heap.objs.size<=C) (hD:s.heap.objs.size<=D) (hDC:D≠C) (hDn:H' D=none) (pl:s'.heap.PlainList D ys) (rv:Vals vs ys.toList) (hz:vs.length<=sizeLine) (hs:Heap.SameBut C s'.heap h'') :
  Inv X pins σ (upd H' D (.lst vs)) {s' with heap:=h''}:=by
 have un:Un (frs X.stack) fp H H' s.heap s'.heap:=I'.base
 have hCn:H' C=none:=I'.free
 have at':∀b,b≠C->h''.get? b=s'.heap.get? b:=fun b hb=>hs.2 b hb
 have neC:∀b o,s.heap.get? b=some o->b≠C:=fun b o e=>Nat.ne_of_lt (Nat.lt_of_lt_of_le (Heap.lt_size e) hC)
 have neD:∀b o,s.heap.get? b=some o->b≠D:=fun b o e=>Nat.ne_of_lt (Nat.lt_of_lt_of_le (Heap.lt_size e) hD)
 have okHD:∀b u,H b=some u->b≠D:=fun b u e=>Nat.ne_of_lt (Nat.lt_of_lt_of_le (I.hok.lt e) hD)
 have un':Un (frs X.stack) fp H (upd H' D (.lst vs)) s.heap h'':=by
  refine⟨fun b o e n h1 h2=>?_,fun b o e n h1 h2=>?_,fun b o e n h2=>?_,fun b o e h2=>?_,fun b xs e=>?_,fun b o u e=>?_,fun b ps e=>?_⟩
  ·rw[at' b (neC b o e)];exact un.keep b o e n h1 h2
  ·rw[at' b (neC b o e)];exact un.slot b o e n h1 h2
  ·rw[upd_ne (neD b o e)];exact un.free b o e n h2
  ·rw[at' b (neC b o e)];exact un.there b o e h2
  ·rw[upd_ne (okHD b _ e)];exact un.tups b xs e
  ·rw[upd_ne (okHD b _ e)];exact un.frzs b o u e
  ·rw[upd_ne (okHD b _ e)];exact un.tbls b ps e
 have hok:HOk X.prog X.w (upd H' D (.lst vs)) h'':=fun b u e=>by
  by_cases hb:b=D
  ·subst hb
   rw[upd_same]at e
   cases e
   obtain⟨n,ho⟩:=pl
   refine⟨hz,ys.toList,n,rv,?_⟩
   rw[at' b hDC]
   simpa using ho
  ·rw[upd_ne hb]at e
   refine(I'.hok b u e).stay (fun c v hc q=>?_) (fun c q=>?_) fun c xs q=>?_
   ·rw[at' c ?_];exact q
    rintro rfl
    rcases hc with z|z
    ·rw[←z,hCn]at e;cases e
    ·rw[hCn]at z;cases z
   ·rw[upd_ne (fun z=>by rw[z,hDn]at q;cases q)];exact q
   ·rw[upd_ne (fun z=>by rw[z,hDn]at q;cases q)];exact q
 exact I.call' (s':={s' with heap:=h''}) (ch:=fp) I'.os un' hok I'.bare fun b hb=>⟨(hf b hb).2.2.2.1,(hf b hb).2.1,(hf b hb).2.2.2.2.1,(hf b hb).2.2.2.2.2⟩
end
section
variable {X:Cx}
theorem pe_comp{elt iter tg:Expr}{ifs:List Expr}{scope:Scope}{pos:Pos}{wi:TI}{g:TG}{tt:TT}{te:TE}(own:List Str)(fr:List Nat)(hc:X.calm=true)
  (hkind:scope.kind=.function) (hcell:∀x∈scope.names,x.2≠.cell) (hnames:∀x∈scope.names,x.2=.local->scope.names.lookup x.1=some .local)
  (hfr:∀x∈scope.names,x.2=.free->X.env.scope.names.lookup x.1=some .cell\/X.env.scope.names.lookup x.1=some .free)
  (hin:∀j∈fr,scope.names.lookup (X.N.getD j Str.empty)=some .free)
  (hi:PI X tg iter wi) (hg:∀fp C s H,PG (cxComp X scope (own++fr.map fun j=>X.N.getD j Str.empty) fp C s H) tg g)
  (ht:∀fp C s H,PIfs (cxComp X scope (own++fr.map fun j=>X.N.getD j Str.empty) fp C s H) ifs tt)
  (he:∀fp C s H,PE (cxComp X scope (own++fr.map fun j=>X.N.getD j Str.empty) fp C s H) elt te)
  (hs:∀x,foldedSetIterable iter X.env x=pure x:=by intro _;rfl):PE X (.ListComp elt [⟨tg,iter,ifs,0⟩] scope pos) (tComp own.length fr wi g tt te):=by
 intro pins s σ H Q I h
 rw[eval_ListComp]
 have hfree:∀x∈scope.names,x.2=.free->∃c,X.env.cells.lookup x.1=some c:=fun x hx e=>I.ok.has x.1 (hfr x hx e)
 refine wpAny_comprehension_free (use:=none) rfl hs (closureFor_eq hfree) hkind hnames ?_
 refine thn (hi pins s σ H _ I h) fun v s1 h1=>thn h1 fun itv s2 h2=>?_
 obtain⟨it,fp,tn,J,H2,e,I2,T,st2,f2,W,⟨m0,w0⟩,turn⟩:=h2
 subst e
 have hfo:∀b∈fp,b<s2.heap.objs.size:=fun b hb=>by obtain⟨o,e,_⟩:=T.obj 0 _ st2 b hb;exact Heap.lt_size e
 refine wpAny_newObj_type (wpAny_newFunctionEnv hcell (by intro y hy;simp at hy) (fun h₁ hns₁ hsb₁=>?_) hkind)
 dsimp only at hns₁ hsb₁⊢
 generalize hH2:s2.heap.push {cls:=.type "list",dict:=none,data:=.seq ([]:List Value).toArray}=G2 at hns₁ hsb₁⊢
 have hC:G2.objs.size=s2.heap.objs.size+1:=by rw[←hH2,Heap.size_push]
 have hDC:s2.heap.objs.size≠G2.objs.size:=by rw[hC];exact Nat.ne_of_lt (Nat.lt_succ_self _)
 have hCle:s2.heap.objs.size<=G2.objs.size:=by rw[hC];exact Nat.le_succ _
 have old:∀b o,s2.heap.get? b=some o->h₁.get? b=some o:=fun b o e=>hsb₁.extBut b o (by rw[hC];exact Nat.ne_of_lt (Nat.lt_succ_of_lt (Heap.lt_size e))) (Heap.get?_push_of_some _ (hH2▸Heap.get?_push_of_some _ e))
 have hacc:h₁.PlainList s2.heap.objs.size #[]:=⟨_,hsb₁.extBut _ _ hDC (Heap.get?_push_of_some _ (hH2▸Heap.get?_push_size _ rfl))⟩
 have I3:Inv (cxComp X scope (own++fr.map fun j=>X.N.getD j Str.empty) fp G2.objs.size s2 H2) [] (innerSt own.length fr σ) H2 {s2 with heap:=h₁,toks:=s2.toks+([]:List (Str×Value)).length} :=
  comp_enter I2 hkind hcell hfr hin hCle f2 hfo old hns₁
 have st3:tn 0 h₁:=T.keep 0 _ _ st2 fun b _ o e=>old b o e
 have hDf:s2.heap.objs.size∉fp:=fun hm=>Nat.lt_irrefl _ (hfo _ hm)
 have hDn2:H2 s2.heap.objs.size=none:=I2.hok.fresh (Nat.le_refl _)
 have sub:∀y c,(cellsFor X.env scope.names []).lookup y=some c->X.env.cells.lookup y=some c:=cellsFor_sub _ _ hfree (by intro y c e;simp at e)
 have cellD:∀y c,(cellsFor X.env scope.names []).lookup y=some c->c≠s2.heap.objs.size:=fun y c e=>by
  obtain⟨_,o,ho,_⟩:=I2.cell y c (sub y c e)
  exact Nat.ne_of_lt (Heap.lt_size ho)
 have Dfs:s2.heap.objs.size∉frs X.stack:=fun z=>by
  rcases List.mem_cons.mp (I2.stkSub _ z)with e|e
  ·exact absurd I2.lt (by rw[←e];exact Nat.lt_irrefl _)
  ·exact I2.nofs (Nat.le_refl _) e
 -- the iterator's records,in the block's context
 have stat:∀{H':Hp}{pl:List (Addr×Obj)},(∀b∈fp,H' b=none)->(∀p∈pl,p.1=s2.heap.objs.size)->∀b∈fp,FpOk (cxComp X scope (own++fr.map fun j=>X.N.getD j Str.empty) fp G2.objs.size s2 H2) pl H' b:=fun{H' pl} hn hp b hb=>by
  refine⟨hn b hb,(I3.ok.exf b hb).1,I3.ok.exfs b hb,.inl hb,(I3.ok.exf b hb).2,fun p hpp z=>?_⟩
  have hpp':p∈pl:=by simpa[cxComp]using hpp
  exact hDf (by rw[←hp p hpp',z];exact hb)
 have pinD:∀{σ':St}{H':Hp}{s':Shared}{ys:Array Value}{n:Nat},Inv (cxComp X scope (own++fr.map fun j=>X.N.getD j Str.empty) fp G2.objs.size s2 H2) [] σ' H' s'->H' s2.heap.objs.size=none->s'.heap.get? s2.heap.objs.size=some {cls:=.type "list",data:=.seq ys n} ->
   Inv (cxComp X scope (own++fr.map fun j=>X.N.getD j Str.empty) fp G2.objs.size s2 H2) [(s2.heap.objs.size,{cls:=.type "list",data:=.seq ys n})] σ' H' s':=fun{σ' H' s' ys n} J hn e=>J.pins_of fun p hp=>by
  have e':p=(s2.heap.objs.size,{cls:=.type "list",data:=.seq ys n}):=by simpa using hp
  subst e'
  exact⟨e,hn,hDC,Dfs,fun v z=>nomatch z⟩
 have loop:codeAny (model X.prog X.w) X.A (.compLoop (.ListComp elt [⟨tg,iter,ifs,0⟩] scope pos) 0 (.ref it) (.ref s2.heap.objs.size) (compEnvC scope (cellsFor X.env scope.names []) G2.objs.size X.env))
   (compPost (model X.prog X.w) X.A X.xe none (EP X pins σ Q) (.ref s2.heap.objs.size) G2.objs.size) {s2 with heap:=h₁,toks:=s2.toks+([]:List (Str×Value)).length}:=by
  refine codeAny_compLoop_any (E:=fun _ _=>False) (fun n s'=>∃i σ' H' vs ys,Inv (cxComp X scope (own++fr.map fun j=>X.N.getD j Str.empty) fp G2.objs.size s2 H2) [] σ' H' s'/\tn i s'.heap/\(∀b∈fp,H' b=none)/\H' s2.heap.objs.size=none/\s'.heap.PlainList s2.heap.objs.size ys/\Vals vs ys.toList/\W i n σ' vs H')
   ?_ (fun _ _ z=>z.elim) m0 ⟨0,_,H2,[],#[],I3,st3,fun b hb=>(f2 b hb).1,hDn2,hacc,.nil,w0⟩
  rintro n s3 ⟨i,σ3,H3,vs,ys,J3,st3,fr3,dn3,⟨pn,pl3⟩,rv,w3⟩
  have J3':=pinD J3 dn3 pl3
  have hpins:∀p∈[(s2.heap.objs.size,({cls:=.type "list",data:=.seq ys pn}:Obj))],p.1=s2.heap.objs.size:=fun p hp=>by
   have e':p=(s2.heap.objs.size,{cls:=.type "list",data:=.seq ys pn}):=by simpa using hp
   rw[e']
  rcases turn i n σ3 vs H3 w3 with⟨stop,hz,q⟩|⟨go,hz,N,hN,step⟩
  ·refine thn (T.done (cxComp X scope (own++fr.map fun j=>X.N.getD j Str.empty) fp G2.objs.size s2 H2) rfl rfl rfl hc i _ s3 σ3 H3 (fun _ _=>False) J3' (stat fr3 hpins) st3 stop) fun r s4 ⟨hr,J4⟩=>?_
   subst hr
   obtain⟨m4,hn4,_⟩:=id J4.loc
   refine⟨m4,hn4,fun h' hs'=>?_⟩
   have e4:s4.heap.get? s2.heap.objs.size=some {cls:=.type "list",data:=.seq ys pn}:=(J4.pin (s2.heap.objs.size,{cls:=.type "list",data:=.seq ys pn}) (List.mem_append_right _ (by simp))).1
   exact⟨.ref s2.heap.objs.size,_,comp_leave I2 f2 J4 hCle (Nat.le_refl _) hDC dn3 ⟨pn,e4⟩ rv hz hs',rfl,q _ dn3⟩
  ·refine thn (T.item (cxComp X scope (own++fr.map fun j=>X.N.getD j Str.empty) fp G2.objs.size s2 H2) rfl rfl rfl hc i _ s3 σ3 H3 (fun _ _=>False) J3' (stat fr3 hpins) st3 go) fun r s4 ⟨u,hr,h4⟩=>?_
   subst hr
   refine thn h4 fun _ s5 ⟨x,H5,J5,r5,y5,st5,fr5⟩=>?_
   have J5':=J5.pinned (stat fr5 hpins) (T.obj _ _ st5)
   refine thn (hg fp _ s2 H2 _ s5 σ3 H5 x u _ J5' r5 (step x H5 y5)) fun _ s6 ⟨σ6,H6,J6,q6⟩=>?_
   refine thn (ht fp _ s2 H2 _ s6 σ6 H6 _ J6 q6) fun ok s7 ⟨H7,J7,q7⟩=>?_
   -- what stood pinned through the turn
   have after:∀{s8:Shared}{H8:Hp},Inv (cxComp X scope (own++fr.map fun j=>X.N.getD j Str.empty) fp G2.objs.size s2 H2) ([(s2.heap.objs.size,({cls:=.type "list",data:=.seq ys pn}:Obj))]++pinsAt fp s5.heap) σ6 H8 s8 ->
     tn (i+1) s8.heap/\(∀b∈fp,H8 b=none)/\H8 s2.heap.objs.size=none/\s8.heap.get? s2.heap.objs.size=some {cls:=.type "list",data:=.seq ys pn}:=fun{s8 H8} J8=>by
    refine⟨T.keep _ _ _ st5 fun b hb o e=>(J8.pin (b,o) (List.mem_append_right _ (List.mem_append_right _ (mem_pinsAt hb e)))).1,fun b hb=>?_,?_,?_⟩
    ·obtain⟨o,e,d⟩:=T.obj _ _ st5 b hb
     exact(J8.pin (b,o) (List.mem_append_right _ (List.mem_append_right _ (mem_pinsAt hb e)))).2.1
    ·exact(J8.pin (s2.heap.objs.size,{cls:=.type "list",data:=.seq ys pn}) (List.mem_append_right _ (List.mem_append_left _ (by simp)))).2.1
    ·exact(J8.pin (s2.heap.objs.size,{cls:=.type "list",data:=.seq ys pn}) (List.mem_append_right _ (List.mem_append_left _ (by simp)))).1
   cases ok with
   |false =>
    obtain⟨m',hm,w7⟩:=hN _ _ _ q7
    obtain⟨a1,a2,a3,a4⟩:=after J7
    exact⟨m',hm,i+1,σ6,H7,vs,ys,J7.pins_of (fun p hp=>absurd hp (by simp)),a1,a2,a3,⟨pn,a4⟩,rv,w7⟩
   |true =>
    refine thn (he fp _ s2 H2 _ s7 σ6 H7 _ J7 q7) fun y s8 ⟨v8,H8,J8,r8,n8⟩=>?_
    obtain⟨m',hm,w8⟩:=hN _ _ _ n8
    obtain⟨a1,a2,a3,a4⟩:=after J8
    have J9:Inv (cxComp X scope (own++fr.map fun j=>X.N.getD j Str.empty) fp G2.objs.size s2 H2) [] σ6 H8 s8:=J8.pins_of (fun p hp=>absurd hp (by simp))
    have hys:ys.size<=sizeLine:=by
     have e1:vs.length=ys.toList.length:=rv.length
     have e2:ys.toList.length=ys.size:=by simp
     omega
    refine wpAny_list_append_plain (hsz:=hys) ⟨pn,a4⟩ fun h₅ hl₅ hs₅=>?_
    refine⟨m',hm,i+1,σ6,H8,vs++[v8],ys.push y,J9.turned (t':=s8.toks) (it:=s2.heap.objs.size) (fun b o hb e=>by rw[hs₅.2 b hb];exact e) a3 hDC (.inr (Nat.le_refl _)) cellD (fun p hp=>absurd (show p∈([]:List (Addr×Obj))from hp) (by simp)),
     T.keep _ _ _ a1 fun b hb o e=>(hs₅.2 b (fun z=>hDf (z▸hb))).trans e,a2,a3,hl₅,?_,w8⟩
    have:Vals (vs++[v8]) (ys.toList++[y]):=rv.append (.cons r8 .nil)
    simpa using this
 exact codeAny_compStart_list loop (T.self X.A 0 _ _ _ st3 loop)
end
def compOk(scope sc:Scope)(N0:List Str)(fr:List Nat):Bool :=
 scope.kind == .function&&scope.names.all (fun x=>x.2 != .cell&&(x.2 != .local||scope.names.lookup x.1 == some .local)&&(x.2 != .free||sc.names.lookup x.1 == some .cell||sc.names.lookup x.1 == some .free)) &&
  fr.all (fun j=>scope.names.lookup (N0.getD j Str.empty) == some .free)
theorem pe_compC{X:Cx}{elt iter tg:Expr}{ifs:List Expr}{scope:Scope}{pos:Pos}{wi:TI}{g:TG}{tt:TT}{te:TE}(sc:Scope)(N0 own:List Str)(fr:List Nat)(hc:X.calm=true)(hsc:X.env.scope=sc)(hN:X.N=N0)
  (ok:compOk scope sc N0 fr=true) (hi:PI X tg iter wi) (hg:∀fp C s H,PG (cxComp X scope (own++fr.map fun j=>N0.getD j Str.empty) fp C s H) tg g)
  (ht:∀fp C s H,PIfs (cxComp X scope (own++fr.map fun j=>N0.getD j Str.empty) fp C s H) ifs tt)
  (he:∀fp C s H,PE (cxComp X scope (own++fr.map fun j=>N0.getD j Str.empty) fp C s H) elt te)
  (hs:∀x,foldedSetIterable iter X.env x=pure x:=by intro _;rfl):PE X (.ListComp elt [⟨tg,iter,ifs,0⟩] scope pos) (tComp own.length fr wi g tt te):=by
 subst hsc hN
 unfold compOk at ok
 simp only[Bool.and_eq_true,List.all_eq_true,bne_iff_ne,beq_iff_eq,Bool.or_eq_true]at ok
 obtain⟨⟨k1,k2⟩,k3⟩:=ok
 refine pe_comp own fr hc k1 (fun x hx=>(k2 x hx).1.1) (fun x hx e=>?_) (fun x hx e=>?_) (fun j hj=>k3 j hj) hi hg ht he hs
 ·rcases(k2 x hx).1.2 with z|z
  ·exact absurd e z
  ·exact z
 ·rcases(k2 x hx).2 with(z|z)|z
  ·exact absurd e z
  ·exact .inl z
  ·exact .inr z
section
variable {g:TG}{tt:TT}{te:TE}{Q:VK}{σ0:St}{H0:Hp}
theorem comp_by{J:It}(n:Nat)(Pv:Nat->St->List V->Hp->Prop)(h0:Pv 0 σ0 [] H0)(hlen:∀i σ vs H,i<=n->Pv i σ vs H->vs.length<=i)(hn:n<=sizeLine)(hgo:∀i σ vs H,i<n->Pv i σ vs H->J.go i H)(hst:∀σ vs H,Pv n σ vs H->J.stop n H)
  (hs:∀i σ vs H x H',i<n->Pv i σ vs H->J.yld i H x H'->g x σ H' fun σ2 H2=>tt σ2 H2 fun ok H3=>if ok=true then te σ2 H3 fun v H4=>Pv (i+1) σ2 (vs++[v]) H4 else Pv (i+1) σ2 vs H3)
  (hd:∀σ vs H,Pv n σ vs H->∀p,H p=none->Q (.ref p) (upd H p (.lst vs))):CompW J g tt te Q σ0 H0:=by
 refine⟨fun i m σ vs H=>m=n-i/\i<=n/\Pv i σ vs H,⟨n,by simp,Nat.zero_le _,h0⟩,?_⟩
 rintro i m σ vs H ⟨rfl,hi,p⟩
 have hv:=hlen i σ vs H hi p
 by_cases hlt:i<n
 ·exact .inr ⟨hgo i σ vs H hlt p,by omega,Pv (i+1),fun σ2 vs2 H2 q=>⟨n - (i+1),by omega,rfl,hlt,q⟩,fun x H' y=>hs i σ vs H x H' hlt p y⟩
 ·have e:i=n:=by omega
  subst e
  exact .inl ⟨hst σ vs H p,by omega,hd σ vs H p⟩
theorem comp_range{lo:Int}{n:Nat}(Pv:Nat->St->List V->Hp->Prop)(h0:Pv 0 σ0 [] H0)(hlen:∀i σ vs H,i<=n->Pv i σ vs H->vs.length<=i)(hn:n<=sizeLine)
  (hs:∀i σ vs H,i<n->Pv i σ vs H->g (.int (lo+i)) σ H fun σ2 H2=>tt σ2 H2 fun ok H3=>if ok=true then te σ2 H3 fun v H4=>Pv (i+1) σ2 (vs++[v]) H4 else Pv (i+1) σ2 vs H3)
  (hd:∀σ vs H,Pv n σ vs H->∀p,H p=none->Q (.ref p) (upd H p (.lst vs))):CompW (Itr lo n) g tt te Q σ0 H0 :=
 comp_by n Pv h0 hlen hn (fun _ _ _ _ h _=>h) (fun _ _ _ _=>Nat.le_refl _) (fun i σ vs H x H' hi p y=>by obtain⟨rfl,rfl⟩:=y;exact hs i σ vs _ hi p) hd
end
abbrev ZipN(h:Heap)(z TI TO T:Addr)(flag:Bool):Prop :=
 h.get? z=some {cls:=.type "zip",dict:=none,data:=.fields #[rawInt T,.bool flag,.bool false,.ref TI,.ref TO],slots:=#[]}
section
variable {prog:Program}{w:World}{A:Around}{E:Value->Shared->Prop}{s:Shared}
theorem busy_free{z TI TO T:Addr}{flag:Bool}{oT:Obj}{Q:Bool->Shared->Prop}(hz:ZipN s.heap z TI TO T flag)(hT:s.heap.get? T=some oT)
  (hQ:∀h',ZipN h' z TI TO T true->Heap.SameBut z s.heap h'->Q false {s with heap:=h'}):wpAny (model prog w) A (Builtin.SmallTypes.ownedTupleIsFree (.ref z)) Q E s:=by
 unfold Builtin.SmallTypes.ownedTupleIsFree
 refine wpAny_bind (wpAny_field hz rfl (x:=rawInt T) rfl ?_)
 show wpAny _ _ (loadIfAlive ((T:Int).toNat)>>=_) _ _ _
 rw[Int.toNat_natCast]
 refine wpAny_bind (PySem.W.kdx_alive hT ?_)
 simp only[Option.isNone_some,Bool.false_eq_true,if_false]
 refine wpAny_bind (wpAny_field hz rfl (x:=.bool flag) rfl ?_)
 cases flag with
 |true =>
  rw[if_neg (show ¬((Value.bool true != Value.bool true)=true)from Bool.false_ne_true)]
  exact wpAny_pure (hQ s.heap hz (Heap.SameBut.refl _ _))
 |false =>
  rw[if_pos (show(Value.bool false != Value.bool true)=true from rfl)]
  exact wpAny_bind (wpAny_setField_rec hz (by simp) fun h' hz' hs'=>wpAny_pure (hQ h' hz' hs'))
end
theorem zip_no_len:typeLookup (.type "zip") "__len__"=pure none:=by rw[typeLookup_type,builtinLookup_eq_fast];kernel_rfl
theorem zip_no_hint:typeLookup (.type "zip") "__length_hint__"=pure none:=by rw[typeLookup_type,builtinLookup_eq_fast];kernel_rfl
structure ZTold(h:Heap) (lo:Nat) (xs ys:Array Value) (as:List Nat):Prop where
 rise:as.Pairwise (· < ·)
 low:∀a∈as,lo<=a
 pairs:∀(j:Nat) (a:Nat),as[j]?=some a->∃x y,xs[j]?=some x/\ys[j]?=some y/\IsPair h a x y
theorem ZTold.lt{h:Heap}{lo:Nat}{xs ys:Array Value}{as:List Nat}(g:ZTold h lo xs ys as){a:Nat}(ha:a∈as):a<h.objs.size:=by
 obtain⟨j,hj⟩:=List.mem_iff_getElem?.mp ha
 obtain⟨_,_,_,_,e⟩:=g.pairs j a hj
 exact Heap.lt_size e
theorem ZTold.keep{h h':Heap}{lo:Nat}{xs ys:Array Value}{as:List Nat}(g:ZTold h lo xs ys as)(k:∀c o,lo<=c->h.get? c=some o->h'.get? c=some o):ZTold h' lo xs ys as :=
 ⟨g.rise,g.low,fun j a e=>by
  obtain⟨x,y,e1,e2,e3⟩:=g.pairs j a e
  exact⟨x,y,e1,e2,k a _ (g.low a (List.mem_of_getElem? e)) e3⟩⟩
theorem ZTold.snoc{h h':Heap}{lo:Nat}{xs ys:Array Value}{as:List Nat}{n:Nat}{x y:Value}(g:ZTold h lo xs ys as)(k:∀c o,lo<=c->h.get? c=some o->h'.get? c=some o)(hn:lo<=n)(hn2:h.objs.size<=n)(hx:xs[as.length]?=some x)(hy:ys[as.length]?=some y)(hp:IsPair h' n x y) :
  ZTold h' lo xs ys (as++[n]):=by
 have g':=g.keep k
 refine⟨List.pairwise_append.mpr ⟨g.rise,List.pairwise_singleton _ _,fun a ha b hb=>?_⟩,fun a ha=>?_,fun j a e=>?_⟩
 ·rw[List.mem_singleton.mp hb];exact Nat.lt_of_lt_of_le (g.lt ha) hn2
 ·rcases List.mem_append.mp ha with h|h
  ·exact g.low a h
  ·rw[List.mem_singleton.mp h];exact hn
 ·rcases Nat.lt_trichotomy j as.length with hj|hj|hj
  ·rw[List.getElem?_append_left hj]at e;exact g'.pairs j a e
  ·subst hj
   rw[List.getElem?_append_right (Nat.le_refl _),Nat.sub_self]at e
   cases e
   exact⟨x,y,hx,hy,hp⟩
  ·rw[List.getElem?_eq_none (by rw[List.length_append,List.length_singleton];omega)]at e;cases e
section
variable {prog:Program}{w:World}{A:Around}{R:Result->Shared->Prop}{s:Shared}
end
section
variable {prog:Program}{w:World}{A:Around}{E:Value->Shared->Prop}{s:Shared}
end
section
variable {X:Cx}{pins:List (Addr×Obj)}{σ:St}{H H':Hp}{s:Shared}{h':Heap}
theorem Inv.grow{t':Nat}(I:Inv X pins σ H s)(k:∀b u,s.heap.get? b=some u->h'.get? b=some u)(hH:∀b,b<s.heap.objs.size->H' b=H b)
  (hnew:∀b o,s.heap.objs.size<=b->H' b=some o->ObjOk X.prog X.w H' h' b o):Inv X pins σ H' {s with heap:=h',toks:=t'}:=by
 have up:∀b o,H b=some o->H' b=some o:=fun b o e=>by rw[hH b (I.hok.lt e)];exact e
 refine I.un (h':=h') ⟨fun b o e _ _ _=>k b o e,fun b o e _ _ _=>⟨o.slots,k b o e⟩,fun b o e n _=>by rw[hH b (Heap.lt_size e)];exact n,fun b o e _=>⟨o,k b o e⟩,fun b xs e=>up b _ e,fun b o u e=>up b _ e,fun b ps e=>⟨#[],by rw[up b _ e];simp⟩⟩ fun b o e=>?_
 by_cases hb:b<s.heap.objs.size
 ·rw[hH b hb]at e
  exact(I.hok b o e).stay (fun c u _ q=>k c u q) (fun c q=>up c _ q) fun c xs q=>up c _ q
 ·exact hnew b o (Nat.not_lt.mp hb) e
end
def layT:List Nat->List V->List V->Hp->Hp
 |a::as,x::xs,y::ys,H=>upd (layT as xs ys H) a (.tup [x,y])
 |_,_,_,H=>H
theorem layT_out{H:Hp}{b:Nat}:∀(as:List Nat) (xs ys:List V),b∉as->layT as xs ys H b=H b
 | [],_,_,_=>by unfold layT;rfl
 |a::as,[],_,_=>by unfold layT;rfl
 |a::as,_::_,[],_=>by unfold layT;rfl
 |a::as,x::xs,y::ys,h=>by
  unfold layT
  rw[upd_ne (fun z=>h (by rw[z];exact List.mem_cons_self))]
  exact layT_out as xs ys fun z=>h (List.mem_cons_of_mem _ z)
theorem layT_in{H:Hp}:∀(as:List Nat) (xs ys:List V),as.Pairwise (· < ·)->∀(j:Nat) (u:Nat) (x y:V),as[j]?=some u->xs[j]?=some x->ys[j]?=some y->layT as xs ys H u=some (.tup [x,y])
 | [],_,_,_,j,u,x,y,h,_,_=>by simp at h
 |a::as,[],_,_,j,u,x,y,_,h,_=>by simp at h
 |a::as,_::_,[],_,j,u,x,y,_,_,h=>by simp at h
 |a::as,x0::xs,y0::ys,hp,0,u,x,y,h1,h2,h3=>by
  simp at h1 h2 h3
  subst h1 h2 h3
  unfold layT
  exact upd_same
 |a::as,x0::xs,y0::ys,hp,j+1,u,x,y,h1,h2,h3=>by
  simp at h1 h2 h3
  have hu:a<u:=(List.pairwise_cons.mp hp).1 u (List.mem_of_getElem? h1)
  unfold layT
  rw[upd_ne (Nat.ne_of_gt hu)]
  exact layT_in as xs ys (List.pairwise_cons.mp hp).2 j u x y h1 h2 h3
theorem layT_some{H:Hp}{b:Nat}{o:HO}:∀(as:List Nat) (xs ys:List V),layT as xs ys H b=some o->H b=some o\/∃(j:Nat) (x y:V),as[j]?=some b/\xs[j]?=some x/\ys[j]?=some y/\o=.tup [x,y]
 | [],_,_,h=>by unfold layT at h;exact .inl h
 |a::as,[],_,h=>by unfold layT at h;exact .inl h
 |a::as,_::_,[],h=>by unfold layT at h;exact .inl h
 |a::as,x::xs,y::ys,h=>by
  unfold layT at h
  by_cases hb:b=a
  ·subst hb
   rw[upd_same]at h
   cases h
   exact .inr ⟨0,x,y,rfl,rfl,rfl,rfl⟩
  ·rw[upd_ne hb]at h
   rcases layT_some as xs ys h with e|⟨j,x',y',e1,e2,e3,e4⟩
   ·exact .inl e
   ·exact .inr ⟨j+1,x',y',by simpa using e1,by simpa using e2,by simpa using e3,e4⟩
section
variable {X:Cx}{a b:Expr}{t:TA}{p1 p2 p3 p4:Pos}
theorem vals_refs:∀(as:List Nat),Vals (as.map V.ref) (as.map Value.ref)
 | []=>.nil
 |_::r=>.cons rfl (vals_refs r)
end
section
variable {X:Cx}{tg:Expr}
end
section
variable {X:Cx}
theorem strs_of:∀{ys:List Str}{us:List Value},Vals (ys.map V.str) us->StrsAre us ys
 | [],_,.nil=>.nil
 |_::_,_,.cons ⟨t,e⟩ r=>by subst e;exact .cons _ t (strs_of r)
def rJoin(K:PySem.W.Frag):V->List V->Hp->VK->Prop:=fun x vs H Q=>∃z p ys,x=.str z/\vs=[.ref p]/\SqL K H p (ys.map V.str)/\(ys.map (·.length)).sum+ys.length*z.length<=16777216/\Q (.str (Txt.join z ys)) H
theorem mt_join:MtR X "str.join" (rJoin X.K):=by
 intro pins s σ H x xs v us Q I rx rs h
 obtain⟨z,p,ys,rfl,rfl,hq,hb,q⟩:=h
 obtain⟨t,rfl⟩:=rx
 obtain⟨u,rfl,ru⟩:=vals1 rs
 cases ru
 obtain⟨its,rv,pl,hz⟩:=I.list hq
 exact join_list pl.isList (by simpa using strs_of rv) hb fun t' k=>⟨.str _,H,I.tok _,⟨_,rfl⟩,q⟩
theorem bools_of:∀{bs:List Bool}{us:List Value},Vals (bs.map V.bl) us->LSm.BoolsAre us bs
 | [],_,.nil=>.nil
 |_::_,_,.cons e r=>by cases e;exact .cons _ (bools_of r)
theorem call_all(hc:X.calm=true):CallR X (.builtin "all") (fun xs H Q=>∃(p:Addr) (bs:List Bool),xs=[.ref p]/\SqL X.K H p (bs.map V.bl)/\Q (.bl (bs.all id)) H):=by
 intro pins s σ H xs us Q I r h
 obtain⟨p,bs,rfl,hq,q⟩:=h
 obtain⟨u,rfl,ru⟩:=vals1 r
 cases ru
 obtain⟨its,rv,pl,hz⟩:=I.list hq
 have hb:=bools_of rv
 have hl:=pl.isList
 have hlt:p<s.heap.objs.size:=by obtain⟨_,e,_⟩:=hl;exact Heap.lt_size e
 refine call_all_walk (wpAny_pyIter_list hl ?_)
 refine⟨s.heap.objs.size,[s.heap.objs.size,p],[s.heap.objs.size],its.toArray.size,_,_,fun i=>(bs[i]?).getD true,rfl,Walks.list (A:=X.A.in1) (I.ok.hd hc) _ p (Nat.ne_of_lt hlt) its.toArray,
  ⟨⟨_,Heap.get?_push_size _ rfl,rfl,rfl⟩,hl.push _⟩,fun i v s' Q' E' hP hQ=>?_,fun h' tk hk=>?_⟩
 ·obtain⟨b,e,rfl⟩:=hb.get i v (by simpa using hP)
  simp only[e,Option.getD_some]at hQ
  exact wpAny_truthy_bool hQ
 ·have e:((List.range its.toArray.size).all fun i=>(bs[i]?).getD true)=bs.all id:=by
   rw[List.size_toArray,hb.length];exact LSm.range_all bs
  rw[e]
  exact⟨.bl _,H,I.kept (LSm.kept_iter hk),rfl,q⟩
def isB:V->String->Option Bool
 |.bl _,"bool"=>some true
 |.bl _,"int"=>some true
 |.int _,"int"=>some true
 |.int _,"bool"=>some false
 |_,_=>none
theorem call_isB:CallR X (.builtin "isinstance") (fun xs H Q=>∃x T r,xs=[x,.ty T]/\isB x T=some r/\Q (.bl r) H):=by
 intro pins s σ H xs us Q I r h
 obtain⟨x,T,b,rfl,e,q⟩:=h
 obtain⟨u,w',rfl,r1,r2⟩:=vals2 r
 obtain rfl:w'=Value.type T:=r2
 unfold isB at e
 split at e
 ·cases e;obtain rfl:u=Value.bool _:=r1;exact IsiPair.bool_bool ⟨.bl _,H,I,rfl,q⟩
 ·cases e;obtain rfl:u=Value.bool _:=r1;exact IsiPair.bool_int ⟨.bl _,H,I,rfl,q⟩
 ·cases e;obtain⟨t,rfl⟩:=r1;exact IsiPair.int_int ⟨.bl _,H,I,rfl,q⟩
 ·cases e;obtain⟨t,rfl⟩:=r1;exact IsiPair.int_bool ⟨.bl _,H,I.tok _,rfl,q⟩
 ·cases e
def rSlS:V->Option Int->Option Int->Hp->VK->Prop:=fun x lo hi H Q=>∃z,x=.str z/\z.length<=sizeLine/\Q (.str (Txt.slice z lo hi)) H
theorem part_of{v:Value}{o:Option Int}(h:IsPart v o):∃p:Option (Int×Tok),v=partValue p/\p.map (·.1)=o:=by
 cases h with
 |none=>exact⟨none,rfl,rfl⟩
 |int i t=>exact⟨some (i,t),rfl,rfl⟩
theorem sl_str:SlR X rSlS:=by
 intro pins s σ H x v vl vu lo hi sl Q I rx hs pl pu h
 obtain⟨z,rfl,hz,q⟩:=h
 obtain⟨t,rfl⟩:=rx
 obtain⟨p1,rfl,e1⟩:=part_of pl
 obtain⟨p2,rfl,e2⟩:=part_of pu
 refine⟨"str",_,PySem.F.slot_str_getitem.lookup,typeIs_str s z t,?_⟩
 refine wpAny_getItem_str_slice (l:=p1) (u:=p2) (st:=none) hs rfl ?_
 subst e1 e2
 cases p1<;>cases p2<;>exact post_val_or_str ⟨Nat.le_trans (Txt.slice_le z _ _) hz,fun t' k=>⟨.str _,H,I.tok _,⟨_,rfl⟩,q⟩⟩
end
section
variable {X:Cx}{e st:Expr}{lo hi:Option Expr}{te:TE}{tl th tk:TO}{p2 pos:Pos}
end
end L2
namespace L2
open PySem PySem.Spec PyProof.Rows PySem.SeqAt
section
variable {X:Cx}
end
mutual
def Rp(K:PySem.W.Frag)(H:Hp):T->V->Prop
 |.s x,v=>v=.str x
 |.i n,v=>v=.int n
 |.n,v=>v=.non
 |.t xs,v=>∃a vs,v=.ref a/\SqT K H a vs/\Rps K H xs vs
def Rps(K:PySem.W.Frag)(H:Hp):List T->List V->Prop
 | [],vs=>vs=[]
 |x::r,vs=>∃v q,vs=v::q/\Rp K H x v/\Rps K H r q
end
def Kt(H H':Hp):Prop:=∀a xs,Rd H a (.tup xs)->Rd H' a (.tup xs)
theorem Kt.refl{H:Hp}:Kt H H:=fun _ _ h=>h
theorem Kt.trans{H H1 H2:Hp}(a:Kt H H1)(b:Kt H1 H2):Kt H H2:=fun c xs h=>b c xs (a c xs h)
theorem Kt.same{H H':Hp}(s:Same H H'):Kt H H':=fun a xs h=>h.elim (fun e=>.inl (s _ _ e)) fun⟨o,e⟩=>.inr ⟨o,s _ _ e⟩
theorem Kt.new{H:Hp}{p:Addr}(h:H p=none)(o:HO):Kt H (upd H p o):=fun a xs r=>r.elim (fun e=>.inl (by rw[upd_ne (ne_of_none e h)];exact e)) fun⟨u,e⟩=>.inr ⟨u,by rw[upd_ne (ne_of_none e h)];exact e⟩
theorem Kt.upd{H:Hp}{l:Addr}{u:HO}(h:H l=some u)(h1:∀xs,u≠.tup xs)(h2:∀o xs,u≠.frz o (.tup xs))(o:HO):Kt H (upd H l o):=fun a xs r=>by
 rcases r with e|⟨p,e⟩
 ·exact .inl (by rw[upd_ne (ne_of e h fun z=>h1 _ z.symm)];exact e)
 ·exact .inr ⟨p,by rw[upd_ne (ne_of e h fun z=>h2 _ _ z.symm)];exact e⟩
theorem Kt.lst{H:Hp}{l:Addr}{xs:List V}(h:H l=some (.lst xs))(o:HO):Kt H (L2.upd H l o):=Kt.upd h (fun _ z=>nomatch z) (fun _ _ z=>nomatch z) o
section
variable {K:PySem.W.Frag}{H H':Hp}
theorem SqT.kt(k:Kt H H'){a:Addr}{xs:List V}(h:SqT K H a xs):SqT K H' a xs:=h.elim (fun e=>.inl (k _ _ e)) .inr
theorem Rps.all(f:∀{x v},Rp K H x v->Rp K H' x v):∀{xs:List T}{vs:List V},Rps K H xs vs->Rps K H' xs vs
 | [],vs,h=>by unfold Rps at h⊢;exact h
 |x::r,vs,h=>by
  unfold Rps at h⊢
  obtain⟨v,q,e,h1,h2⟩:=h
  exact⟨v,q,e,f h1,Rps.all f h2⟩
theorem Rps.nil:Rps K H [] []:=by unfold Rps;rfl
theorem Rps.cons{x:T}{v:V}{r:List T}{q:List V}(h:Rp K H x v)(t:Rps K H r q):Rps K H (x::r) (v::q):=by unfold Rps;exact⟨v,q,rfl,h,t⟩
theorem Rps.inv{x:T}{r:List T}{vs:List V}(h:Rps K H (x::r) vs):∃v q,vs=v::q/\Rp K H x v/\Rps K H r q:=by unfold Rps at h;exact h
theorem Rps.inv0{vs:List V}(h:Rps K H [] vs):vs=[]:=by unfold Rps at h;exact h
theorem Rp.s{x:Str}:Rp K H (.s x) (.str x):=by unfold Rp;rfl
theorem Rp.i{n:Int}:Rp K H (.i n) (.int n):=by unfold Rp;rfl
theorem Rp.non:Rp K H .n .non:=by unfold Rp;rfl
theorem Rp.t{xs:List T}{vs:List V}{a:Addr}(h:SqT K H a vs)(r:Rps K H xs vs):Rp K H (.t xs) (.ref a):=by unfold Rp;exact⟨a,vs,rfl,h,r⟩
theorem Rp.inv_s{x:Str}{v:V}(h:Rp K H (.s x) v):v=.str x:=by unfold Rp at h;exact h
theorem Rp.inv_i{n:Int}{v:V}(h:Rp K H (.i n) v):v=.int n:=by unfold Rp at h;exact h
theorem Rp.inv_t{xs:List T}{v:V}(h:Rp K H (.t xs) v):∃a vs,v=.ref a/\SqT K H a vs/\Rps K H xs vs:=by unfold Rp at h;exact h
theorem Rp.kt(k:Kt H H'){x:T}:∀{v:V},Rp K H x v->Rp K H' x v:=by
 induction x using T.induct with
 |hs x=>intro v h;rw[h.inv_s];exact .s
 |hi x=>intro v h;rw[h.inv_i];exact .i
 |hn=>intro v h;unfold Rp at h;rw[h];exact .non
 |ht xs ih =>
  intro v h
  obtain⟨a,vs,rfl,hs,hr⟩:=h.inv_t
  refine .t (hs.kt k) ?_
  clear hs h
  induction xs generalizing vs with
  |nil=>rw[hr.inv0];exact .nil
  |cons x r ih2 =>
   obtain⟨v,q,rfl,h1,h2⟩:=hr.inv
   exact .cons (ih x (.head _) h1) (ih2 (fun y hy=>ih y (.tail _ hy)) _ h2)
theorem Rps.kt(k:Kt H H'){xs:List T}{vs:List V}(h:Rps K H xs vs):Rps K H' xs vs:=Rps.all (fun h=>h.kt k) h
theorem Rps.length:∀{xs:List T}{vs:List V},Rps K H xs vs->vs.length=xs.length
 | [],vs,h=>by rw[h.inv0];rfl
 |x::r,vs,h=>by
  obtain⟨v,q,rfl,_,h2⟩:=h.inv
  rw[List.length_cons,List.length_cons,Rps.length h2]
theorem Rps.get:∀{xs:List T}{vs:List V}{i:Nat}{x:T},Rps K H xs vs->xs[i]?=some x->∃v,vs[i]?=some v/\Rp K H x v
 | [],vs,i,x,h,e=>by simp at e
 |x::r,vs,0,y,h,e=>by
  obtain⟨v,q,rfl,h1,_⟩:=h.inv
  simp at e;subst e
  exact⟨v,rfl,h1⟩
 |x::r,vs,i+1,y,h,e=>by
  obtain⟨v,q,rfl,_,h2⟩:=h.inv
  obtain⟨w,h3,h4⟩:=Rps.get (i:=i) h2 (by simpa using e)
  exact⟨w,by simpa using h3,h4⟩
theorem Rps.get':∀{xs:List T}{vs:List V}{i:Nat}{v:V},Rps K H xs vs->vs[i]?=some v->∃x,xs[i]?=some x/\Rp K H x v:=fun{xs vs i v} h e=>by
 have l:=h.length
 have hi:i<xs.length:=by
  rcases Nat.lt_or_ge i vs.length with z|z
  ·omega
  ·rw[List.getElem?_eq_none_iff.mpr z]at e;cases e
 obtain⟨w,h1,h2⟩:=h.get (List.getElem?_eq_getElem hi)
 rw[e]at h1;cases h1
 exact⟨_,List.getElem?_eq_getElem hi,h2⟩
theorem Rps.append:∀{xs ys:List T}{vs ws:List V},Rps K H xs vs->Rps K H ys ws->Rps K H (xs++ys) (vs++ws)
 | [],ys,vs,ws,h,g=>by rw[h.inv0];exact g
 |x::r,ys,vs,ws,h,g=>by
  obtain⟨v,q,rfl,h1,h2⟩:=h.inv
  exact .cons h1 (Rps.append h2 g)
theorem Rps.one{x:T}{v:V}(h:Rp K H x v):Rps K H [x] [v]:=.cons h .nil
theorem Rps.snoc{xs:List T}{vs:List V}{x:T}{v:V}(h:Rps K H xs vs)(g:Rp K H x v):Rps K H (xs++[x]) (vs++[v]):=h.append (.one g)
theorem Rps.take:∀{xs:List T}{vs:List V}(n:Nat),Rps K H xs vs->Rps K H (xs.take n) (vs.take n)
 |xs,vs,0,h=>.nil
 | [],vs,n+1,h=>by rw[h.inv0];exact .nil
 |x::r,vs,n+1,h=>by
  obtain⟨v,q,rfl,h1,h2⟩:=h.inv
  exact .cons h1 (Rps.take n h2)
theorem Rps.split:∀{xs ys:List T}{vs:List V},Rps K H (xs++ys) vs->∃ws us,vs=ws++us/\Rps K H xs ws/\Rps K H ys us
 | [],ys,vs,h=>⟨[],vs,rfl,.nil,h⟩
 |x::r,ys,vs,h=>by
  obtain⟨v,q,rfl,h1,h2⟩:=Rps.inv h
  obtain⟨ws,us,rfl,h3,h4⟩:=Rps.split h2
  exact⟨v::ws,us,rfl,.cons h1 h3,h4⟩
end
section
variable {X:Cx}{pins:List (Addr×Obj)}{σ:St}{H:Hp}{s:Shared}
theorem Rp.inj(I:Inv X pins σ H s)(a:T):∀(b:T) {v:V},Rp X.K H a v->Rp X.K H b v->a=b:=by
 induction a using T.induct with
 |hs x =>
  intro b v h g
  rw[h.inv_s]at g
  cases b with
  |s y=>have z:=g.inv_s;injection z with z;rw[z]
  |i y=>have z:=g.inv_i;cases z
  |n=>unfold Rp at g;cases g
  |t ys=>obtain⟨_,_,z,_⟩:=g.inv_t;cases z
 |hi x =>
  intro b v h g
  rw[h.inv_i]at g
  cases b with
  |s y=>have z:=g.inv_s;cases z
  |i y=>have z:=g.inv_i;injection z with z;rw[z]
  |n=>unfold Rp at g;cases g
  |t ys=>obtain⟨_,_,z,_⟩:=g.inv_t;cases z
 |hn =>
  intro b v h g
  unfold Rp at h
  rw[h]at g
  cases b with
  |s y=>have z:=g.inv_s;cases z
  |i y=>have z:=g.inv_i;cases z
  |n=>rfl
  |t ys=>obtain⟨_,_,z,_⟩:=g.inv_t;cases z
 |ht xs ih =>
  intro b v h g
  obtain⟨p,vs,rfl,hs,hr⟩:=h.inv_t
  cases b with
  |t ys =>
   obtain⟨p',ws,e,hs',hr'⟩:=g.inv_t
   cases e
   have e:=I.tuple_inj hs hs'
   subst e
   congr 1
   clear hs hs' h g
   induction xs generalizing ys vs with
   |nil =>
    have z:=hr.inv0
    subst z
    cases ys with
    |nil=>rfl
    |cons y q=>obtain⟨_,_,z,_⟩:=hr'.inv;cases z
   |cons x r ih2 =>
    obtain⟨v,q,rfl,h1,h2⟩:=hr.inv
    cases ys with
    |nil=>cases hr'.inv0
    |cons y q' =>
     obtain⟨v',q'',e,h1',h2'⟩:=hr'.inv
     cases e
     rw[ih x (.head _) y h1 h1',ih2 (fun z hz=>ih z (.tail _ hz)) _ h2 _ h2']
  |_=>unfold Rp at g;cases g
theorem isTuple_of{h:Heap}{a:Addr}{its:Array Value}(p:IsTup h a its):h.IsTuple a its:=p
theorem items_get{us:List V}{its:List Value}(r:Vals us its){j:Nat}{v:V}(e:us[j]?=some v){h:j<its.toArray.size}:RelV v its.toArray[j]:=by
 obtain⟨u,h1,h2⟩:=r.get e
 have z:its.toArray[j]=u:=by
  have q:its[j]?=some its.toArray[j]:=by
   rw[List.getElem?_eq_getElem (by simpa using h)]
   simp
  rw[h1]at q
  exact(Option.some.inj q).symm
 rw[z];exact h2
def EqsAt(s:Shared)(K:PySem.W.Frag)(H:Hp)(x:T):Prop:=∀(b:T) {u v:V}{u' v':Value}(A:Around),A.units+x.dep<cLine->Rp K H x u->Rp K H b v->RelV u u'->RelV v v'->EqAt A s u' v' (x.eqB b)
theorem eqs_items{xs ys:List T}{us ws:List V}{its its':List Value}{A:Around}(ih:∀x∈xs,EqsAt s X.K H x)(hu:A.units+T.deps xs<cLine)(hr:Rps X.K H xs us)(hr':Rps X.K H ys ws)(r:Vals us its)(r':Vals ws its')
  (j:Nat) (h1:j<its.toArray.size) (h2:j<its'.toArray.size):EqAt A s its.toArray[j] its'.toArray[j] (T.eqB (xs.getD j .n) (ys.getD j .n)):=by
 have l1:us.length=its.length:=r.length
 have l2:ws.length=its'.length:=r'.length
 have l3:=hr.length
 have l4:=hr'.length
 have h1':j<its.length:=by simpa using h1
 have h2':j<its'.length:=by simpa using h2
 have hx:j<xs.length:=by omega
 have hy:j<ys.length:=by omega
 obtain⟨v,hv,rv⟩:=hr.get (List.getElem?_eq_getElem hx)
 obtain⟨w,hw,rw'⟩:=hr'.get (List.getElem?_eq_getElem hy)
 have e1:xs.getD j .n=xs[j]:=by simp[hx]
 have e2:ys.getD j .n=ys[j]:=by simp[hy]
 rw[e1,e2]
 exact ih _ (List.getElem_mem hx) _ A (Nat.lt_of_le_of_lt (Nat.add_le_add_left (T.deps_mem (List.getElem_mem hx)) _) hu) rv rw' (items_get r hv) (items_get r' hw)
theorem rc_tuples(I:Inv X pins σ H s){xs ys:List T}{us ws:List V}{p q:Addr}{A:Around}(ih:∀x∈xs,EqsAt s X.K H x)(hu:A.units+1+T.deps xs<cLine)(hs:SqT X.K H p us)(hr:Rps X.K H xs us)(hs':SqT X.K H q ws)(hr':Rps X.K H ys ws) :
  RcAt A s (.ref p) (.ref q) (T.eqBs xs ys):=by
 obtain⟨its,r,it,_⟩:=I.tuple hs
 obtain⟨its',r',it',_⟩:=I.tuple hs'
 have z:=RcAt.tuples (A:=A) (isTuple_of it) (isTuple_of it') (by omega) (e:=fun j=>T.eqB (xs.getD j .n) (ys.getD j .n)) (eqs_items (A:=A.in1) ih (by show A.units+1+_<_;exact hu) hr hr' r r')
 have l1:us.length=its.length:=r.length
 have l2:ws.length=its'.length:=r'.length
 have l3:=hr.length
 have l4:=hr'.length
 rw[T.eqBs_range]
 have e1:its.toArray.size=xs.length:=by simp;omega
 have e2:its'.toArray.size=ys.length:=by simp;omega
 rw[e1,e2]at z
 exact z
theorem rcne_tuples(I:Inv X pins σ H s){xs ys:List T}{us ws:List V}{p q:Addr}{A:Around}(ih:∀x∈xs,EqsAt s X.K H x)(hu:A.units+1+T.deps xs<cLine)(hs:SqT X.K H p us)(hr:Rps X.K H xs us)(hs':SqT X.K H q ws)(hr':Rps X.K H ys ws) :
  RcNeAt A s (.ref p) (.ref q) (!T.eqBs xs ys):=by
 obtain⟨its,r,it,_⟩:=I.tuple hs
 obtain⟨its',r',it',_⟩:=I.tuple hs'
 have z:=RcNeAt.tuples (A:=A) (isTuple_of it) (isTuple_of it') (by omega) (e:=fun j=>T.eqB (xs.getD j .n) (ys.getD j .n)) (eqs_items (A:=A.in1) ih (by show A.units+1+_<_;exact hu) hr hr' r r')
 have l1:us.length=its.length:=r.length
 have l2:ws.length=its'.length:=r'.length
 have l3:=hr.length
 have l4:=hr'.length
 rw[T.eqBs_range]
 have e1:its.toArray.size=xs.length:=by simp;omega
 have e2:its'.toArray.size=ys.length:=by simp;omega
 rw[e1,e2]at z
 exact z
theorem eq_T(I:Inv X pins σ H s)(a:T):EqsAt s X.K H a:=by
 induction a using T.induct with
 |hs x =>
  intro b u v u' v' A hu h g ru rv
  rw[h.inv_s]at ru
  obtain⟨t,rfl⟩:=ru
  cases b with
  |s y=>rw[g.inv_s]at rv;obtain⟨t',rfl⟩:=rv;unfold T.eqB;exact EqAt.str_str _ _ _ _
  |i y=>rw[g.inv_i]at rv;obtain⟨t',rfl⟩:=rv;unfold T.eqB;exact EqAt.str_int _ _ _ _
  |n=>unfold Rp at g;rw[g]at rv;cases rv;unfold T.eqB;exact EqAt.str_none _ _
  |t ys =>
   obtain⟨q,ws,rfl,hs,hr⟩:=g.inv_t
   cases rv
   obtain⟨its,_,it,_⟩:=I.tuple hs
   unfold T.eqB
   exact EqAt.str_tuple _ _ (isTuple_of it) (by omega)
 |hi x =>
  intro b u v u' v' A hu h g ru rv
  rw[h.inv_i]at ru
  obtain⟨t,rfl⟩:=ru
  cases b with
  |s y=>rw[g.inv_s]at rv;obtain⟨t',rfl⟩:=rv;unfold T.eqB;exact EqAt.int_str _ _ _ _
  |i y=>rw[g.inv_i]at rv;obtain⟨t',rfl⟩:=rv;unfold T.eqB;exact EqAt.int_int _ _ _ _
  |n=>unfold Rp at g;rw[g]at rv;cases rv;unfold T.eqB;exact EqAt.int_none _ _
  |t ys =>
   obtain⟨q,ws,rfl,hs,hr⟩:=g.inv_t
   cases rv
   obtain⟨its,_,it,_⟩:=I.tuple hs
   unfold T.eqB
   exact EqAt.int_tuple _ _ (isTuple_of it) (by omega)
 |hn =>
  intro b u v u' v' A hu h g ru rv
  unfold Rp at h
  rw[h]at ru
  cases ru
  cases b with
  |s y=>rw[g.inv_s]at rv;obtain⟨t',rfl⟩:=rv;unfold T.eqB;exact EqAt.none_str _ _
  |i y=>rw[g.inv_i]at rv;obtain⟨t',rfl⟩:=rv;unfold T.eqB;exact EqAt.none_int _ _
  |n=>unfold Rp at g;rw[g]at rv;cases rv;unfold T.eqB;exact EqAt.same _
  |t ys =>
   obtain⟨q,ws,rfl,hs,hr⟩:=g.inv_t
   cases rv
   obtain⟨its,_,it,_⟩:=I.tuple hs
   unfold T.eqB
   exact EqAt.none_tuple (isTuple_of it) (by omega)
 |ht xs ih =>
  intro b u v u' v' A hu h g ru rv
  obtain⟨p,us,rfl,hs,hr⟩:=h.inv_t
  cases ru
  obtain⟨its,rits,it,_⟩:=I.tuple hs
  cases b with
  |s y=>rw[g.inv_s]at rv;obtain⟨t',rfl⟩:=rv;unfold T.eqB;exact EqAt.tuple_str _ _ (isTuple_of it) (by omega)
  |i y=>rw[g.inv_i]at rv;obtain⟨t',rfl⟩:=rv;unfold T.eqB;exact EqAt.tuple_int _ _ (isTuple_of it) (by omega)
  |n=>unfold Rp at g;rw[g]at rv;cases rv;unfold T.eqB;exact EqAt.tuple_none (isTuple_of it) (by omega)
  |t ys =>
   obtain⟨q,ws,rfl,hs',hr'⟩:=g.inv_t
   cases rv
   by_cases e:p=q
   ·subst e
    have z:=Rp.inj I _ _ h g
    rw[z,T.eqB_self]
    exact EqAt.same _
   ·unfold T.dep at hu
    unfold T.eqB
    exact EqAt.of_refs e (rc_tuples I ih (by omega) hs hr hs' hr')
theorem rc_T(I:Inv X pins σ H s)(a b:T){u v:V}{u' v':Value}(A:Around)(hu:A.units+a.dep<cLine)(h:Rp X.K H a u)(g:Rp X.K H b v)(ru:RelV u u')(rv:RelV v v'):RcAt A s u' v' (a.eqB b)/\RcNeAt A s u' v' (!a.eqB b):=by
 cases a with
 |s x =>
  rw[h.inv_s]at ru
  obtain⟨t,rfl⟩:=ru
  cases b with
  |s y=>rw[g.inv_s]at rv;obtain⟨t',rfl⟩:=rv;unfold T.eqB;exact⟨RcAt.str_str _ _ _ _,RcNeAt.str_str _ _ _ _⟩
  |i y=>rw[g.inv_i]at rv;obtain⟨t',rfl⟩:=rv;unfold T.eqB;exact⟨RcAt.str_int _ _ _ _,RcNeAt.str_int _ _ _ _⟩
  |n=>unfold Rp at g;rw[g]at rv;cases rv;unfold T.eqB;exact⟨RcAt.str_none _ _,RcNeAt.str_none _ _⟩
  |t ys =>
   obtain⟨q,ws,rfl,hs,hr⟩:=g.inv_t
   cases rv
   obtain⟨its,_,it,_⟩:=I.tuple hs
   unfold T.eqB
   exact⟨RcAt.str_tuple _ _ (isTuple_of it) (by omega),RcNeAt.str_tuple _ _ (isTuple_of it) (by omega)⟩
 |i x =>
  rw[h.inv_i]at ru
  obtain⟨t,rfl⟩:=ru
  cases b with
  |s y=>rw[g.inv_s]at rv;obtain⟨t',rfl⟩:=rv;unfold T.eqB;exact⟨RcAt.int_str _ _ _ _,RcNeAt.int_str _ _ _ _⟩
  |i y=>rw[g.inv_i]at rv;obtain⟨t',rfl⟩:=rv;unfold T.eqB;exact⟨RcAt.int_int _ _ _ _,RcNeAt.int_int _ _ _ _⟩
  |n=>unfold Rp at g;rw[g]at rv;cases rv;unfold T.eqB;exact⟨RcAt.int_none _ _,RcNeAt.int_none _ _⟩
  |t ys =>
   obtain⟨q,ws,rfl,hs,hr⟩:=g.inv_t
   cases rv
   obtain⟨its,_,it,_⟩:=I.tuple hs
   unfold T.eqB
   exact⟨RcAt.int_tuple _ _ (isTuple_of it) (by omega),RcNeAt.int_tuple _ _ (isTuple_of it) (by omega)⟩
 |n =>
  unfold Rp at h
  rw[h]at ru
  cases ru
  cases b with
  |s y=>rw[g.inv_s]at rv;obtain⟨t',rfl⟩:=rv;unfold T.eqB;exact⟨RcAt.none_str _ _,RcNeAt.none_str _ _⟩
  |i y=>rw[g.inv_i]at rv;obtain⟨t',rfl⟩:=rv;unfold T.eqB;exact⟨RcAt.none_int _ _,RcNeAt.none_int _ _⟩
  |n=>unfold Rp at g;rw[g]at rv;cases rv;unfold T.eqB;exact⟨RcAt.none_none,RcNeAt.none_none⟩
  |t ys =>
   obtain⟨q,ws,rfl,hs,hr⟩:=g.inv_t
   cases rv
   obtain⟨its,_,it,_⟩:=I.tuple hs
   unfold T.eqB
   exact⟨RcAt.none_tuple (isTuple_of it) (by omega),RcNeAt.none_tuple (isTuple_of it) (by omega)⟩
 |t xs =>
  obtain⟨p,us,rfl,hs,hr⟩:=h.inv_t
  cases ru
  obtain⟨its,rits,it,_⟩:=I.tuple hs
  cases b with
  |s y=>rw[g.inv_s]at rv;obtain⟨t',rfl⟩:=rv;unfold T.eqB;exact⟨RcAt.tuple_str _ _ (isTuple_of it) (by omega),RcNeAt.tuple_str _ _ (isTuple_of it) (by omega)⟩
  |i y=>rw[g.inv_i]at rv;obtain⟨t',rfl⟩:=rv;unfold T.eqB;exact⟨RcAt.tuple_int _ _ (isTuple_of it) (by omega),RcNeAt.tuple_int _ _ (isTuple_of it) (by omega)⟩
  |n=>unfold Rp at g;rw[g]at rv;cases rv;unfold T.eqB;exact⟨RcAt.tuple_none (isTuple_of it) (by omega),RcNeAt.tuple_none (isTuple_of it) (by omega)⟩
  |t ys =>
   obtain⟨q,ws,rfl,hs',hr'⟩:=g.inv_t
   cases rv
   unfold T.dep at hu
   unfold T.eqB
   exact⟨rc_tuples I (fun x _=>eq_T I x) (by omega) hs hr hs' hr',rcne_tuples I (fun x _=>eq_T I x) (by omega) hs hr hs' hr'⟩
def rEqT(K:PySem.W.Frag):R2:=fun x y H Q=>∃a b,Rp K H a x/\Rp K H b y/\a.dep<=150/\Q (.bl (decide (a=b))) H
theorem op_eqT(hu:X.A.units+150<cLine):OpR X (compareOp .Eq) (rEqT X.K):=by
 intro pins s σ H x y v u Q I rx ry h
 obtain⟨a,b,ha,hb,hd,q⟩:=h
 rw[←T.eqB_dec]at q
 exact(rc_T I a b X.A (by omega) ha hb rx ry).1 X.prog X.w X.xe _ ⟨.bl _,H,I,rfl,q⟩
theorem Room.u150{k:Nat}{A:Around}(r:Room k A):A.units+150<cLine:=by have:=r.un;omega
end
end L2
namespace L2
open PySem PySem.Spec PyProof.Rows
theorem ifT{b:Bool}{A B:Prop}(e:b=true)(h:A):if b=true then A else B:=by rw[if_pos e];exact h
section
variable {X:Cx}
theorem pg_tupK{pos:Pos}{es:List Expr}{k:Nat}{t:TGs}{n:Nat}(K:PySem.W.Frag)(hK:X.K=K)(hc:X.calm=true)(h:PGs X es t)(hn:(assignEach es X.env).length=n:=by rfl)(hst:(assignEach es X.env).findIdx? (·.1)=none:=by rfl):PG X (.Tuple es k pos) (gTup K n t):=by
 subst hK
 exact pg_tup hc h hn hst
theorem ix_tupK(K:PySem.W.Frag)(hK:X.K=K):IxR X (rIxT K):=by subst hK;exact ix_tup
theorem sl_listK(K:PySem.W.Frag)(hK:X.K=K):SlR X (rSlL K):=by subst hK;exact sl_list
def KDs(w:World):List DictEntry->List (Str×V)->Prop
 | [],kvs=>kvs=[]
 |e::r,kvs=>∃x v q,kvs=(x,v)::q/\(∃t,e.key=.str x t)/\e.hash=hashStr w x/\RelV v e.val/\KDs w r q
def KD(K:PySem.W.Frag)(w:World)(d:Addr)(kvs:List (Str×V)):Prop :=
 ∃(es:Array DictEntry) (n:Nat),K.lookup d=some {cls:=.type "dict",dict:=none,data:=.dict es n,slots:=#[]}/\KDs w es.toList kvs/\(kvs.map (·.1)).Nodup/\(d == sysModules)=false
theorem KDs.keys{w:World}{P:Program}:∀{es:List DictEntry}{kvs:List (Str×V)},KDs w es kvs->∃vs:List (Str×Value),Pairs (PySem.strKind P w) es vs/\(∀e∈es,∃k,(PySem.strKind P w).is k e.key=true/\e.hash=(PySem.strKind P w).hash k)/\vs.map (·.1)=kvs.map (·.1) /\
  ∀k,RelO (kvs.lookup k) (valueAt vs k)
 | [],kvs,h=>by
  obtain rfl:kvs=[]:=h
  exact⟨[],.nil,(fun _ h=>nomatch h),rfl,fun _=>trivial⟩
 |e::r,kvs,h=>by
  obtain⟨x,v,q,rfl,⟨t,hk⟩,hh,rv,hr⟩:=h
  obtain⟨vs,h1,h2,h3,h4⟩:=KDs.keys (P:=P) hr
  have ek:(PySem.strKind P w).is x e.key=true:=by rw[hk];exact(by simp[PySem.strKind,Value.isStrOf]:(PySem.strKind P w).is x (.str x t)=true)
  refine⟨(x,e.val)::vs,.cons ek rfl h1,fun e' he=>?_,by rw[List.map_cons,List.map_cons,h3],fun k=>?_⟩
  ·cases he with
   |head=>exact⟨x,ek,hh⟩
   |tail _ he=>exact h2 e' he
  ·rw[List.lookup_cons]
   by_cases c:k=x
   ·subst c
    rw[beq_self_eq_true]
    simp only[valueAt,List.find?_cons,decide_true,Option.map_some]
    exact rv
   ·rw[beq_false_of_ne c]
    have z:=h4 k
    have e1:valueAt ((x,e.val)::vs) k=valueAt vs k:=by
     simp only[valueAt,List.find?_cons]
     rw[decide_eq_false (fun q=>c q.symm)]
    rw[e1]
    exact z
theorem KD.dict{K:PySem.W.Frag}{P:Program}{w:World}{d:Addr}{kvs:List (Str×V)}(D:KD K w d kvs){h:Heap}(X:K.In h):∃vs,h.DictOf (PySem.strKind P w) d vs/\(d == sysModules)=false/\∀k,RelO (kvs.lookup k) (valueAt vs k):=by
 obtain⟨es,n,e,hs,nd,hd⟩:=D
 obtain⟨vs,h1,h2,h3,h4⟩:=KDs.keys (P:=P) hs
 exact⟨vs,⟨_,es,n,X _ _ e,⟨rfl,rfl,rfl⟩,rfl,fun e' he=>h2 e' (by simpa using he),h1,by rw[h3];exact nd⟩,hd,h4⟩
end
section
variable {g:TG}{tt:TT}{te:TE}{Q:VK}{σ0:St}{H0:Hp}
theorem comp_tup{K:PySem.W.Frag}{a:Addr}{xs:List V}(Pv:Nat->St->List V->Hp->Prop)(h0:Pv 0 σ0 [] H0)(hlen:∀i σ vs H,i<=xs.length->Pv i σ vs H->vs.length<=i)(hn:xs.length<=sizeLine)(hl:∀i σ vs H,i<=xs.length->Pv i σ vs H->SqT K H a xs)
  (hs:∀i x σ vs H,xs[i]?=some x->Pv i σ vs H->g x σ H fun σ2 H2=>tt σ2 H2 fun ok H3=>if ok=true then te σ2 H3 fun v H4=>Pv (i+1) σ2 (vs++[v]) H4 else Pv (i+1) σ2 vs H3)
  (hd:∀σ vs H,Pv xs.length σ vs H->∀p,H p=none->Q (.ref p) (upd H p (.lst vs))):CompW (Itt K a) g tt te Q σ0 H0:=by
 refine comp_by xs.length Pv h0 hlen hn (fun i σ vs H hi p=>⟨xs,xs[i],hl i σ vs H (Nat.le_of_lt hi) p,by simp[hi]⟩) (fun σ vs H p=>⟨xs,hl _ σ vs H (Nat.le_refl _) p,Nat.le_refl _⟩) (fun i σ vs H x H' hi p y=>?_) hd
 obtain⟨rfl,y⟩:=y
 exact hs i x σ vs _ (y xs (hl i σ vs _ (Nat.le_of_lt hi) p)) p
end
section
variable {X:Cx}{pins:List (Addr×Obj)}{σ:St}{H:Hp}{s:Shared}
end
theorem atS{z:Str}{r:Int}(h0:0<=r)(h:r<(z.length:Int)):∃c,atI z.cps.toList r=some c/\c∈z.cps.toList:=by
 have e:z.cps.toList.length=z.length:=by simp[Str.length]
 have hk:r.toNat<z.cps.toList.length:=by rw[e];omega
 have ek:r=((r.toNat:Nat):Int):=by omega
 have q:atI z.cps.toList ((r.toNat:Nat):Int)=some z.cps.toList[r.toNat]:=atI_nat (List.getElem?_eq_getElem hk)
 rw[←ek]at q
 exact⟨_,q,List.getElem_mem hk⟩
theorem join_cs(cs:List Nat):Txt.join "" (cs.map fun c=>(⟨#[c]⟩:Str))=⟨cs.toArray⟩:=by
 show Builtin.Str.glued (Str.ofString "") _=_
 rw[StrLaws.glued_eq_join]
 exact PyProof.Rows.join_ones cs
theorem sum_ones(l:List Nat):((l.map fun c=>(⟨#[c]⟩:Str)).map (·.length)).sum=l.length:=by
 induction l with
 |nil=>rfl
 |cons c r ih=>rw[List.map_cons,List.map_cons,List.sum_cons,ih,List.length_cons];show 1+_=_;omega
theorem len_cs(cs:List Nat):(⟨cs.toArray⟩:Str).length=cs.length:=by simp[Str.length]
end L2
namespace L2
open PySem
def FeedAt(H:Hp)(f:Addr):Prop:=∃p q:Int,H f=some (.lst [.int p,.int q])
def Ext(f:Addr)(H H':Hp):Prop:=(∀b o,b≠f->H b=some o->H' b=some o)/\FeedAt H' f
theorem Ext.refl{f:Addr}{H:Hp}(h:FeedAt H f):Ext f H H:=⟨fun _ _ _ e=>e,h⟩
theorem Ext.trans{f:Addr}{H H1 H2:Hp}(a:Ext f H H1)(b:Ext f H1 H2):Ext f H H2:=⟨fun c o n e=>b.1 c o n (a.1 c o n e),b.2⟩
theorem Ext.same{f:Addr}{H H1 H2:Hp}(a:Ext f H H1)(s:Same H1 H2):Ext f H H2:=⟨fun c o n e=>s c o (a.1 c o n e),let⟨p,q,e⟩:=a.2;⟨p,q,s f _ e⟩⟩
theorem same_new{H:Hp}{p:Addr}(h:H p=none)(o:HO):Same H (upd H p o):=fun b u q=>by rw[upd_ne (ne_of_none q h)];exact q
theorem FeedAt.same{f:Addr}{H H':Hp}(h:FeedAt H f)(s:Same H H'):FeedAt H' f:=let⟨p,q,e⟩:=h;⟨p,q,s f _ e⟩
theorem Ext.tup{f:Addr}{H H':Hp}(e:Ext f H H')(hf:FeedAt H f){a:Addr}{xs:List V}(h:H a=some (.tup xs)):H' a=some (.tup xs):=by
 refine e.1 a _ ?_ h
 obtain⟨p,q,hf⟩:=hf
 exact ne_of h hf (by intro z;cases z)
def spTake:Sp:=fun vs H Q _=>∃(f:Addr) (m:Int),vs=[.ref f,.int m]/\0<m/\m<1073741824/\FeedAt H f/\∀(r:Int) (H':Hp),0<=r->r<m->Ext f H H'->Q (.int r) H'
def spFeed(K:PySem.W.Frag):Sp:=fun vs H Q _=>∃(a:Addr) (ns:List Int) (k:Int),vs=[.ref a,.int k]/\SqL K H a (ns.map V.int)/\ns.length<=63/\0<=k/\k<=100 /\
 ∀(r:Addr) (H':Hp),Same H H'->H r=none->FeedAt H' r->Q (.ref r) H'
theorem small{n:Nat}(h:n<=1000):n<=sizeLine:=Nat.le_of_lt (small1000 h)
theorem atI_int{ns:List Int}{k:Int}(h0:0<=k)(h:k<(ns.length:Int)):∃v:Int,atI (ns.map V.int) k=some (.int v):=by
 have hk:k.toNat<ns.length:=by omega
 have ek:k=((k.toNat:Nat):Int):=by omega
 have q:atI (ns.map V.int) ((k.toNat:Nat):Int)=some (.int ns[k.toNat]):=atI_nat (by rw[List.getElem?_map,List.getElem?_eq_getElem hk]<;>rfl)
 rw[←ek]at q
 exact⟨_,q⟩
theorem atI_of{α:Type}{xs:List α}{k:Int}(h0:0<=k)(h:k<(xs.length:Int)):∃v:α,atI xs k=some v/\v∈xs:=by
 have hk:k.toNat<xs.length:=by omega
 have ek:k=((k.toNat:Nat):Int):=by omega
 have q:atI xs ((k.toNat:Nat):Int)=some xs[k.toNat]:=atI_nat (List.getElem?_eq_getElem hk)
 rw[←ek]at q
 exact⟨_,q,List.getElem_mem hk⟩
theorem Ext.kt{f:Addr}{H H':Hp}(e:Ext f H H')(hf:FeedAt H f):Kt H H':=fun a xs r=>by
 obtain⟨p,q,hf⟩:=hf
 rcases r with h|⟨o,h⟩
 ·exact .inl (e.1 a _ (ne_of h hf (by intro z;cases z)) h)
 ·exact .inr ⟨o,e.1 a _ (ne_of h hf (by intro z;cases z)) h⟩
theorem Ext.new{f:Addr}{H H':Hp}(e:Ext f H H'){p:Addr}(h:H' p=none)(o:HO):Ext f H (L2.upd H' p o):=e.same (same_new h o)
structure Has(P:Program) (w:World) (K:PySem.W.Frag) (mg:Str->Option Value) (base:Heap) (x:Str) (k:Nat) (ps:List Str) (sp:Sp) (f:Addr) (fd:FuncData):Prop where
 ok:FnOk P w K mg base CX0 k f fd ps sp
 at':mg x=some (.ref f)
 kp:PySem.W.keepIn K (.ref f)=true
 bd:Binds K fd ps []
theorem fn_none{P:Program}{w:World}{K:PySem.W.Frag}{mg:Str->Option Value}{base:Heap}{k:Nat}{f:Addr}{fd:FuncData}{ps:List Str}{sp:Sp}(h:∀vs H Q E,¬sp vs H Q E):FnOk P w K mg base CX0 k f fd ps sp :=
 ⟨fun vs H Q E z=>(h vs H Q E z).elim,fun _ _ _ _ _ _ _ _ _ _ _ _ _ z=>(h _ _ _ _ z).elim⟩
end L2
namespace L2
open PySem PySem.Spec PyProof.Rows
theorem SqT.same{K:PySem.W.Frag}{H H':Hp}(e:Same H H'){a:Addr}{xs:List V}(h:SqT K H a xs):SqT K H' a xs:=h.kt (Kt.same e)
theorem Rp.same{K:PySem.W.Frag}{H H':Hp}(e:Same H H'){x:T}{v:V}(h:Rp K H x v):Rp K H' x v:=h.kt (Kt.same e)
theorem Rps.same{K:PySem.W.Frag}{H H':Hp}(e:Same H H'){x:List T}{v:List V}(h:Rps K H x v):Rps K H' x v:=h.kt (Kt.same e)
theorem Rp.new{K:PySem.W.Frag}{H:Hp}{p:Addr}(hp:H p=none){xs:List T}{vs:List V}(h:Rps K H xs vs):Rp K (upd H p (.tup vs)) (.t xs) (.ref p):=.t (.of upd_same) (h.same (same_new hp _))
section
variable {K:PySem.W.Frag}{Q:VK}{H0:Hp}
end
section
variable {K:PySem.W.Frag}{Q:VK}{H0:Hp}
end
def visB(sc:Scope)(y:Str):Bool:=(sc.names.lookup y == some .local||sc.names.lookup y == some .cell||sc.names.lookup y == some .free)&&!(y == ("__debug__":Str))&&!(y == ("__classdict__":Str))
abbrev Nm(N:List Str)(sc:Scope):Prop:=N.all (visB sc)=true
def locB(sc:Scope)(y:Str):Bool:=sc.names.lookup y == some .local||sc.names.lookup y == some .cell
abbrev Lm(N:List Str)(sc:Scope):Prop:=N.all (locB sc)=true
theorem Nm.get{N:List Str}{sc:Scope}(h:Nm N sc){i:Nat}{x:Str}(e:N[i]?=some x):Vis sc x/\(x == ("__debug__":Str))=false/\(x == ("__classdict__":Str))=false:=by
 have z:=List.all_eq_true.mp h x (List.mem_of_getElem? e)
 unfold visB at z
 simp only[Bool.and_eq_true,Bool.or_eq_true,Bool.not_eq_true']at z
 obtain⟨⟨z1,z2⟩,z3⟩:=z
 refine⟨?_,z2,z3⟩
 rcases z1 with(z1|z1)|z1
 ·exact Or.inl (eq_of_beq z1)
 ·exact Or.inr (Or.inl (eq_of_beq z1))
 ·exact Or.inr (Or.inr (eq_of_beq z1))
theorem Lm.get{N:List Str}{sc:Scope}(h:Lm N sc){i:Nat}{x:Str}(e:N[i]?=some x):Loc sc x:=by
 have z:=List.all_eq_true.mp h x (List.mem_of_getElem? e)
 unfold locB at z
 simp only[Bool.or_eq_true]at z
 rcases z with z|z
 ·exact Or.inl (eq_of_beq z)
 ·exact Or.inr (eq_of_beq z)
section
variable {X:Cx}
theorem va{x:Str}{pos:Pos}(h:Nm X.N X.env.scope)(i:Nat)(hN:X.N[i]?=some x:=by rfl):PE X (.Name x pos) (tVar i):=pe_var hN (h.get hN).1 (h.get hN).2.1 (h.get hN).2.2
theorem sa{x:Str}{e:Expr}{te:TE}{pos pos':Pos}(hN:X.N.Nodup)(h:Lm X.N X.env.scope)(i:Nat)(he:PE X e te)(hi:X.N[i]?=some x:=by rfl)(hs:swapsWith e (some (.Name x pos')) pos.line X.env=pure false:=by kernel_rfl)
  (hf:X.fn x=true\/X.env.scope.names.lookup x=some .local:=by exact .inl rfl):PS X (.Assign [.Name x pos'] e pos) (tAsg te (gName i)):=ps_set hN hi (h.get hi) he hs hf
theorem ga{x:Str}{pos:Pos}(hN:X.N.Nodup)(h:Lm X.N X.env.scope)(i:Nat)(hi:X.N[i]?=some x:=by rfl)(hf:X.fn x=true\/X.env.scope.names.lookup x=some .local:=by first|exact .inl rfl|exact .inr (by kernel_rfl)):PG X (.Name x pos) (gName i):=pg_name hN hi (h.get hi) hf
end
section
variable {X:Cx}
theorem ps_comp{y:Str}{posn posa:Pos}{gg:TG}{elt iter tg:Expr}{ifs:List Expr}{scope:Scope}{pos:Pos}{wi:TI}{g:TG}{tt:TT}{te:TE}(own:List Str)(fr:List Nat)(hc:X.calm=true)
  (hkind:scope.kind=.function) (hcell:∀x∈scope.names,x.2≠.cell) (hnames:∀x∈scope.names,x.2=.local->scope.names.lookup x.1=some .local)
  (hfr:∀x∈scope.names,x.2=.free->X.env.scope.names.lookup x.1=some .cell\/X.env.scope.names.lookup x.1=some .free)
  (hin:∀j∈fr,scope.names.lookup (X.N.getD j Str.empty)=some .free)
  (hi:PI X tg iter wi) (hg:∀fp C s H,PG (cxComp X scope (own++fr.map fun j=>X.N.getD j Str.empty) fp C s H) tg g)
  (ht:∀fp C s H,PIfs (cxComp X scope (own++fr.map fun j=>X.N.getD j Str.empty) fp C s H) ifs tt)
  (he:∀fp C s H,PE (cxComp X scope (own++fr.map fun j=>X.N.getD j Str.empty) fp C s H) elt te)
  (hgg:PG X (.Name y posn) gg) (hsw:swapsWith (.ListComp elt [⟨tg,iter,ifs,0⟩] scope pos) (some (.Name y posn)) posa.line X.env=pure true)
  (hs:∀x,foldedSetIterable iter X.env x=pure x:=by intro _;rfl):PS X (.Assign [.Name y posn] (.ListComp elt [⟨tg,iter,ifs,0⟩] scope pos) posa) (tAsg (tComp own.length fr wi g tt te) gg):=by
 intro pins s σ H D0 I h
 rw[exec_Assign_Name_used _ _ _ _ hsw,arm_evalThenUse_ListComp]
 refine wpAny_bind (wpAny_standAt (wpAny_bind (wpAny_bind ?_)))
 have hfree:∀x∈scope.names,x.2=.free->∃c,X.env.cells.lookup x.1=some c:=fun x hx e=>I.ok.has x.1 (hfr x hx e)
 refine thn (wpAny_comprehension_free (use:=some (assign (.Name y posn) X.env)) (Q:=fun _ s'=>SP X pins D0 .next s') rfl hs (closureFor_eq hfree) hkind hnames ?_) fun _ _ q=>wpAny_pure (wpAny_pure q)
 refine thn (hi pins s σ H _ I h) fun v s1 h1=>thn h1 fun itv s2 h2=>?_
 obtain⟨it,fp,tn,J,H2,e,I2,T,st2,f2,W,⟨m0,w0⟩,turn⟩:=h2
 subst e
 have hfo:∀b∈fp,b<s2.heap.objs.size:=fun b hb=>by obtain⟨o,e,_⟩:=T.obj 0 _ st2 b hb;exact Heap.lt_size e
 refine wpAny_newObj_type (wpAny_newFunctionEnv hcell (by intro y hy;simp at hy) (fun h₁ hns₁ hsb₁=>?_) hkind)
 dsimp only at hns₁ hsb₁⊢
 generalize hH2:s2.heap.push {cls:=.type "list",dict:=none,data:=.seq ([]:List Value).toArray}=G2 at hns₁ hsb₁⊢
 have hC:G2.objs.size=s2.heap.objs.size+1:=by rw[←hH2,Heap.size_push]
 have hDC:s2.heap.objs.size≠G2.objs.size:=by rw[hC];exact Nat.ne_of_lt (Nat.lt_succ_self _)
 have hCle:s2.heap.objs.size<=G2.objs.size:=by rw[hC];exact Nat.le_succ _
 have old:∀b o,s2.heap.get? b=some o->h₁.get? b=some o:=fun b o e=>hsb₁.extBut b o (by rw[hC];exact Nat.ne_of_lt (Nat.lt_succ_of_lt (Heap.lt_size e))) (Heap.get?_push_of_some _ (hH2▸Heap.get?_push_of_some _ e))
 have hacc:h₁.PlainList s2.heap.objs.size #[]:=⟨_,hsb₁.extBut _ _ hDC (Heap.get?_push_of_some _ (hH2▸Heap.get?_push_size _ rfl))⟩
 have I3:Inv (cxComp X scope (own++fr.map fun j=>X.N.getD j Str.empty) fp G2.objs.size s2 H2) [] (innerSt own.length fr σ) H2 {s2 with heap:=h₁,toks:=s2.toks+([]:List (Str×Value)).length} :=
  comp_enter I2 hkind hcell hfr hin hCle f2 hfo old hns₁
 have st3:tn 0 h₁:=T.keep 0 _ _ st2 fun b _ o e=>old b o e
 have hDf:s2.heap.objs.size∉fp:=fun hm=>Nat.lt_irrefl _ (hfo _ hm)
 have hDn2:H2 s2.heap.objs.size=none:=I2.hok.fresh (Nat.le_refl _)
 have sub:∀y c,(cellsFor X.env scope.names []).lookup y=some c->X.env.cells.lookup y=some c:=cellsFor_sub _ _ hfree (by intro y c e;simp at e)
 have cellD:∀y c,(cellsFor X.env scope.names []).lookup y=some c->c≠s2.heap.objs.size:=fun y c e=>by
  obtain⟨_,o,ho,_⟩:=I2.cell y c (sub y c e)
  exact Nat.ne_of_lt (Heap.lt_size ho)
 have Dfs:s2.heap.objs.size∉frs X.stack:=fun z=>by
  rcases List.mem_cons.mp (I2.stkSub _ z)with e|e
  ·exact absurd I2.lt (by rw[←e];exact Nat.lt_irrefl _)
  ·exact I2.nofs (Nat.le_refl _) e
 -- the iterator's records,in the block's context
 have stat:∀{H':Hp}{pl:List (Addr×Obj)},(∀b∈fp,H' b=none)->(∀p∈pl,p.1=s2.heap.objs.size)->∀b∈fp,FpOk (cxComp X scope (own++fr.map fun j=>X.N.getD j Str.empty) fp G2.objs.size s2 H2) pl H' b:=fun{H' pl} hn hp b hb=>by
  refine⟨hn b hb,(I3.ok.exf b hb).1,I3.ok.exfs b hb,.inl hb,(I3.ok.exf b hb).2,fun p hpp z=>?_⟩
  have hpp':p∈pl:=by simpa[cxComp]using hpp
  exact hDf (by rw[←hp p hpp',z];exact hb)
 have pinD:∀{σ':St}{H':Hp}{s':Shared}{ys:Array Value}{n:Nat},Inv (cxComp X scope (own++fr.map fun j=>X.N.getD j Str.empty) fp G2.objs.size s2 H2) [] σ' H' s'->H' s2.heap.objs.size=none->s'.heap.get? s2.heap.objs.size=some {cls:=.type "list",data:=.seq ys n} ->
   Inv (cxComp X scope (own++fr.map fun j=>X.N.getD j Str.empty) fp G2.objs.size s2 H2) [(s2.heap.objs.size,{cls:=.type "list",data:=.seq ys n})] σ' H' s':=fun{σ' H' s' ys n} J hn e=>J.pins_of fun p hp=>by
  have e':p=(s2.heap.objs.size,{cls:=.type "list",data:=.seq ys n}):=by simpa using hp
  subst e'
  exact⟨e,hn,hDC,Dfs,fun v z=>nomatch z⟩
 have loop:codeAny (model X.prog X.w) X.A (.compLoop (.ListComp elt [⟨tg,iter,ifs,0⟩] scope pos) 0 (.ref it) (.ref s2.heap.objs.size) (compEnvC scope (cellsFor X.env scope.names []) G2.objs.size X.env))
   (compPost (model X.prog X.w) X.A X.xe (some (assign (.Name y posn) X.env)) (fun _ s'=>SP X pins D0 .next s') (.ref s2.heap.objs.size) G2.objs.size) {s2 with heap:=h₁,toks:=s2.toks+([]:List (Str×Value)).length}:=by
  refine codeAny_compLoop_any (E:=fun _ _=>False) (fun n s'=>∃i σ' H' vs ys,Inv (cxComp X scope (own++fr.map fun j=>X.N.getD j Str.empty) fp G2.objs.size s2 H2) [] σ' H' s'/\tn i s'.heap/\(∀b∈fp,H' b=none)/\H' s2.heap.objs.size=none/\s'.heap.PlainList s2.heap.objs.size ys/\Vals vs ys.toList/\W i n σ' vs H')
   ?_ (fun _ _ z=>z.elim) m0 ⟨0,_,H2,[],#[],I3,st3,fun b hb=>(f2 b hb).1,hDn2,hacc,.nil,w0⟩
  rintro n s3 ⟨i,σ3,H3,vs,ys,J3,st3,fr3,dn3,⟨pn,pl3⟩,rv,w3⟩
  have J3':=pinD J3 dn3 pl3
  have hpins:∀p∈[(s2.heap.objs.size,({cls:=.type "list",data:=.seq ys pn}:Obj))],p.1=s2.heap.objs.size:=fun p hp=>by
   have e':p=(s2.heap.objs.size,{cls:=.type "list",data:=.seq ys pn}):=by simpa using hp
   rw[e']
  rcases turn i n σ3 vs H3 w3 with⟨stop,hz,q⟩|⟨go,hz,N,hN,step⟩
  ·refine thn (T.done (cxComp X scope (own++fr.map fun j=>X.N.getD j Str.empty) fp G2.objs.size s2 H2) rfl rfl rfl hc i _ s3 σ3 H3 (fun _ _=>False) J3' (stat fr3 hpins) st3 stop) fun r s4 ⟨hr,J4⟩=>?_
   subst hr
   obtain⟨m4,hn4,_⟩:=id J4.loc
   have e4:s4.heap.get? s2.heap.objs.size=some {cls:=.type "list",data:=.seq ys pn}:=(J4.pin (s2.heap.objs.size,{cls:=.type "list",data:=.seq ys pn}) (List.mem_append_right _ (by simp))).1
   obtain⟨oC,es,ep,eC,dC,kC,fC⟩:=hn4
   have I4:Inv X pins σ (upd H3 s2.heap.objs.size (.lst vs)) s4:=comp_leave (h'':=s4.heap) I2 f2 J4 hCle (Nat.le_refl _) hDC dn3 ⟨pn,e4⟩ rv hz ⟨rfl,fun _ _=>rfl⟩
   have cL:G2.objs.size≠X.env.locals:=fun z=>absurd I2.lt (by rw[←z];exact Nat.not_lt.mpr hCle)
   have I5:Inv X (pins++[(G2.objs.size,oC)]) σ (upd H3 s2.heap.objs.size (.lst vs)) s4:=I4.pins_of fun p hp=>by
    rcases List.mem_append.mp hp with z|z
    ·exact I4.pin p (List.mem_append_right _ z)
    ·have z:p=(G2.objs.size,oC):=by simpa using z
     subst z
     exact⟨eC,by rw[upd_ne hDC.symm];exact J4.free,cL,I2.nofs hCle,fun v zv=>by rw[dC]at zv;cases zv⟩
   show wpAny _ _ (assign (.Name y posn) X.env (.ref s2.heap.objs.size)) _ _ _
   refine thn (hgg _ s4 σ _ (.ref s2.heap.objs.size) _ _ I5 rfl (q _ dn3)) fun _ s5 ⟨σ5,H5,I6,q6⟩=>?_
   have pC:=I6.pin (G2.objs.size,oC) (List.mem_append_right _ (List.mem_append_right _ (by simp)))
   refine⟨m4,⟨oC,es,ep,pC.1,dC,kC,fC⟩,fun h' hs'=>?_⟩
   have I7:Inv X pins σ5 H5 s5:=I6.pins_of fun p hp=>I6.pin p (List.mem_append_right _ (List.mem_append_left _ hp))
   refine⟨σ5,H5,I7.turned (t':=s5.toks) (it:=G2.objs.size) (fun b o hb e=>(hs'.2 b hb).trans e) pC.2.1 cL (.inr (Nat.le_trans I2.sz hCle)) (fun x c e z=>?_) (fun p hp z=>?_),q6⟩
   ·obtain⟨_,o,ho,_⟩:=I2.cell x c e
    exact absurd (Heap.lt_size ho) (by rw[z];exact Nat.not_lt.mpr hCle)
   ·exact absurd (Heap.lt_size (I2.pin p hp).1) (by rw[z];exact Nat.not_lt.mpr hCle)
  ·refine thn (T.item (cxComp X scope (own++fr.map fun j=>X.N.getD j Str.empty) fp G2.objs.size s2 H2) rfl rfl rfl hc i _ s3 σ3 H3 (fun _ _=>False) J3' (stat fr3 hpins) st3 go) fun r s4 ⟨u,hr,h4⟩=>?_
   subst hr
   refine thn h4 fun _ s5 ⟨x,H5,J5,r5,y5,st5,fr5⟩=>?_
   have J5':=J5.pinned (stat fr5 hpins) (T.obj _ _ st5)
   refine thn (hg fp _ s2 H2 _ s5 σ3 H5 x u _ J5' r5 (step x H5 y5)) fun _ s6 ⟨σ6,H6,J6,q6⟩=>?_
   refine thn (ht fp _ s2 H2 _ s6 σ6 H6 _ J6 q6) fun ok s7 ⟨H7,J7,q7⟩=>?_
   -- what stood pinned through the turn
   have after:∀{s8:Shared}{H8:Hp},Inv (cxComp X scope (own++fr.map fun j=>X.N.getD j Str.empty) fp G2.objs.size s2 H2) ([(s2.heap.objs.size,({cls:=.type "list",data:=.seq ys pn}:Obj))]++pinsAt fp s5.heap) σ6 H8 s8 ->
     tn (i+1) s8.heap/\(∀b∈fp,H8 b=none)/\H8 s2.heap.objs.size=none/\s8.heap.get? s2.heap.objs.size=some {cls:=.type "list",data:=.seq ys pn}:=fun{s8 H8} J8=>by
    refine⟨T.keep _ _ _ st5 fun b hb o e=>(J8.pin (b,o) (List.mem_append_right _ (List.mem_append_right _ (mem_pinsAt hb e)))).1,fun b hb=>?_,?_,?_⟩
    ·obtain⟨o,e,d⟩:=T.obj _ _ st5 b hb
     exact(J8.pin (b,o) (List.mem_append_right _ (List.mem_append_right _ (mem_pinsAt hb e)))).2.1
    ·exact(J8.pin (s2.heap.objs.size,{cls:=.type "list",data:=.seq ys pn}) (List.mem_append_right _ (List.mem_append_left _ (by simp)))).2.1
    ·exact(J8.pin (s2.heap.objs.size,{cls:=.type "list",data:=.seq ys pn}) (List.mem_append_right _ (List.mem_append_left _ (by simp)))).1
   cases ok with
   |false =>
    obtain⟨m',hm,w7⟩:=hN _ _ _ q7
    obtain⟨a1,a2,a3,a4⟩:=after J7
    exact⟨m',hm,i+1,σ6,H7,vs,ys,J7.pins_of (fun p hp=>absurd hp (by simp)),a1,a2,a3,⟨pn,a4⟩,rv,w7⟩
   |true =>
    refine thn (he fp _ s2 H2 _ s7 σ6 H7 _ J7 q7) fun y s8 ⟨v8,H8,J8,r8,n8⟩=>?_
    obtain⟨m',hm,w8⟩:=hN _ _ _ n8
    obtain⟨a1,a2,a3,a4⟩:=after J8
    have J9:Inv (cxComp X scope (own++fr.map fun j=>X.N.getD j Str.empty) fp G2.objs.size s2 H2) [] σ6 H8 s8:=J8.pins_of (fun p hp=>absurd hp (by simp))
    have hys:ys.size<=sizeLine:=by
     have e1:vs.length=ys.toList.length:=rv.length
     have e2:ys.toList.length=ys.size:=by simp
     omega
    refine wpAny_list_append_plain (hsz:=hys) ⟨pn,a4⟩ fun h₅ hl₅ hs₅=>?_
    refine⟨m',hm,i+1,σ6,H8,vs++[v8],ys.push y,J9.turned (t':=s8.toks) (it:=s2.heap.objs.size) (fun b o hb e=>by rw[hs₅.2 b hb];exact e) a3 hDC (.inr (Nat.le_refl _)) cellD (fun p hp=>absurd (show p∈([]:List (Addr×Obj))from hp) (by simp)),
     T.keep _ _ _ a1 fun b hb o e=>(hs₅.2 b (fun z=>hDf (z▸hb))).trans e,a2,a3,hl₅,?_,w8⟩
    have:Vals (vs++[v8]) (ys.toList++[y]):=rv.append (.cons r8 .nil)
    simpa using this
 exact codeAny_compStart_list loop (T.self X.A 0 _ _ _ st3 loop)
end
theorem ps_compC{X:Cx}{y:Str}{posn posa:Pos}{gg:TG}{elt iter tg:Expr}{ifs:List Expr}{scope:Scope}{pos:Pos}{wi:TI}{g:TG}{tt:TT}{te:TE}(sc:Scope)(N0 own:List Str)(fr:List Nat)(hc:X.calm=true)(hsc:X.env.scope=sc)(hN:X.N=N0)
  (ok:compOk scope sc N0 fr=true) (hi:PI X tg iter wi) (hg:∀fp C s H,PG (cxComp X scope (own++fr.map fun j=>N0.getD j Str.empty) fp C s H) tg g)
  (ht:∀fp C s H,PIfs (cxComp X scope (own++fr.map fun j=>N0.getD j Str.empty) fp C s H) ifs tt)
  (he:∀fp C s H,PE (cxComp X scope (own++fr.map fun j=>N0.getD j Str.empty) fp C s H) elt te)
  (hgg:PG X (.Name y posn) gg) (hsw:swapsWith (.ListComp elt [⟨tg,iter,ifs,0⟩] scope pos) (some (.Name y posn)) posa.line X.env=pure true:=by kernel_rfl)
  (hs:∀x,foldedSetIterable iter X.env x=pure x:=by intro _;rfl):PS X (.Assign [.Name y posn] (.ListComp elt [⟨tg,iter,ifs,0⟩] scope pos) posa) (tAsg (tComp own.length fr wi g tt te) gg):=by
 subst hsc hN
 unfold compOk at ok
 simp only[Bool.and_eq_true,List.all_eq_true,bne_iff_ne,beq_iff_eq,Bool.or_eq_true]at ok
 obtain⟨⟨k1,k2⟩,k3⟩:=ok
 refine ps_comp own fr hc k1 (fun x hx=>(k2 x hx).1.1) (fun x hx e=>?_) (fun x hx e=>?_) (fun j hj=>k3 j hj) hi hg ht he hgg hsw hs
 ·rcases(k2 x hx).1.2 with z|z
  ·exact absurd e z
  ·exact z
 ·rcases(k2 x hx).2 with(z|z)|z
  ·exact absurd e z
  ·exact .inl z
  ·exact .inr z
end L2
namespace G24
open PySem L2
def top(i:Nat):Stmt:=PySem.Challenge.pw_gapwork_k24_things_of_kinds.main.body.getD i (.Pass ⟨0,0,0,0⟩)
abbrev s_tags_of:Stmt:=top 1
abbrev s_is_of:Stmt:=top 3
abbrev s_L_feed:Stmt:=top 5
abbrev s_L_take:Stmt:=top 6
abbrev s_L_names:Stmt:=top 7
abbrev s_L_any_kind:Stmt:=top 8
abbrev s_L_kinds:Stmt:=top 9
abbrev s_L_thing:Stmt:=top 10
abbrev s_L_places:Stmt:=top 11
abbrev s_L_changed:Stmt:=top 12
abbrev s_L_spoilt:Stmt:=top 13
abbrev s_L_due:Stmt:=top 14
abbrev s_law:Stmt:=top 15
section
variable {P:Program}{w:World}{K:PySem.W.Frag}{mg:Str->Option Value}{base:Heap}
theorem scTake:FnScope ["_law_feed_here","_law_many","_law_digit","_law_one"] ["_law_feed_here","_law_many"] (defScope s_L_take):=⟨rfl,rfl,rfl,by decide +kernel,rfl,by decide +kernel,by decide +kernel⟩
theorem ok_take{f:Addr}{fd:FuncData}(F:Fun K "_law_take" "_law_take" s_L_take f fd):FnOk P w K mg base CX0 1 f fd ["_law_feed_here","_law_many"] spTake:=by
 refine F.ok scTake (fun vs H Q E h=>?_) (fun cdv A outer s H vs Q E hr h=>?_)
 ·obtain⟨a,m,rfl,_⟩:=h
  rfl
 obtain⟨a,m,rfl,m0,m1,⟨p,q,hf⟩,k⟩:=h
 refine⟨_,pss_cons (ps_if (pt_cmpR op_gt (pe_ix ix_list (pv 0) pe_int (fun _ _=>rfl)) pe_int (nomark _))
   (pss_cons (ps_set (i:=2) scTake.nd rfl (Or.inl rfl) (pe_op op_mod (pe_ix ix_list (pv 0) pe_int (fun _ _=>rfl)) (pv 1)))
   (pss_cons (ps_asg (pe_op op_fdiv (pe_ix ix_list (pv 0) pe_int (fun _ _=>rfl)) (pv 1)) (pg_sub (pv 0) pe_int set_list))
   (pss_one (ps_ret (pv 2))))) pss_nil)
  (pss_cons (ps_set (i:=3) scTake.nd rfl (Or.inl rfl) (pe_op op_mod (pe_op op_mul (pe_ix ix_list (pv 0) pe_int (fun _ _=>rfl)) pe_int) pe_int))
  (pss_cons (ps_asg (pe_op op_add (pe_op op_mod (pe_op op_add (pe_op op_mul (pv 3) pe_int) pe_int) pe_int) pe_int) (pg_sub (pv 0) pe_int set_list))
  (pss_one (ps_ret (pe_op op_mod (pe_op op_fdiv (pe_op op_add (pe_op op_mul (pv 3) pe_int) (pe_ix ix_list (pv 0) pe_int (fun _ _=>rfl))) pe_int) (pv 1)))))),?_⟩
 have ext:∀p' q':Int,Ext a H (upd H a (.lst [.int p',.int q'])):=fun p' q'=>⟨fun b o n e=>by rw[upd_ne n];exact e,p',q',upd_same⟩
 refine⟨_,rfl,a,_,0,_,rfl,rfl,SqL.of hf,rfl,_,_,rfl,rfl,_,rfl,?_⟩
 refine ite2 (fun _=>?_) (fun _=>?_)
 ·refine⟨_,rfl,a,_,0,_,rfl,rfl,SqL.of hf,rfl,_,rfl,_,_,rfl,rfl,m0,?_⟩
  refine⟨_,rfl,a,_,0,_,rfl,rfl,SqL.of hf,rfl,_,rfl,_,_,rfl,rfl,⟨m0,m1⟩,?_⟩
  refine⟨_,rfl,a,_,0,0,rfl,rfl,hf,rfl,?_⟩
  refine⟨_,rfl,?_⟩
  exact k _ _ (Int.emod_nonneg _ (by omega)) (Int.emod_lt_of_pos _ m0) (ext _ _)
 ·refine⟨_,rfl,a,_,1,_,rfl,rfl,SqL.of hf,rfl,_,_,rfl,rfl,.inr ⟨by decide,by decide⟩,_,_,rfl,rfl,(by show(0:Int)<2147483647;decide),?_⟩
  refine⟨_,rfl,_,_,rfl,rfl,.inr ⟨by decide,by decide⟩,_,_,rfl,rfl,_,_,rfl,rfl,(by show(0:Int)<2147483399;decide),_,_,rfl,rfl,?_⟩
  refine⟨_,rfl,a,_,1,1,rfl,rfl,hf,rfl,?_⟩
  refine⟨_,rfl,_,_,rfl,rfl,.inr ⟨by decide,by decide⟩,_,rfl,a,_,1,_,rfl,rfl,SqL.of upd_same,rfl,_,_,rfl,rfl,_,_,rfl,rfl,⟨by decide,by decide⟩,_,rfl,_,_,rfl,rfl,m0,?_⟩
  exact k _ _ (Int.emod_nonneg _ (by omega)) (Int.emod_lt_of_pos _ m0) (ext _ _)
end
section
variable {P:Program}{w:World}{K:PySem.W.Frag}{mg:Str->Option Value}{base:Heap}
theorem scFeed:FnScope ["_law_script","_law_k","_law_cell","_law_own"] ["_law_script","_law_k"] (defScope s_L_feed):=⟨rfl,rfl,rfl,by decide +kernel,rfl,by decide +kernel,by decide +kernel⟩
theorem ok_feed{f:Addr}{fd:FuncData}(F:Fun K "_law_feed" "_law_feed" s_L_feed f fd)(ml:mg "len"=none):FnOk P w K mg base CX0 1 f fd ["_law_script","_law_k"] (spFeed K):=by
 refine F.ok scFeed (fun vs H Q E h=>?_) (fun cdv A outer s H vs Q E hr h=>?_)
 ·obtain⟨a,ns,m,rfl,_⟩:=h
  rfl
 obtain⟨a,ns,k,rfl,hS,hn,k0,k1,kk⟩:=h
 refine⟨_,pss_cons (ps_set (i:=2) scFeed.nd rfl (Or.inl rfl) (pe_op op_add (pe_op op_mul pe_int (pv 1)) pe_int))
  (pss_cons (ps_if (pt_cmpR op_lt (pv 1) (pe_callB call_len_seq (by rfl) ml PySem.boot_len (pa_cons (pv 0) pa_nil)) (nomark _))
   (pss_one (ps_set (i:=2) scFeed.nd rfl (Or.inl rfl) (pe_ix ix_list (pv 0) (pv 1) (fun _ _=>rfl))))
   (pss_one (ps_if (pt_cmpR op_gt (pe_callB call_len_seq (by rfl) ml PySem.boot_len (pa_cons (pv 0) pa_nil)) pe_int (nomark _))
    (pss_one (ps_set (i:=2) scFeed.nd rfl (Or.inl rfl) (pe_op op_add (pe_op op_mul (pe_op op_mod (pe_ix ix_list (pv 0) (pe_op op_mod (pv 1) (pe_callB call_len_seq (by rfl) ml PySem.boot_len (pa_cons (pv 0) pa_nil))) (fun _ _=>rfl)) pe_int) pe_int) (pe_op op_mul pe_int (pv 1)))))
    pss_nil)))
  (pss_cons (ps_set (i:=3) scFeed.nd rfl (Or.inl rfl) pe_int)
  (pss_cons (ps_if (pt_cmpR op_ge (pv 2) (pe_op op_pow pe_int pe_int) (nomark _)) (pss_one (ps_set (i:=3) scFeed.nd rfl (Or.inl rfl) (pv 2))) pss_nil)
  (pss_one (ps_ret (pe_lst (pa_cons (pv 3) (pa_cons (pe_op op_add (pe_op op_mod (pe_op op_add (pe_op op_mul (pe_op op_mod (pv 2) pe_int) pe_int) (pe_op op_mul pe_int (pv 1))) pe_int) pe_int) pa_nil)))))))),?_⟩
 have hl:(ns.map V.int).length=ns.length:=List.length_map _
 refine⟨_,rfl,_,_,rfl,rfl,.inl ⟨by decide,by decide⟩,_,_,rfl,rfl,?_⟩
 refine⟨_,rfl,_,rfl,a,_,rfl,.inl hS,_,_,rfl,rfl,_,rfl,?_⟩
 refine ite2 (fun c=>?_) (fun c=>?_)
 ·have c':k<((ns.map V.int).length:Int):=of_decide_eq_true c
  rw[hl]at c'
  obtain⟨v,hv⟩:=atI_int (ns:=ns) k0 c'
  refine⟨_,rfl,_,rfl,a,_,_,_,rfl,rfl,hS,hv,?_⟩
  refine⟨_,rfl,_,_,rfl,rfl,⟨by decide,by decide,by decide⟩,_,_,rfl,rfl,_,rfl,ite2 (fun _=>?_) (fun _=>?_)⟩
  ·refine⟨_,rfl,_,rfl,_,rfl,_,_,rfl,rfl,(by show(0:Int)<2147483629;decide),_,_,rfl,rfl,.inr ⟨by decide,by decide⟩,_,rfl,_,_,rfl,rfl,.inl ⟨by decide,by decide⟩,_,_,rfl,rfl,_,_,rfl,rfl,(by show(0:Int)<2147483629;decide),_,_,rfl,rfl,(by show 2<=sizeLine;decide),fun l hl=>?_⟩
   exact kk l _ (same_new hl _) hl ⟨_,_,upd_same⟩
  ·refine⟨_,rfl,_,rfl,_,_,rfl,rfl,(by show(0:Int)<2147483629;decide),_,_,rfl,rfl,.inr ⟨by decide,by decide⟩,_,rfl,_,_,rfl,rfl,.inl ⟨by decide,by decide⟩,_,_,rfl,rfl,_,_,rfl,rfl,(by show(0:Int)<2147483629;decide),_,_,rfl,rfl,(by show 2<=sizeLine;decide),fun l hl=>?_⟩
   exact kk l _ (same_new hl _) hl ⟨_,_,upd_same⟩
 ·refine⟨_,rfl,a,_,rfl,.inl hS,_,_,rfl,rfl,_,rfl,?_⟩
  refine ite2 (fun d=>?_) (fun d=>?_)
  ·have d':(0:Int)<((ns.map V.int).length:Int):=of_decide_eq_true d
   have d2:(0:Int)<(ns.length:Int):=by rw[hl]at d';exact d'
   obtain⟨v,hv⟩:=atI_int (ns:=ns) (k:=k % (((ns.map V.int).length:Nat):Int)) (Int.emod_nonneg _ (by omega)) (by rw[hl];exact Int.emod_lt_of_pos _ d2)
   refine⟨_,rfl,_,rfl,_,rfl,a,_,rfl,.inl hS,_,_,rfl,rfl,d',a,_,_,_,rfl,rfl,hS,hv,_,_,rfl,rfl,(by show(0:Int)<2147483629;decide),_,_,rfl,rfl,.inr ⟨by decide,by decide⟩,_,rfl,_,_,rfl,rfl,.inl ⟨by decide,by decide⟩,_,_,rfl,rfl,?_⟩
   refine⟨_,rfl,_,_,rfl,rfl,⟨by decide,by decide,by decide⟩,_,_,rfl,rfl,_,rfl,ite2 (fun _=>?_) (fun _=>?_)⟩
   ·refine⟨_,rfl,_,rfl,_,rfl,_,_,rfl,rfl,(by show(0:Int)<2147483629;decide),_,_,rfl,rfl,.inr ⟨by decide,by decide⟩,_,rfl,_,_,rfl,rfl,.inl ⟨by decide,by decide⟩,_,_,rfl,rfl,_,_,rfl,rfl,(by show(0:Int)<2147483629;decide),_,_,rfl,rfl,(by show 2<=sizeLine;decide),fun l hl=>?_⟩
    exact kk l _ (same_new hl _) hl ⟨_,_,upd_same⟩
   ·refine⟨_,rfl,_,rfl,_,_,rfl,rfl,(by show(0:Int)<2147483629;decide),_,_,rfl,rfl,.inr ⟨by decide,by decide⟩,_,rfl,_,_,rfl,rfl,.inl ⟨by decide,by decide⟩,_,_,rfl,rfl,_,_,rfl,rfl,(by show(0:Int)<2147483629;decide),_,_,rfl,rfl,(by show 2<=sizeLine;decide),fun l hl=>?_⟩
    exact kk l _ (same_new hl _) hl ⟨_,_,upd_same⟩
  ·refine⟨_,rfl,_,_,rfl,rfl,⟨by decide,by decide,by decide⟩,_,_,rfl,rfl,_,rfl,ite2 (fun _=>?_) (fun _=>?_)⟩
   ·refine⟨_,rfl,_,rfl,_,rfl,_,_,rfl,rfl,(by show(0:Int)<2147483629;decide),_,_,rfl,rfl,.inr ⟨by decide,by decide⟩,_,rfl,_,_,rfl,rfl,.inl ⟨by decide,by decide⟩,_,_,rfl,rfl,_,_,rfl,rfl,(by show(0:Int)<2147483629;decide),_,_,rfl,rfl,(by show 2<=sizeLine;decide),fun l hl=>?_⟩
    exact kk l _ (same_new hl _) hl ⟨_,_,upd_same⟩
   ·refine⟨_,rfl,_,rfl,_,_,rfl,rfl,(by show(0:Int)<2147483629;decide),_,_,rfl,rfl,.inr ⟨by decide,by decide⟩,_,rfl,_,_,rfl,rfl,.inl ⟨by decide,by decide⟩,_,_,rfl,rfl,_,_,rfl,rfl,(by show(0:Int)<2147483629;decide),_,_,rfl,rfl,(by show 2<=sizeLine;decide),fun l hl=>?_⟩
    exact kk l _ (same_new hl _) hl ⟨_,_,upd_same⟩
end
end G24
namespace L2
open PySem
theorem putF_lt'{f:Str}{v:V}{n:Nat}(k:Nat):∀{fs:List (Str×V)},fs.length+(k+1)<n->(putF f v fs).length+k<n
 | [],h=>by show 1+k<n;simp at h;omega
 |(g,x)::r,h=>by
  unfold putF
  split
  ·rw[List.length_cons]at h⊢;omega
  ·rw[List.length_cons]at h⊢
   have:=putF_lt' (f:=f) (v:=v) (n:=n) (k+1) (fs:=r) (by omega)
   omega
theorem putF_lt0{f:Str}{v:V}{n:Nat}{fs:List (Str×V)}(h:fs.length+1<n):(putF f v fs).length<n:=putF_lt' 0 h
theorem cx_K{X0:CXT}{P:Program}{w:World}{K:PySem.W.Frag}{mg:Str->Option Value}{base:Heap}{N:List Str}{nm:Str}{sc:Scope}{f:Addr}{cdv:Value}{A:Around}{outer:List PySem.Env}{s:Shared}{H:Hp}{E:XK}:(cxOf X0 P w K mg base N nm sc f cdv A outer s H E).nox.K=K:=rfl
def Cut(b:TS)(D:Ends)(N:St->Hp->Prop):Prop:=∀σ H,b D σ H->N σ H
theorem Cut.go{b:TS}{D:Ends}{N:St->Hp->Prop}{σ:St}{H:Hp}(h:Cut b D N)(g:b D σ H):N σ H:=h σ H g
theorem seq_cut{a b:TS}{D:Ends}{σ:St}{H:Hp}(h:∀N:St->Hp->Prop,Cut b D N->a {D with nx:=N} σ H):tSeq a b D σ H:=h (b D) (fun _ _ x=>x)
theorem next_of{D:Ends}{σ:St}{H:Hp}(h:D.nx σ H):tNext D σ H:=h
theorem asgc_of{D:Ends}{σ:St}{H:Hp}{v:V}{i:Nat}(h:D.nx (σ.set i (some v)) H):tAsg (tC v) (gName i) D σ H:=h
theorem seq_cut2{t0 t1 t2:TS}{D:Ends}{σ:St}{H:Hp}(h:∀N1 N2:St->Hp->Prop,Cut t1 {D with nx:=N2} N1->Cut t2 D N2->t0 {D with nx:=N1} σ H):tSeq t0 (tSeq t1 t2) D σ H:=h (tSeq t1 t2 D) (t2 D) (fun _ _ x=>x) (fun _ _ x=>x)
theorem seq_cut3{t0 t1 t2 t3:TS}{D:Ends}{σ:St}{H:Hp}(h:∀N1 N2 N3:St->Hp->Prop,Cut t1 {D with nx:=N2} N1->Cut t2 {D with nx:=N3} N2->Cut t3 D N3->t0 {D with nx:=N1} σ H):tSeq t0 (tSeq t1 (tSeq t2 t3)) D σ H:=h (tSeq t1 (tSeq t2 t3) D) (tSeq t2 t3 D) (t3 D) (fun _ _ x=>x) (fun _ _ x=>x) (fun _ _ x=>x)
theorem seq_cut4{t0 t1 t2 t3 t4:TS}{D:Ends}{σ:St}{H:Hp}(h:∀N1 N2 N3 N4:St->Hp->Prop,Cut t1 {D with nx:=N2} N1->Cut t2 {D with nx:=N3} N2->Cut t3 {D with nx:=N4} N3->Cut t4 D N4->t0 {D with nx:=N1} σ H):tSeq t0 (tSeq t1 (tSeq t2 (tSeq t3 t4))) D σ H:=h (tSeq t1 (tSeq t2 (tSeq t3 t4)) D) (tSeq t2 (tSeq t3 t4) D) (tSeq t3 t4 D) (t4 D) (fun _ _ x=>x) (fun _ _ x=>x) (fun _ _ x=>x) (fun _ _ x=>x)
theorem seq_cut5{t0 t1 t2 t3 t4 t5:TS}{D:Ends}{σ:St}{H:Hp}(h:∀N1 N2 N3 N4 N5:St->Hp->Prop,Cut t1 {D with nx:=N2} N1->Cut t2 {D with nx:=N3} N2->Cut t3 {D with nx:=N4} N3->Cut t4 {D with nx:=N5} N4->Cut t5 D N5->t0 {D with nx:=N1} σ H):tSeq t0 (tSeq t1 (tSeq t2 (tSeq t3 (tSeq t4 t5)))) D σ H:=h (tSeq t1 (tSeq t2 (tSeq t3 (tSeq t4 t5))) D) (tSeq t2 (tSeq t3 (tSeq t4 t5)) D) (tSeq t3 (tSeq t4 t5) D) (tSeq t4 t5 D) (t5 D) (fun _ _ x=>x) (fun _ _ x=>x) (fun _ _ x=>x) (fun _ _ x=>x) (fun _ _ x=>x)
theorem seq_cut6{t0 t1 t2 t3 t4 t5 t6:TS}{D:Ends}{σ:St}{H:Hp}(h:∀N1 N2 N3 N4 N5 N6:St->Hp->Prop,Cut t1 {D with nx:=N2} N1->Cut t2 {D with nx:=N3} N2->Cut t3 {D with nx:=N4} N3->Cut t4 {D with nx:=N5} N4->Cut t5 {D with nx:=N6} N5->Cut t6 D N6->t0 {D with nx:=N1} σ H):tSeq t0 (tSeq t1 (tSeq t2 (tSeq t3 (tSeq t4 (tSeq t5 t6))))) D σ H:=h (tSeq t1 (tSeq t2 (tSeq t3 (tSeq t4 (tSeq t5 t6)))) D) (tSeq t2 (tSeq t3 (tSeq t4 (tSeq t5 t6))) D) (tSeq t3 (tSeq t4 (tSeq t5 t6)) D) (tSeq t4 (tSeq t5 t6) D) (tSeq t5 t6 D) (t6 D) (fun _ _ x=>x) (fun _ _ x=>x) (fun _ _ x=>x) (fun _ _ x=>x) (fun _ _ x=>x) (fun _ _ x=>x)
theorem seq_cut7{t0 t1 t2 t3 t4 t5 t6 t7:TS}{D:Ends}{σ:St}{H:Hp}(h:∀N1 N2 N3 N4 N5 N6 N7:St->Hp->Prop,Cut t1 {D with nx:=N2} N1->Cut t2 {D with nx:=N3} N2->Cut t3 {D with nx:=N4} N3->Cut t4 {D with nx:=N5} N4->Cut t5 {D with nx:=N6} N5->Cut t6 {D with nx:=N7} N6->Cut t7 D N7->t0 {D with nx:=N1} σ H):tSeq t0 (tSeq t1 (tSeq t2 (tSeq t3 (tSeq t4 (tSeq t5 (tSeq t6 t7)))))) D σ H:=h (tSeq t1 (tSeq t2 (tSeq t3 (tSeq t4 (tSeq t5 (tSeq t6 t7))))) D) (tSeq t2 (tSeq t3 (tSeq t4 (tSeq t5 (tSeq t6 t7)))) D) (tSeq t3 (tSeq t4 (tSeq t5 (tSeq t6 t7))) D) (tSeq t4 (tSeq t5 (tSeq t6 t7)) D) (tSeq t5 (tSeq t6 t7) D) (tSeq t6 t7 D) (t7 D) (fun _ _ x=>x) (fun _ _ x=>x) (fun _ _ x=>x) (fun _ _ x=>x) (fun _ _ x=>x) (fun _ _ x=>x) (fun _ _ x=>x)
theorem seq_cut8{t0 t1 t2 t3 t4 t5 t6 t7 t8:TS}{D:Ends}{σ:St}{H:Hp}(h:∀N1 N2 N3 N4 N5 N6 N7 N8:St->Hp->Prop,Cut t1 {D with nx:=N2} N1->Cut t2 {D with nx:=N3} N2->Cut t3 {D with nx:=N4} N3->Cut t4 {D with nx:=N5} N4->Cut t5 {D with nx:=N6} N5->Cut t6 {D with nx:=N7} N6->Cut t7 {D with nx:=N8} N7->Cut t8 D N8->t0 {D with nx:=N1} σ H):tSeq t0 (tSeq t1 (tSeq t2 (tSeq t3 (tSeq t4 (tSeq t5 (tSeq t6 (tSeq t7 t8))))))) D σ H:=h (tSeq t1 (tSeq t2 (tSeq t3 (tSeq t4 (tSeq t5 (tSeq t6 (tSeq t7 t8)))))) D) (tSeq t2 (tSeq t3 (tSeq t4 (tSeq t5 (tSeq t6 (tSeq t7 t8))))) D) (tSeq t3 (tSeq t4 (tSeq t5 (tSeq t6 (tSeq t7 t8)))) D) (tSeq t4 (tSeq t5 (tSeq t6 (tSeq t7 t8))) D) (tSeq t5 (tSeq t6 (tSeq t7 t8)) D) (tSeq t6 (tSeq t7 t8) D) (tSeq t7 t8 D) (t8 D) (fun _ _ x=>x) (fun _ _ x=>x) (fun _ _ x=>x) (fun _ _ x=>x) (fun _ _ x=>x) (fun _ _ x=>x) (fun _ _ x=>x) (fun _ _ x=>x)
theorem dpn{d:Nat}:T.deps []<=d:=by rw[T.deps];exact Nat.zero_le _
theorem dpc{x:T}{xs:List T}{d:Nat}(h:x.dep<=d)(r:T.deps xs<=d):T.deps (x::xs)<=d:=by rw[T.deps];exact Nat.max_le.mpr ⟨h,r⟩
theorem dpt{xs:List T}{d:Nat}(h:T.deps xs<=d):T.dep (.t xs)<=d+1:=by rw[T.dep];exact Nat.succ_le_succ h
theorem dps{x:Str}{d:Nat}:T.dep (.s x)<=d:=by simp[T.dep]
theorem dpi{x:Int}{d:Nat}:T.dep (.i x)<=d:=by simp[T.dep]
end L2
open L2 in
local macro_rules | `(tactic| fail "Z") => `(tactic| first | exact SqL.of (by first | assumption | exact upd_same) | exact SqT.of (by first | assumption | exact upd_same) | omega | (dsimp only [List.length_cons, List.length_nil]; decide) | decide | exact Nat.zero_le _ | (refine putF_lt0 ?_; (repeat with_reducible refine putF_lt' _ ?_); decide))
open L2 in
local macro_rules | `(tactic| fail "S") => `(tactic| first
  | ((with_reducible change @Eq _ _ _); (first | exact rfl | assumption | exact upd_same | (rw [upd_ne (by assumption)]; first | exact upd_same | assumption | (rw [upd_ne (by assumption)]; first | exact upd_same | assumption)) | omega))
  | ((with_reducible first | change @LT.lt _ _ _ _ | change @LE.le _ _ _ _); (first | omega | with_reducible assumption | fail "Z"))
  | assumption
  | ((with_reducible refine And.intro ?_ ?_) <;> fail "S")
  | ((with_reducible refine Or.inl ?_); fail "S")
  | ((with_reducible refine Or.inr ?_); fail "S")
  | ((with_reducible apply Exists.intro); fail "S")
  | ((with_reducible first | change tyV _ _ _ _ | change TruV _ _ _ _ | change CDiv _ _ | change CMul _ _ | change CPow _ _); first | ((first | refine (?_ : @Eq _ _ _) | refine (?_ : And _ _) | refine (?_ : Or _ _) | refine (?_ : Exists _)); fail "S") | exact True.intro)
  | fail "Z")
open L2 in
local macro_rules | `(tactic| fail "T") => `(tactic| first
  | ((with_reducible first | refine seq_cut8 ?_ | refine seq_cut6 ?_ | refine seq_cut5 ?_ | refine seq_cut4 ?_ | refine seq_cut3 ?_ | refine seq_cut2 ?_ | refine seq_cut ?_); intros)
  | (refine (?_ : Exists _); first
     | with_reducible first | apply @Exists.intro Hp | apply @Exists.intro Sp
     | ((fail_if_success (with_reducible apply @Exists.intro (_ → _))); apply Exists.intro))
  | (refine And.intro ?_ ?_; fail "S")
  | ((try with_reducible first | refine next_of ?_ | refine asgc_of ?_); refine (by with_reducible assumption : Cut _ _ _) _ _ ?_))
local macro_rules | `(tactic| fail "R") => `(tactic| first | (fail "T"; fail "R") | refine And.intro ?_ ?_ | refine (?_ : @ite _ _ _ _ _) | skip)
local macro_rules | `(tactic| fail "F") => `(tactic| first | ((with_reducible apply Exists.intro); fail "F") | ((with_reducible refine And.intro ?_ ?_); fail "S"))
local macro_rules | `(tactic| fail "O") => `(tactic| first | (fail "T"; fail "O") | refine And.intro ?_ ?_ | ((first | (refine Or.inl ?_; fail "F") | (refine Or.inr ?_; fail "F")); fail "O") | refine (?_ : @ite _ _ _ _ _) | skip)
open L2 in
local macro_rules | `(tactic| fail "D") => `(tactic| repeat' first | exact dpn | exact dps | exact dpi | assumption | exact Nat.le_trans (by assumption) (by decide) | refine dpt ?_ | refine dpc ?_ ?_)
namespace L2
open PySem
@[irreducible] def tBlk (X:Cx) (st:List Stmt):TS:=fun D σ H=>∃u,PSs X st u/\u D σ H
theorem pss_blk{X:Cx}{st:List Stmt}:PSs X st (tBlk X st):=fun pins s σ H D I h=>by
 unfold tBlk at h
 obtain⟨u,hu,q⟩:=h
 exact hu pins s σ H D I q
theorem blk_of{X:Cx}{st:List Stmt}{D:Ends}{σ:St}{H:Hp}{u:TS}(h:PSs X st u)(q:u D σ H):tBlk X st D σ H:=by
 unfold tBlk
 exact⟨u,h,q⟩
def forA:List Stmt->List Stmt
 |.For _ _ a _ _::_=>a
 |_=>[]
def isStar:Expr->Bool
 |.Starred _ _=>true
 |_=>false
theorem star_all{e:Expr}{es:List Expr}{env:PySem.Env}(h:isStar e=false):starEach (e::es) env=(false,eval e env)::starEach es env:=by
 cases e<;>first|rfl|cases h
theorem pa_c{X:Cx}{e:Expr}{es:List Expr}{te:TE}{t:TA}(ha:PE X e te)(hr:PA X es t)(hs:isStar e=false:=by rfl):PA X (e::es) (tCons te t):=pa_cons ha hr (star_all hs)
end L2
namespace L2
open PySem PySem.Spec PyProof.Rows
section
variable {prog:Program}{w:World}{A:Around}{E:Value->Shared->Prop}{s:Shared}
end
section
variable {prog:Program}{w:World}{A:Around}{R:Result->Shared->Prop}{s:Shared}
end
section
variable {prog:Program}{w:World}{A:Around}{E:Value->Shared->Prop}{s:Shared}
end
section
variable {prog:Program}{w:World}{A:Around}{E:Value->Shared->Prop}{s:Shared}
end
section
variable {X:Cx}{a b:Expr}{t:TA}{p1 p2 p3 p4:Pos}
theorem min_end{α:Type}{xs ys:List α}:xs[min xs.length ys.length]?=none\/ys[min xs.length ys.length]?=none:=by
 rcases Nat.le_total xs.length ys.length with h|h
 ·left;rw[Nat.min_eq_left h];exact List.getElem?_eq_none (Nat.le_refl _)
 ·right;rw[Nat.min_eq_right h];exact List.getElem?_eq_none (Nat.le_refl _)
def ZOut(xs ys:List V)(ts:List Addr)(H H':Hp):Prop:=Same H H'/\ts.length=min xs.length ys.length/\∀(j:Nat) (u:Nat),ts[j]?=some u->∃x y,xs[j]?=some x/\ys[j]?=some y/\H' u=some (.tup [x,y])
theorem zip_lay{pins:List (Addr×Obj)}{σ:St}{H1:Hp}{s1:Shared}{h':Heap}{tk lo:Nat}{xs ys:List V}{its jts:List Value}{as:List Nat}{S:Nat}{o:HO}(I1:Inv X pins σ H1 s1)(rv:Vals xs its)(rw':Vals ys jts)
  (hlo:s1.heap.objs.size<=lo) (hk:∀b o,s1.heap.get? b=some o->h'.get? b=some o) (hal:as.length=min xs.length ys.length) (hG:ZTold h' lo its.toArray jts.toArray as) (hSn:s1.heap.objs.size<=S) (hSa:S∉as)
  (hS:ObjOk X.prog X.w (upd (layT as xs ys H1) S o) h' S o):Inv X pins σ (upd (layT as xs ys H1) S o) {s1 with heap:=h',toks:=tk}/\ZOut xs ys as H1 (upd (layT as xs ys H1) S o)/\H1 S=none:=by
 have low:∀u∈as,lo<=u:=hG.low
 have hS5:∀u∈as,u≠S:=fun u hu z=>hSa (z▸hu)
 have old:∀c,c<s1.heap.objs.size->upd (layT as xs ys H1) S o c=H1 c:=fun c hc=>by
  rw[upd_ne (Nat.ne_of_lt (Nat.lt_of_lt_of_le hc hSn))]
  exact layT_out as xs ys fun hm=>absurd (Nat.lt_of_lt_of_le hc (Nat.le_trans hlo (low c hm))) (Nat.lt_irrefl _)
 have tups:∀(j:Nat) (u:Nat),as[j]?=some u->∃x y,xs[j]?=some x/\ys[j]?=some y/\upd (layT as xs ys H1) S o u=some (.tup [x,y]):=fun j u hj=>by
  have hj0:=(List.getElem?_eq_some_iff.mp hj).1
  have hjl:j<xs.length:=by omega
  have hjl2:j<ys.length:=by omega
  have hx:xs[j]?=some xs[j]:=List.getElem?_eq_getElem hjl
  have hy:ys[j]?=some ys[j]:=List.getElem?_eq_getElem hjl2
  refine⟨_,_,hx,hy,?_⟩
  rw[upd_ne (hS5 u (List.mem_of_getElem? hj))]
  exact layT_in as xs ys hG.rise j u _ _ hj hx hy
 refine⟨I1.grow (t':=tk) hk old (fun c o' hc e=>?_),⟨fun c o e=>by rw[old c (I1.hok.lt e)];exact e,hal,tups⟩,I1.hok.fresh hSn⟩
 by_cases hcS:c=S
 ·subst hcS
  rw[upd_same]at e
  cases e
  exact hS
 ·rw[upd_ne hcS]at e
  rcases layT_some as xs ys e with z|⟨j,x,y,f1,f2,f3,rfl⟩
  ·exact absurd (I1.hok.lt z) (Nat.not_lt.mpr hc)
  ·obtain⟨vx,vy,g1,g2,g3⟩:=hG.pairs j c f1
   obtain⟨ux,k1,k2⟩:=rv.get f2
   obtain⟨uy,k3,k4⟩:=rw'.get f3
   have g1':its[j]?=some vx:=by simpa using g1
   have g2':jts[j]?=some vy:=by simpa using g2
   rw[k1]at g1'
   rw[k3]at g2'
   cases g1'
   cases g2'
   exact⟨(by show 2<=sizeLine;decide),_,.cons k2 (.cons k4 .nil),⟨_,g3,rfl,_,rfl⟩,_,g3,rfl⟩
end
theorem entry_dul:entryFor table "dict.update.loop"=some Builtin.«dict.update.loop»:=by kernel_rfl
theorem plain_dul:plainId "dict.update.loop"=true:=by kernel_rfl
theorem tup_noKeys:typeLookup (.type "tuple") (Str.ofString "keys")=pure none:=by rw[typeLookup_type,builtinLookup_eq_fast];kernel_rfl
theorem lst_noKeys:typeLookup (.type "list") (Str.ofString "keys")=pure none:=by rw[typeLookup_type,builtinLookup_eq_fast];kernel_rfl
theorem sub_AttrErr:isSubtype (.type "AttributeError") (.type "AttributeError")=pure true:=by kernel_rfl
section
variable {prog:Program}{w:World}{A:Around}{E:Value->Shared->Prop}{s:Shared}
theorem miss_tuple{a:Addr}{xs:Array Value}{k:Nat}{sl:Array (Option Value)}{u:Tok}{Q E:Value->Shared->Prop}(hh:A.handled=none)(ho:s.heap.get? a=some {cls:=.type "tuple",dict:=none,data:=.seq xs k,slots:=sl})
  (hE:∀h' tk e,s.heap.NewAttrErr h' e (.ref a) (Str.ofString "keys")->E (.ref e) {s with heap:=h',toks:=tk}):wpAny (model prog w) A (call (.builtin "tuple.__getattribute__") ([.ref a]++[.str (Str.ofString "keys") u])) Q E s:=by
 have hT:s.TypeIs (.ref a) "tuple":=⟨_,ho,rfl⟩
 refine wpAny_call (codeAny_call_builtin PySem.F.slot_tuple_getattribute.plain PySem.F.entry_tuple_ga (PySem.F.slot_tuple_getattribute.check _ _ _ _ _ _ [] _ hT (PySem.F.args_tuple_getattribute_2 _ _) ?_))
 refine wpAny_mono (meets_getattribute_miss_tuple a xs k sl (Str.ofString "keys") u tup_noKeys (by decide) (by decide) prog w A (fun r s'=>∃h' tk e,r=.error (.ref e)/\s.heap.NewAttrErr h' e (.ref a) (Str.ofString "keys")/\s'={s with heap:=h',toks:=tk}) s ⟨ho,hh,fun h' tk e ne=>⟨h',tk,e,rfl,ne,rfl⟩⟩) (fun fin s' z=>?_) (fun e s' z=>?_)
 ·rcases fin with f|c
  ·obtain⟨_,_,_,h,_⟩:=z;cases h
  ·exact⟨z.1,codeAny_mono z.2 fun r s'' q=>by obtain⟨h',tk,e,rfl,ne,rfl⟩:=q;exact hE h' tk e ne⟩
 ·obtain⟨h',tk,e,h,ne,rfl⟩:=z
  cases h
  exact hE h' tk e ne
theorem no_keys_tuple{a:Addr}{xs:Array Value}{k:Nat}{sl:Array (Option Value)}{Q:Option Value->Shared->Prop}(hh:A.handled=none)(ho:s.heap.get? a=some {cls:=.type "tuple",dict:=none,data:=.seq xs k,slots:=sl})
  (hQ:∀h' tk,(∀b o,s.heap.get? b=some o->h'.get? b=some o)->Q none {s with heap:=h',toks:=tk}):wpAny (model prog w) A (getAttr? (.ref a) (Str.ofString "keys")) Q E s:=by
 unfold getAttr?
 refine wpAny_bind (wpAny_mkText ?_)
 have hT:Shared.TypeIs {s with toks:=s.toks+1} (.ref a) "tuple":=⟨_,ho,rfl⟩
 unfold getAttrBy?
 refine wpAny_bind (wpAny_attempt ?_)
 unfold getAttrBy
 refine wpAny_holding (wpAny_bind (wpAny_typeOf hT ?_))
 rw[show typeLookup (.type "tuple") (Str.ofString "__getattribute__")=pure (some (.builtin "tuple.__getattribute__"))from PySem.F.slot_tuple_getattribute.lookup]
 refine wpAny_bind (wpAny_pure ?_)
 dsimp only
 rw[if_neg (by decide)]
 unfold getAttrByItsOwn hookBefore
 rw[if_neg (by decide)]
 refine wpAny_bind (wpAny_pure ?_)
 refine wpAny_bind (wpAny_attempt (wpAny_holding ?_))
 unfold callGetattribute
 rw[if_neg (by decide)]
 unfold boundAndCalled
 rw[PySem.F.slot_tuple_getattribute.bind]
 refine wpAny_bind (wpAny_pure ?_)
 refine miss_tuple (s:={s with toks:=s.toks+1}) hh ho fun h' tk e ne=>?_
 obtain⟨t,u,he⟩:=ne.there
 have hTe:Shared.TypeIs {s with heap:=h',toks:=tk} (.ref e) "AttributeError":=⟨_,he,rfl⟩
 show wpAny _ _ (getattributeRaised _ _ _ _ none false false) _ _ _
 unfold getattributeRaised
 refine wpAny_bind (wpAny_isInstance hTe sub_AttrErr ?_)
 rw[if_pos rfl]
 unfold hookBehind
 rw[if_neg (by decide),PySem.F.plainAttrs_tuple.noGetattr]
 refine wpAny_bind (wpAny_pure ?_)
 unfold hookOrError
 dsimp only
 unfold attributeErrorLeaves
 dsimp only
 rw[if_pos (show(!false)=true from rfl)]
 refine wpAny_bind (wpAny_throw ?_)
 refine wpAny_bind (wpAny_isInstance hTe sub_AttrErr ?_)
 rw[if_pos rfl]
 exact wpAny_pure (hQ h' tk ne.keeps)
theorem miss_list{a:Addr}{xs:Array Value}{k:Nat}{sl:Array (Option Value)}{u:Tok}{Q E:Value->Shared->Prop}(hh:A.handled=none)(ho:s.heap.get? a=some {cls:=.type "list",dict:=none,data:=.seq xs k,slots:=sl})
  (hE:∀h' tk e,s.heap.NewAttrErr h' e (.ref a) (Str.ofString "keys")->E (.ref e) {s with heap:=h',toks:=tk}):wpAny (model prog w) A (call (.builtin "list.__getattribute__") ([.ref a]++[.str (Str.ofString "keys") u])) Q E s:=by
 have hT:s.TypeIs (.ref a) "list":=⟨_,ho,rfl⟩
 refine wpAny_call (codeAny_call_builtin PySem.F.slot_list_getattribute.plain PySem.F.entry_list_ga (PySem.F.slot_list_getattribute.check _ _ _ _ _ _ [] _ hT (PySem.F.args_list_getattribute_2 _ _) ?_))
 refine wpAny_mono (meets_getattribute_miss_list a xs k sl (Str.ofString "keys") u lst_noKeys (by decide) (by decide) prog w A (fun r s'=>∃h' tk e,r=.error (.ref e)/\s.heap.NewAttrErr h' e (.ref a) (Str.ofString "keys")/\s'={s with heap:=h',toks:=tk}) s ⟨ho,hh,fun h' tk e ne=>⟨h',tk,e,rfl,ne,rfl⟩⟩) (fun fin s' z=>?_) (fun e s' z=>?_)
 ·rcases fin with f|c
  ·obtain⟨_,_,_,h,_⟩:=z;cases h
  ·exact⟨z.1,codeAny_mono z.2 fun r s'' q=>by obtain⟨h',tk,e,rfl,ne,rfl⟩:=q;exact hE h' tk e ne⟩
 ·obtain⟨h',tk,e,h,ne,rfl⟩:=z
  cases h
  exact hE h' tk e ne
theorem no_keys_list{a:Addr}{xs:Array Value}{k:Nat}{sl:Array (Option Value)}{Q:Option Value->Shared->Prop}(hh:A.handled=none)(ho:s.heap.get? a=some {cls:=.type "list",dict:=none,data:=.seq xs k,slots:=sl})
  (hQ:∀h' tk,(∀b o,s.heap.get? b=some o->h'.get? b=some o)->Q none {s with heap:=h',toks:=tk}):wpAny (model prog w) A (getAttr? (.ref a) (Str.ofString "keys")) Q E s:=by
 unfold getAttr?
 refine wpAny_bind (wpAny_mkText ?_)
 have hT:Shared.TypeIs {s with toks:=s.toks+1} (.ref a) "list":=⟨_,ho,rfl⟩
 unfold getAttrBy?
 refine wpAny_bind (wpAny_attempt ?_)
 unfold getAttrBy
 refine wpAny_holding (wpAny_bind (wpAny_typeOf hT ?_))
 rw[show typeLookup (.type "list") (Str.ofString "__getattribute__")=pure (some (.builtin "list.__getattribute__"))from PySem.F.slot_list_getattribute.lookup]
 refine wpAny_bind (wpAny_pure ?_)
 dsimp only
 rw[if_neg (by decide)]
 unfold getAttrByItsOwn hookBefore
 rw[if_neg (by decide)]
 refine wpAny_bind (wpAny_pure ?_)
 refine wpAny_bind (wpAny_attempt (wpAny_holding ?_))
 unfold callGetattribute
 rw[if_neg (by decide)]
 unfold boundAndCalled
 rw[PySem.F.slot_list_getattribute.bind]
 refine wpAny_bind (wpAny_pure ?_)
 refine miss_list (s:={s with toks:=s.toks+1}) hh ho fun h' tk e ne=>?_
 obtain⟨t,u,he⟩:=ne.there
 have hTe:Shared.TypeIs {s with heap:=h',toks:=tk} (.ref e) "AttributeError":=⟨_,he,rfl⟩
 show wpAny _ _ (getattributeRaised _ _ _ _ none false false) _ _ _
 unfold getattributeRaised
 refine wpAny_bind (wpAny_isInstance hTe sub_AttrErr ?_)
 rw[if_pos rfl]
 unfold hookBehind
 rw[if_neg (by decide),PySem.F.plainAttrs_list.noGetattr]
 refine wpAny_bind (wpAny_pure ?_)
 unfold hookOrError
 dsimp only
 unfold attributeErrorLeaves
 dsimp only
 rw[if_pos (show(!false)=true from rfl)]
 refine wpAny_bind (wpAny_throw ?_)
 refine wpAny_bind (wpAny_isInstance hTe sub_AttrErr ?_)
 rw[if_pos rfl]
 exact wpAny_pure (hQ h' tk ne.keeps)
theorem dul_loop{κ:Type}[DecidableEq κ]{knd:KeyKind prog w κ}{d I:Addr}{fp wr:List Addr}{n:Nat}{St:Nat->Heap->Prop}{R:Result->Shared->Prop}{us:List Value}{rs:List (κ×Value)}{h₁:Heap}(W:Walks prog w A.in1 I fp wr n (fun i v=>us[i]?=some v) St)(hn:n=us.length)(hrl:rs.length=us.length)(hsz:n<=sizeLine)
  (hd:d∉fp) (hpr:∀(i:Nat) (u:Value) (kv:κ×Value),us[i]?=some u->rs[i]?=some kv->∃a o m key,u=.ref a/\h₁.get? a=some o/\o.cls=.type "tuple"/\o.data=.seq #[key,kv.2] m/\knd.is kv.1 key=true/\a≠d/\a∉wr)
  (hR:∀h' tk,h'.DictOf knd d (merged [] rs)->(∀b o,b≠d->b∉wr->h₁.get? b=some o->h'.get? b=some o)->R (.ok (.ret .none)) {s with heap:=h',toks:=tk}) :
  ∀(k i:Nat) (h:Heap) (tk:Nat),n-i=k->i<=n->St i h->h.DictOf knd d (merged [] (rs.take i))->(∀b o,b≠d->b∉wr->h₁.get? b=some o->h.get? b=some o) ->
   codeAny (model prog w) A (.builtin "dict.update.loop" ⟨[.ref d,.ref I,rawInt i,.none],[]⟩) R {s with heap:=h,toks:=tk}:=by
 intro k
 induction k with
 |zero =>
  intro i h tk hk hi hst hdd hkeep
  have hin:i=n:=by omega
  subst hin
  refine codeAny_builtin entry_dul ?_
  rw[Around.under_plainId plain_dul _]
  show wpAny _ A.in1 (pyNext (.ref I)>>=_) _ _ _
  refine wpAny_bind (W.done {s with heap:=h,toks:=tk} _ _ hst fun h' tk' hq=>?_)
  refine wpAny_bind (wpAny_pure (wpAny_pure ?_))
  refine hR h' tk' ?_ (fun b o b1 b2 e=>hq b o b2 (hkeep b o b1 b2 e))
  rw[hn,←hrl,List.take_length]at hdd
  exact hdd.at fun o e=>hq d o (fun z=>hd (W.sub d z)) e
 |succ k ih =>
  intro i h tk hk hi hst hdd hkeep
  refine codeAny_builtin entry_dul ?_
  rw[Around.under_plainId plain_dul _]
  show wpAny _ A.in1 (pyNext (.ref I)>>=_) _ _ _
  refine wpAny_bind (W.item i {s with heap:=h,toks:=tk} _ _ (by omega) hst fun v h2 tk2 hv hst2 hq=>?_)
  have hil:i<rs.length:=by omega
  obtain⟨a,o,m,key,rfl,ha,hc,hdta,hkey,nad,naw⟩:=hpr i v rs[i] hv (List.getElem?_eq_getElem hil)
  have ha2:h2.get? a=some o:=hq a o naw (hkeep a o nad naw ha)
  have hdd2:h2.DictOf knd d (merged [] (rs.take i)):=hdd.at fun o e=>hq d o (fun z=>hd (W.sub d z)) e
  have hT:Shared.TypeIs {s with heap:=h2,toks:=tk2} (.ref a) "tuple":=⟨o,ha2,hc⟩
  dsimp only
  refine wpAny_bind (wpAny_holding (wpAny_bind (wpAny_tryCatch ?_)))
  unfold Builtin.Dict.pairItems
  refine wpAny_bind (wpAny_typeOf hT ?_)
  rw[if_pos (show(Value.type "tuple" == Value.type "list"||Value.type "tuple" == Value.type "tuple")=true by decide)]
  refine wpAny_bind (wpAny_seqItems ha2 hdta (wpAny_pure ?_))
  show wpAny _ _ (holding [key,rs[i].2] (dictSet d key rs[i].2)) _ _ _
  refine wpAny_holding (wpAny_dictSet_pairs hkey hdd2 (fun h3 hd3 hs3=>?_) (by have:=merged_length_le ([]:List (κ×Value)) (rs.take i);rw[List.length_take]at this;simp at this;omega))
  refine wpAny_pure ⟨plainId_quiet plain_dul _,?_⟩
  have e1:stored (merged [] (rs.take i)) rs[i].1 rs[i].2=merged [] (rs.take (i+1)):=by
   rw[merged_take_succ [] rs i _ (List.getElem?_eq_getElem hil)]
  rw[e1]at hd3
  exact ih (i+1) h3 _ (by omega) (by omega) (W.frame (i+1) _ _ hst2 fun b hb ob e=>hs3.extBut b ob (fun z=>hd (z▸hb)) e) hd3 fun b ob b1 b2 e=>hs3.extBut b ob b1 (hq b ob b2 (hkeep b ob b1 b2 e))
theorem call_dict_pairs{κ:Type}[DecidableEq κ]{knd:KeyKind prog w κ}{p:Addr}{o:Obj}{us:List Value}{m:Nat}{T:String}{rs:List (κ×Value)}{Q:Value->Shared->Prop}(hh:A.handled=none)(hTy:T="list"\/T="tuple")(ho:s.heap.get? p=some o)(hcl:o.cls=.type T)(hdi:o.dict=none)(hdt:o.data=.seq us.toArray m)
  (hrl:rs.length=us.length) (hsz:us.length<=sizeLine) (hpr:∀(i:Nat) (u:Value) (kv:κ×Value),us[i]?=some u->rs[i]?=some kv->∃a o m key,u=.ref a/\s.heap.get? a=some o/\o.cls=.type "tuple"/\o.data=.seq #[key,kv.2] m/\knd.is kv.1 key=true)
  (hQ:∀h' tk,h'.DictOf knd s.heap.objs.size (merged [] rs)->(∀b o,s.heap.get? b=some o->h'.get? b=some o)->Q (.ref s.heap.objs.size) {s with heap:=h',toks:=tk}) :
  wpAny (model prog w) A (call (.type "dict") [.ref p]) Q E s:=by
 have hlt:p<s.heap.objs.size:=Heap.lt_size ho
 have hS:(s.heap.push {cls:=.type "dict",data:=.dict #[]}).get? s.heap.objs.size=some {cls:=.type "dict",data:=.dict #[]}:=Heap.get?_push_size _ rfl
 have oth:∀b o,s.heap.get? b=some o->(s.heap.push {cls:=.type "dict",data:=.dict #[]}).get? b=some o:=fun b o e=>Heap.get?_push_of_some _ e
 refine callType_codes (Q₁:=fun obj s₁=>obj=.ref s.heap.objs.size/\s₁={s with heap:=s.heap.push {cls:=.type "dict",data:=.dict #[]}}) PySem.F.kt_called_dict (PySem.F.kt_typeCall_dict_1 _) PySem.F.entry_dict_init
  (kt_code_dict_new _ ⟨rfl,rfl⟩) fun obj s₁ h₁=>?_
 obtain⟨rfl,rfl⟩:=h₁
 refine⟨⟨_,hS,rfl⟩,PySem.F.args_dict_init_2 _ _,?_⟩
 have hD0:Heap.DictOf knd (s.heap.push {cls:=.type "dict",data:=.dict #[]}) s.heap.objs.size (merged ([]:List (κ×Value)) (rs.take 0)):=Heap.DictOf.new s.heap
 generalize s.heap.push {cls:=.type "dict",data:=.dict #[]}=g at hS oth hD0⊢
 have hTd:Shared.TypeIs {s with heap:=g} (.ref s.heap.objs.size) "dict":=⟨_,hS,rfl⟩
 have hTp:Shared.TypeIs {s with heap:=g} (.ref p) T:=⟨_,oth _ _ ho,hcl⟩
 unfold Builtin.«dict.__init__» Builtin.Dict.selfAndRest Builtin.Dict.notOrdered
 refine wpAny_bind (wpAny_bind ?_)
 rw[if_pos (by decide)]
 dsimp only[List.headD]
 refine wpAny_bind (wpAny_typeOf hTd ?_)
 rw[if_neg (by decide)]
 refine wpAny_pure ?_
 refine wpAny_bind (show wpAny _ _ (Builtin.Dict.addrOf (.ref s.heap.objs.size)) _ _ _ from wpAny_pure (wpAny_pure ?_))
 show wpAny _ _ (Builtin.Dict.updateFrom "dict.__init__" s.heap.objs.size (.ref p) [] .none) _ _ _
 unfold Builtin.Dict.updateFrom
 refine wpAny_bind (wpAny_typeOf hTp ?_)
 dsimp only
 rw[if_pos (by rcases hTy with rfl|rfl<;>decide)]
 have fin:∀(g2:Heap) (tk:Nat),(∀b o,g.get? b=some o->g2.get? b=some o)->wpAny (model prog w) A.in1.in1 (pyIter (.ref p)) (fun it s2=>wpAny (model prog w) A.in1.in1 (again (.builtin "dict.update.loop" ⟨[.ref s.heap.objs.size,it,rawInt 0,.none],[]⟩))
   (fun fin s'=>match fin with
    |.done f=>wants (fun r s₂=>r=.none/\Q (.ref s.heap.objs.size) s₂) E (.ok f) s'
    |.again c'=>c'.quiet=true/\codeAny (model prog w) A.in1 c' (wants (fun r s₂=>r=.none/\Q (.ref s.heap.objs.size) s₂) E) s')
   (fun e s'=>wants (fun r s₂=>r=.none/\Q (.ref s.heap.objs.size) s₂) E (.error e) s') s2)
   (fun e s'=>wants (fun r s₂=>r=.none/\Q (.ref s.heap.objs.size) s₂) E (.error e) s') {s with heap:=g2,toks:=tk}:=by
  intro g2 tk hk2
  have ho2:g2.get? p=some o:=hk2 _ _ (oth _ _ ho)
  have hdlt:s.heap.objs.size<g2.objs.size:=Heap.lt_size (hk2 _ _ hS)
  have loop:∀(g3:Heap) (tk3:Nat) (St:Nat->Heap->Prop),Walks prog w A.in1.in1 g2.objs.size [g2.objs.size,p] [g2.objs.size] us.toArray.size (fun i v=>us.toArray[i]?=some v) St->St 0 g3->(∀b o,g2.get? b=some o->g3.get? b=some o) ->
    codeAny (model prog w) A.in1 (.builtin "dict.update.loop" ⟨[.ref s.heap.objs.size,.ref g2.objs.size,rawInt 0,.none],[]⟩) (wants (fun r s₂=>r=.none/\Q (.ref s.heap.objs.size) s₂) E) {s with heap:=g3,toks:=tk3}:=by
   intro g3 tk3 St W hst hk3
   have nd:s.heap.objs.size∉[g2.objs.size,p]:=by
    intro hm
    rcases List.mem_cons.mp hm with z|z
    ·exact absurd hdlt (by rw[z];exact Nat.lt_irrefl _)
    ·rw[List.mem_singleton]at z;exact absurd hlt (by rw[←z];exact Nat.lt_irrefl _)
   refine dul_loop (A:=A.in1) (us:=us) (rs:=rs) (h₁:=g3) (n:=us.toArray.size) (by simpa using W) (by simp) hrl (by simpa using hsz) nd ?_ ?_ us.toArray.size 0 g3 tk3 (by simp) (Nat.zero_le _) hst (hD0.at fun o e=>hk3 _ _ (hk2 _ _ e)) (fun _ _ _ _ e=>e)
   ·intro i u kv hu hkv
    obtain⟨a,ob,mm,key,e1,e2,e3,e4,e5⟩:=hpr i u kv hu hkv
    have hal:a<s.heap.objs.size:=Heap.lt_size e2
    refine⟨a,ob,mm,key,e1,hk3 _ _ (hk2 _ _ (oth _ _ e2)),e3,e4,e5,Nat.ne_of_lt hal,fun z=>?_⟩
    rw[List.mem_singleton]at z
    exact absurd (Nat.lt_trans hal hdlt) (by rw[z];exact Nat.lt_irrefl _)
   ·intro h' tk' hd' hkp
    refine⟨rfl,hQ h' tk' hd' fun b ob e=>hkp b ob (Nat.ne_of_lt (Heap.lt_size e)) (fun z=>?_) (hk3 _ _ (hk2 _ _ (oth _ _ e)))⟩
    rw[List.mem_singleton]at z
    exact absurd (Nat.lt_trans (Heap.lt_size e) hdlt) (by rw[z];exact Nat.lt_irrefl _)
  have pne:p≠g2.objs.size:=Nat.ne_of_lt (Nat.lt_trans hlt hdlt)
  rcases hTy with rfl|rfl
  ·have hl:g2.IsList p us.toArray:=⟨o,ho2,hcl,m,hdt⟩
   refine wpAny_pyIter_list (s:={s with heap:=g2,toks:=tk}) hl (wpAny_pure ⟨plainId_quiet plain_dul _,?_⟩)
   exact loop _ tk _ (Walks.list (A:=A.in1.in1) hh _ p pne us.toArray) ⟨⟨_,Heap.get?_push_size _ rfl,rfl,rfl⟩,hl.push _⟩ fun b o e=>Heap.get?_push_of_some _ e
  ·have hl:g2.IsTuple p us.toArray:=⟨o,ho2,hcl,m,hdt⟩
   refine wpAny_pyIter_tuple (s:={s with heap:=g2,toks:=tk}) hl (wpAny_pure ⟨plainId_quiet plain_dul _,?_⟩)
   exact loop _ tk _ (Walks.tuple (A:=A.in1.in1) hh _ p pne us.toArray) ⟨⟨_,Heap.get?_push_size _ rfl,rfl,rfl⟩,hl.push _⟩ fun b o e=>Heap.get?_push_of_some _ e
 obtain⟨ocl,odi,odt,osl⟩:=o
 obtain rfl:ocl=_:=hcl
 obtain rfl:odi=_:=hdi
 obtain rfl:odt=_:=hdt
 rcases hTy with rfl|rfl
 ·refine wpAny_bind (no_keys_list (s:={s with heap:=g}) hh (oth _ _ ho) fun g2 tk hk2=>?_)
  dsimp only
  rw[if_pos (show(none:Option Value).isNone=true from rfl)]
  exact wpAny_bind (wpAny_rule (wpAny_bind (fin g2 tk hk2)))
 ·refine wpAny_bind (no_keys_tuple (s:={s with heap:=g}) hh (oth _ _ ho) fun g2 tk hk2=>?_)
  dsimp only
  rw[if_pos (show(none:Option Value).isNone=true from rfl)]
  exact wpAny_bind (wpAny_rule (wpAny_bind (fin g2 tk hk2)))
end
section
variable {X:Cx}{pins:List (Addr×Obj)}{σ:St}{H:Hp}{s:Shared}
abbrev DPairs(K:PySem.W.Frag)(H:Hp):List (Key×V)->List V->Prop:=Paired fun kv y=>∃a,y=.ref a/\SqT K H a [kV kv.1,kv.2]
theorem dpairs_of(I:Inv X pins σ H s):∀{kvs:List (Key×V)}{ys:List V}{its:List Value},DPairs X.K H kvs ys->Vals ys its ->
  ∃rs:List (Key×Value),KV kvs rs/\rs.length=its.length/\∀(i:Nat) (u:Value) (kv:Key×Value),its[i]?=some u->rs[i]?=some kv->∃a o m key,u=.ref a/\s.heap.get? a=some o/\o.cls=.type "tuple"/\o.data=.seq #[key,kv.2] m/\(mixKind X.prog X.w).is kv.1 key=true:=by
 intro kvs ys its h
 induction h generalizing its with
 |nil=>intro v;cases v;exact⟨[],.nil,rfl,fun i u kv h _=>by simp at h⟩
 |@cons kv y kvs ys hd r ih =>
  intro v
  cases v with
  |cons ru rv =>
   obtain⟨a,e,hq⟩:=hd
   obtain⟨rs,k1,k2,k3⟩:=ih rv
   subst e
   cases ru
   obtain⟨jts,rj,⟨o,o1,o2,m,o3⟩,_⟩:=I.tuple hq
   obtain⟨u1,u2,rfl,r1,r2⟩:=vals2 rj
   refine⟨(kv.1,u2)::rs,.cons ⟨rfl,r2⟩ k1,by simp[k2],fun i u kv' h1 h2=>?_⟩
   cases i with
   |zero =>
    simp at h1 h2
    subst h1 h2
    exact⟨a,o,m,u1,rfl,o1,o2,by simpa using o3,kV_is r1⟩
   |succ i=>exact k3 i u kv' (by simpa using h1) (by simpa using h2)
theorem Inv.tupleD(I:Inv X pins σ H s){a:Addr}{xs:List V}(h:SqT X.K H a xs):∃(its:List Value) (o:Obj) (n:Nat),Vals xs its/\s.heap.get? a=some o/\o.cls=.type "tuple"/\o.dict=none/\o.data=.seq its.toArray n/\xs.length<=sizeLine:=by
 rcases h with h|⟨o,its,n,hk,hc,hs,hz,r,hd⟩
 ·obtain⟨z,its,r,⟨o,e1,e2,n,e3⟩,o2,f1,f2⟩:=h.ok I.hok
  rw[e1]at f1
  cases f1
  exact⟨its,o,n,r,e1,e2,f2,e3,z⟩
 ·refine⟨its.toList,o,n,r,I.kIn a o hk,hc,hd,by simpa using hs,?_⟩
  have e:=r.length
  simp only[Array.length_toList]at e
  omega
theorem call_dictP(hc:X.calm=true):CallR X (.type "dict") (fun xs H Q=>∃p ys kvs,xs=[.ref p]/\(H p=some (.lst ys)\/SqT X.K H p ys)/\DPairs X.K H kvs ys/\∀d,H d=none->Q (.ref d) (upd H d (.dK (mergeK [] kvs)))):=by
 intro pins s σ H xs us Q I r h
 obtain⟨p,ys,kvs,rfl,hp,hd,q⟩:=h
 obtain⟨u,rfl,ru⟩:=vals1 r
 cases ru
 obtain⟨its,o,T,m,rv,hTy,ho,hcl,hdi,hdt,hz⟩:∃(its:List Value) (o:Obj) (T:String) (m:Nat),Vals ys its/\(T="list"\/T="tuple")/\s.heap.get? p=some o/\o.cls=.type T/\o.dict=none/\o.data=.seq its.toArray m/\ys.length<=sizeLine:=by
  rcases hp with hp|hp
  ·obtain⟨z,its,n,rv,e⟩:=(show ObjOk X.prog X.w H s.heap p (.lst ys)from I.hok p _ hp)
   exact⟨its,_,"list",n,rv,.inl rfl,e,rfl,rfl,rfl,z⟩
  ·obtain⟨its,o,n,rv,e1,e2,e3,e4,z⟩:=I.tupleD hp
   exact⟨its,o,"tuple",n,rv,.inr rfl,e1,e2,e3,e4,z⟩
 obtain⟨rs,k1,k2,k3⟩:=dpairs_of I hd rv
 have hl:=rv.length
 have hkl:kvs.length<=sizeLine:=by have:=KV.length k1;omega
 refine call_dict_pairs (knd:=mixKind X.prog X.w) (rs:=rs) (I.ok.hd hc) hTy ho hcl hdi hdt k2 (by omega) k3 fun h' tk hd' hk=>?_
 have hb:=I.big
 refine⟨.ref s.heap.objs.size,_,I.laid (t':=tk) hk (Nat.le_refl _) (dk_new (kvs:=mergeK [] kvs) ?_ (beq_eq_false_iff_ne.mpr (Ne.symm (Nat.ne_of_lt hb))) (KV.merge k1 .nil) hd'),rfl,q _ (I.hok.fresh (Nat.le_refl _))⟩
 have:=length_mergeK kvs []
 simp at this
 omega
end
section
variable {prog:Program}{w:World}{A:Around}{R:Result->Shared->Prop}{s:Shared}
end
section
variable {X:Cx}{pins:List (Addr×Obj)}{σ:St}{H:Hp}{s:Shared}
theorem comp_leaveD{scope:Scope}{N':List Str}{fp:List Addr}{C D:Addr}{s':Shared}{H':Hp}{σ':St}{pins':List (Addr×Obj)}{kvs:List (Key×V)}{rs:List (Key×Value)}{h'':Heap}(I:Inv X pins σ H s)(hf:∀b∈fp,FpOk X pins H b)
  (I':Inv (cxComp X scope N' fp C s H) pins' σ' H' s') (hC:s.heap.objs.size<=C) (hD:s.heap.objs.size<=D) (hDC:D≠C) (hDn:H' D=none) (pl:s'.heap.DictOf (mixKind X.prog X.w) D rs) (rv:KV kvs rs) (hz:kvs.length<=sizeLine) (hs:Heap.SameBut C s'.heap h'') :
  Inv X pins σ (upd H' D (.dK kvs)) {s' with heap:=h''}:=by
 have un:Un (frs X.stack) fp H H' s.heap s'.heap:=I'.base
 have hCn:H' C=none:=I'.free
 have at':∀b,b≠C->h''.get? b=s'.heap.get? b:=fun b hb=>hs.2 b hb
 have neC:∀b o,s.heap.get? b=some o->b≠C:=fun b o e=>Nat.ne_of_lt (Nat.lt_of_lt_of_le (Heap.lt_size e) hC)
 have neD:∀b o,s.heap.get? b=some o->b≠D:=fun b o e=>Nat.ne_of_lt (Nat.lt_of_lt_of_le (Heap.lt_size e) hD)
 have okHD:∀b u,H b=some u->b≠D:=fun b u e=>Nat.ne_of_lt (Nat.lt_of_lt_of_le (I.hok.lt e) hD)
 have un':Un (frs X.stack) fp H (upd H' D (.dK kvs)) s.heap h'':=by
  refine⟨fun b o e n h1 h2=>?_,fun b o e n h1 h2=>?_,fun b o e n h2=>?_,fun b o e h2=>?_,fun b xs e=>?_,fun b o u e=>?_,fun b ps e=>?_⟩
  ·rw[at' b (neC b o e)];exact un.keep b o e n h1 h2
  ·rw[at' b (neC b o e)];exact un.slot b o e n h1 h2
  ·rw[upd_ne (neD b o e)];exact un.free b o e n h2
  ·rw[at' b (neC b o e)];exact un.there b o e h2
  ·rw[upd_ne (okHD b _ e)];exact un.tups b xs e
  ·rw[upd_ne (okHD b _ e)];exact un.frzs b o u e
  ·rw[upd_ne (okHD b _ e)];exact un.tbls b ps e
 have hok:HOk X.prog X.w (upd H' D (.dK kvs)) h'':=fun b u e=>by
  by_cases hb:b=D
  ·subst hb
   rw[upd_same]at e
   cases e
   exact⟨hz,beq_eq_false_iff_ne.mpr (Ne.symm (Nat.ne_of_lt (Nat.lt_of_lt_of_le I.big hD))),rs,rv,pl.at fun o e=>by rw[at' b hDC];exact e⟩
  ·rw[upd_ne hb]at e
   refine(I'.hok b u e).stay (fun c v hc q=>?_) (fun c q=>?_) fun c xs q=>?_
   ·rw[at' c ?_];exact q
    rintro rfl
    rcases hc with z|z
    ·rw[←z,hCn]at e;cases e
    ·rw[hCn]at z;cases z
   ·rw[upd_ne (fun z=>by rw[z,hDn]at q;cases q)];exact q
   ·rw[upd_ne (fun z=>by rw[z,hDn]at q;cases q)];exact q
 exact I.call' (s':={s' with heap:=h''}) (ch:=fp) I'.os un' hok I'.bare fun b hb=>⟨(hf b hb).2.2.2.1,(hf b hb).2.1,(hf b hb).2.2.2.2.1,(hf b hb).2.2.2.2.2⟩
end
section
variable {X:Cx}
end
section
variable {g:TG}{tt:TT}{tk tv:TE}{Q:VK}{σ0:St}{H0:Hp}
end
end L2
namespace L2
open PySem
section
variable {K:PySem.W.Frag}{H:Hp}{v:V}
theorem Rp.t1{x:T}(h:Rp K H (.t [x]) v):∃a u,v=.ref a/\SqT K H a [u]/\Rp K H x u:=by
 obtain⟨a,vs,rfl,sq,r⟩:=h.inv_t
 obtain⟨u,q,rfl,g,r2⟩:=r.inv
 obtain rfl:=r2.inv0
 exact⟨a,u,rfl,sq,g⟩
theorem Rp.t2{x y:T}(h:Rp K H (.t [x,y]) v):∃a u1 u2,v=.ref a/\SqT K H a [u1,u2]/\Rp K H x u1/\Rp K H y u2:=by
 obtain⟨a,vs,rfl,sq,r⟩:=h.inv_t
 obtain⟨u,q,rfl,g,r2⟩:=r.inv
 obtain⟨u2,q2,rfl,g2,r3⟩:=r2.inv
 obtain rfl:=r3.inv0
 exact⟨a,u,u2,rfl,sq,g,g2⟩
theorem Rp.t3{x y z:T}(h:Rp K H (.t [x,y,z]) v):∃a u1 u2 u3,v=.ref a/\SqT K H a [u1,u2,u3]/\Rp K H x u1/\Rp K H y u2/\Rp K H z u3:=by
 obtain⟨a,vs,rfl,sq,r⟩:=h.inv_t
 obtain⟨u,q,rfl,g,r2⟩:=r.inv
 obtain⟨u2,q2,rfl,g2,r3⟩:=r2.inv
 obtain⟨u3,q3,rfl,g3,r4⟩:=r3.inv
 obtain rfl:=r4.inv0
 exact⟨a,u,u2,u3,rfl,sq,g,g2,g3⟩
theorem Rp.t4{x y z x4:T}(h:Rp K H (.t [x,y,z,x4]) v):∃a u1 u2 u3 u4,v=.ref a/\SqT K H a [u1,u2,u3,u4]/\Rp K H x u1/\Rp K H y u2/\Rp K H z u3/\Rp K H x4 u4:=by
 obtain⟨a,vs,rfl,sq,r⟩:=h.inv_t
 obtain⟨u,q,rfl,g,r2⟩:=r.inv
 obtain⟨u2,q2,rfl,g2,r3⟩:=r2.inv
 obtain⟨u3,q3,rfl,g3,r4⟩:=r3.inv
 obtain⟨u4,q4,rfl,g4,r5⟩:=r4.inv
 obtain rfl:=r5.inv0
 exact⟨a,u,u2,u3,u4,rfl,sq,g,g2,g3,g4⟩
theorem Rp.t5{x y z x4 x5:T}(h:Rp K H (.t [x,y,z,x4,x5]) v):∃a u1 u2 u3 u4 u5,v=.ref a/\SqT K H a [u1,u2,u3,u4,u5]/\Rp K H x u1/\Rp K H y u2/\Rp K H z u3/\Rp K H x4 u4/\Rp K H x5 u5:=by
 obtain⟨a,vs,rfl,sq,r⟩:=h.inv_t
 obtain⟨u,q,rfl,g,r2⟩:=r.inv
 obtain⟨u2,q2,rfl,g2,r3⟩:=r2.inv
 obtain⟨u3,q3,rfl,g3,r4⟩:=r3.inv
 obtain⟨u4,q4,rfl,g4,r5⟩:=r4.inv
 obtain⟨u5,q5,rfl,g5,r6⟩:=r5.inv
 obtain rfl:=r6.inv0
 exact⟨a,u,u2,u3,u4,u5,rfl,sq,g,g2,g3,g4,g5⟩
end
end L2
namespace L2
open PySem PySem.Spec PyProof.Rows
section
variable {X:Cx}
section
variable {prog:Program}{w:World}{A:Around}{E:Value->Shared->Prop}{s:Shared}
end
theorem pi_tupK{l tg:Expr}{tl:TE}(K:PySem.W.Frag)(hK:X.K=K)(hl:PE X l tl):PI X tg l (iTup K tl):=by subst hK;exact pi_tup hl
end
section
variable {X:Cx}
theorem op_catT0:OpR X (binaryOp .Add) (fun x y H Q=>∃a b ys,x=.ref a/\y=.ref b/\SqT X.K H a []/\SqT X.K H b ys/\Q (.ref b) H):=by
 intro pins s σ H x y u v Q I rx ry h
 obtain⟨a,b,ys,rfl,rfl,ha,hb,q⟩:=h
 cases rx
 cases ry
 obtain⟨its,r1,ht,_⟩:=I.tuple ha
 obtain⟨jts,r2,hb2,_⟩:=I.tuple hb
 cases r1
 obtain⟨⟨cls,dd,data,sl⟩,ho,hc,n,hd⟩:=id ht
 obtain⟨⟨cls2,dd2,data2,sl2⟩,ho2,hc2,n2,hd2⟩:=id hb2
 simp only at hc hd hc2 hd2
 subst hc hd hc2 hd2
 exact concat_meets ⟨_,ho,rfl⟩ ⟨_,ho2,rfl⟩ noFill_tuple_add seq_tuple_add PySem.F.slot_tuple_add PySem.F.entry_tuple_add (PySem.F.args_tuple_add_2 _ _)
   (tuple_addW0 a b _ jts.toArray n n2 dd dd2 sl sl2 (by simp)) ⟨ho,ho2,⟨.ref b,H,I,rfl,q⟩⟩
end
section
variable {X:Cx}
def rCatA(K:PySem.W.Frag):R2:=fun x y H Q=>∃a b xs ys,x=.ref a/\y=.ref b/\SqT K H a xs/\SqT K H b ys/\xs.length+ys.length<=sizeLine/\∀p H',Same H H'->SqT K H' p (xs++ys)->Q (.ref p) H'
theorem op_catTA:OpR X (binaryOp .Add) (rCatA X.K):=by
 intro pins s σ H x y u v Q I rx ry h
 obtain⟨a,b,xs,ys,rfl,rfl,ha,hb,hz,k⟩:=h
 cases xs with
 |nil=>exact op_catT0 pins s σ H _ _ u v Q I rx ry ⟨a,b,ys,rfl,rfl,ha,hb,k b H (Same.refl _) hb⟩
 |cons x r =>
  exact op_catT pins s σ H _ _ u v Q I rx ry ⟨a,b,_,ys,rfl,rfl,ha,hb,(by simp),hz,(fun z=>by subst z;have:=k a H (Same.refl _);rw[List.append_nil]at this;exact this ha),fun _ p hp=>k p _ (same_new hp _) (SqT.of upd_same)⟩
end
end L2
namespace L2
open PySem
structure MSt(K:PySem.W.Frag) (Ps:St->Prop) (H2:Hp) (us:List V) (ys:List T) (σ:St) (H5:Hp):Prop where
 p:Ps σ
 s:Same H2 H5
 r:Rps K H5 ys us
section
variable {K:PySem.W.Frag}{σ0:St}{H0:Hp}{g:TG}{tt:TT}{te:TE}{Q:VK}
theorem fm1_le{α β:Type}{φ:α->List β}(h1:∀p,(φ p).length<=1):∀ps:List α,(ps.flatMap φ).length<=ps.length
 | []=>Nat.zero_le _
 |x::r=>by
  rw[List.flatMap_cons,List.length_append,List.length_cons]
  have:=h1 x
  have:=fm1_le h1 r
  omega
theorem fm_one{α β:Type}(f:α->β):∀l:List α,(l.flatMap fun p=>[f p])=l.map f
 | []=>rfl
 |x::r=>by rw[List.flatMap_cons,fm_one f r];rfl
theorem comp_mapT{α:Type}{e:α->T}{φ:α->List T}{ps:List α}{vs:List V}{a:Addr}(Ps:St->Prop)(hS:SqT K H0 a vs)(hr:Rps K H0 (ps.map e) vs)(hl:ps.length<=900)(h1:∀p,(φ p).length<=1)(h0:Ps σ0)
  (hs:∀p∈ps,∀x σ H2 (N:List V->St->Hp->Prop),Same H0 H2->Ps σ->Rp K H2 (e p) x->(∀us σ2 H5,MSt K Ps H2 us (φ p) σ2 H5->N us σ2 H5)->g x σ H2 fun σ2 H3=>tt σ2 H3 fun ok H4=>if ok=true then te σ2 H4 fun v H5=>N [v] σ2 H5 else N [] σ2 H4)
  (k:∀l H' ws,Same H0 H'->H0 l=none->H' l=some (.lst ws)->Rps K H' (ps.flatMap φ) ws->Q (.ref l) H'):CompW (Itt K a) g tt te Q σ0 H0:=by
 have l:=hr.length
 rw[List.length_map]at l
 refine comp_tup (xs:=vs) (fun i σ us H2=>Ps σ/\Same H0 H2/\Rps K H2 ((ps.take i).flatMap φ) us) ⟨h0,Same.refl _,.nil⟩ ?_ (small (by omega)) ?_ ?_ ?_
 ·rintro i σ us H2 hi ⟨_,_,r⟩
  rw[r.length]
  exact Nat.le_trans (fm1_le h1 _) (by rw[List.length_take];exact Nat.min_le_left _ _)
 ·rintro i σ us H2 hi ⟨_,s,_⟩
  exact hS.same s
 ·rintro i x σ us H2 hx ⟨p,s,r⟩
  obtain⟨y,hy,ry⟩:=hr.get' hx
  rw[List.getElem?_map]at hy
  obtain⟨q,hq,rfl⟩:=Option.map_eq_some_iff.mp hy
  have hil:i<ps.length:=(List.getElem?_eq_some_iff.mp hq).1
  have ep:ps[i]=q:=(List.getElem?_eq_some_iff.mp hq).2
  have z:=hs q (List.mem_of_getElem? hq) x σ H2 (fun ws σ2 H5=>Ps σ2/\Same H0 H5/\Rps K H5 ((ps.take (i+1)).flatMap φ) (us++ws)) s p (ry.same s) fun ws σ2 H5 m=>by
   refine⟨m.p,s.trans m.s,?_⟩
   rw[List.take_succ_eq_append_getElem hil,ep,List.flatMap_append]
   exact(r.same m.s).append (by rw[List.flatMap_cons,List.flatMap_nil,List.append_nil];exact m.r)
  simp only[List.append_nil]at z
  exact z
 ·rintro σ us H2 ⟨_,s,r⟩ p hp
  rw[l,List.take_length]at r
  exact k p _ us (s.trans (same_new hp _)) (s.free hp) upd_same (r.same (same_new hp _))
theorem Rps.strs_inv{H:Hp}:∀{ns:List Str}{vs:List V},Rps K H (ns.map .s) vs->vs=ns.map V.str
 | [],_,h=>h.inv0
 |n::r,_,h=>by
  obtain⟨v,us,rfl,g,h⟩:=Rps.inv (K:=K) (x:=.s n) h
  rw[g.inv_s,strs_inv h]
  rfl
end
structure Frm(M:List Addr) (f:Addr) (H H':Hp):Prop where
 oth:∀b o,b∉M->b≠f->H b=some o->H' b=some o
 kt:Kt H H'
 ff:FeedAt H' f
section
variable {M:List Addr}{f:Addr}{H H1 H2:Hp}
theorem Frm.refl(hf:FeedAt H f):Frm M f H H:=⟨fun _ _ _ _ e=>e,Kt.refl,hf⟩
theorem Frm.ext(a:Frm M f H H1)(e:Ext f H1 H2):Frm M f H H2:=⟨fun b o n1 n2 h=>e.1 b o n2 (a.oth b o n1 n2 h),a.kt.trans (e.kt a.ff),e.2⟩
theorem Frm.same(a:Frm M f H H1)(e:Same H1 H2):Frm M f H H2:=⟨fun b o n1 n2 h=>e b o (a.oth b o n1 n2 h),a.kt.trans (Kt.same e),let⟨p,q,h⟩:=a.ff;⟨p,q,e _ _ h⟩⟩
theorem Frm.trans(a:Frm M f H H1)(b:Frm M f H1 H2):Frm M f H H2:=⟨fun c o n1 n2 h=>b.oth c o n1 n2 (a.oth c o n1 n2 h),a.kt.trans b.kt,b.ff⟩
theorem Frm.upd{l:Addr}{us:List V}{o:HO}(a:Frm M f H H1)(hm:l∈M)(n:l≠f)(h:H1 l=some (.lst us)):Frm M f H (upd H1 l o):=⟨fun b o' n1 n2 e=>by have z:b≠l:=(fun z=>n1 (by rw[z];exact hm));rw[upd_ne z];exact a.oth b o' n1 n2 e,a.kt.trans (Kt.lst h o),let⟨p,q,e⟩:=a.ff;⟨p,q,by rw[upd_ne n.symm];exact e⟩⟩
theorem Frm.updN{l:Addr}{us:List V}{o:HO}(a:Frm M f H H1)(hn:H l=none)(n:l≠f)(h:H1 l=some (.lst us)):Frm M f H (L2.upd H1 l o):=⟨fun b o' n1 n2 e=>by rw[upd_ne (ne_of_none e hn)];exact a.oth b o' n1 n2 e,a.kt.trans (Kt.lst h o),let⟨p,q,e⟩:=a.ff;⟨p,q,by rw[upd_ne n.symm];exact e⟩⟩
theorem Frm.drop{l:Addr}(a:Frm (l::M) f H H1)(hn:H l=none):Frm M f H H1:=⟨fun b o n1 n2 h=>a.oth b o (fun z=>(List.mem_cons.mp z).elim (fun z=>by subst z;rw[hn]at h;cases h) n1) n2 h,a.kt,a.ff⟩
theorem Frm.more{l:Addr}(a:Frm M f H H1):Frm (l::M) f H H1:=⟨fun b o n1 n2 h=>a.oth b o (fun z=>n1 (.tail _ z)) n2 h,a.kt,a.ff⟩
theorem Frm.ex(a:Frm [] f H H1):Ext f H H1:=⟨fun b o n h=>a.oth b o (fun z=>nomatch z) n h,a.ff⟩
theorem Frm.get0(a:Frm [] f H H1){b:Addr}{o:HO}(n:b≠f)(h:H b=some o):H1 b=some o:=a.oth b o (fun z=>nomatch z) n h
theorem Frm.get1{l:Addr}(a:Frm [l] f H H1){b:Addr}{o:HO}(n1:b≠l)(n:b≠f)(h:H b=some o):H1 b=some o:=a.oth b o (fun z=>n1 (List.mem_singleton.mp z)) n h
theorem Frm.free(a:Frm M f H H1){p:Addr}(hp:H1 p=none)(hm:p∉M):H p=none:=by
 cases e:H p with
 |none=>rfl
 |some o =>
  by_cases c:p=f
  ·subst c;obtain⟨x,y,z⟩:=a.ff;rw[z]at hp;cases hp
  ·rw[a.oth p o hm c e]at hp;cases hp
end
theorem cut_takeL(xs:List V)(n:Nat):cutV xs none (some (n:Int))=xs.take n:=by
 unfold cutV
 rw[HT.sIx_nat,HT.sIx_none,List.drop_zero,Nat.sub_zero]
 rcases Nat.le_total n xs.length with h|h
 ·rw[Nat.min_eq_left h]
 ·rw[Nat.min_eq_right h,List.take_of_length_le (Nat.le_refl _),List.take_of_length_le h]
theorem cut_fromL(xs:List V)(j:Nat):cutV xs (some (j:Int)) none=xs.drop j:=by
 unfold cutV
 rw[HT.sIx_nat,HT.sIx_none]
 rcases Nat.le_total j xs.length with h|h
 ·rw[Nat.min_eq_left h,List.take_of_length_le (by rw[List.length_drop];omega)]
 ·rw[Nat.min_eq_right h,List.drop_of_length_le h,List.drop_of_length_le (Nat.le_refl _)];simp
theorem cut_midL(xs:List V)(a b:Nat)(h:b<=xs.length)(hab:a<=b):cutV xs (some (a:Int)) (some (b:Int))=(xs.drop a).take (b-a):=by
 unfold cutV
 rw[HT.sIx_nat,HT.sIx_nat,Nat.min_eq_left h,Nat.min_eq_left (by omega)]
end L2
namespace G24
open PySem L2
inductive Kk|num|kd (x:Str)|op (n:Int)|row (k:Kk)
def kkT:Kk->T
 |.num=>.s "num"
 |.kd x=>.t [.s "kind",.s x]
 |.op n=>.t [.s "open",.i n]
 |.row k=>.t [.s "row",kkT k]
def Kk.dep:Kk->Nat
 |.row k=>k.dep+1
 |_=>0
def Kk.ok(ns:List Str):Kk->Prop
 |.num=>True
 |.kd x=>x∈ns
 |.op _=>False
 |.row k=>k.ok ns
theorem kkT_dep:∀k:Kk,(kkT k).dep<=k.dep+1
 |.num=>dps
 |.kd x=>dpt (d:=0) (dpc dps (dpc dps dpn))
 |.op n=>dpt (d:=0) (dpc dps (dpc dpi dpn))
 |.row k=>dpt (d:=k.dep+1) (dpc dps (dpc (kkT_dep k) dpn))
def Un(xs:List Str):Prop:=∀(i j:Nat) (x:Str),xs[i]?=some x->xs[j]?=some x->i=j
def lets:List Nat:=(Str.ofString "abcdefghijklmnopqrstuvwxyz").cps.toList
theorem lets_un:∀i<26,∀j<26,lets[i]?=lets[j]?->i=j:=by decide +kernel
theorem lets_len:lets.length=26:=by decide +kernel
def Nmd(pre:List Nat)(d:Int)(i:Nat)(x:Str):Prop:=∃c r,atI lets ((d+7*(i:Int)) % 26)=some c/\x.cps.toList=pre++c::r
theorem Nmd.un{pre:List Nat}{d:Int}{i j:Nat}{x:Str}(hi:i<26)(hj:j<26)(a:Nmd pre d i x)(b:Nmd pre d j x):i=j:=by
 obtain⟨c,r,h1,h2⟩:=a
 obtain⟨c',r',h3,h4⟩:=b
 rw[h2]at h4
 have e:=List.append_cancel_left h4
 injection e with e _
 subst e
 have f:∀n:Int,0<=n->n<26->atI lets n=lets[n.toNat]?:=fun n h0 h=>by
  have hk:n.toNat<lets.length:=by rw[lets_len];omega
  have ek:n=((n.toNat:Nat):Int):=by omega
  have q:atI lets ((n.toNat:Nat):Int)=some lets[n.toNat]:=atI_nat (List.getElem?_eq_getElem hk)
  rw[←ek]at q
  rw[q,List.getElem?_eq_getElem hk]
 rw[f _ (by omega) (by omega)]at h1 h3
 have:=lets_un _ (by omega) _ (by omega) (h1.trans h3.symm)
 omega
theorem Nmd.snoc{pre:List Nat}{d:Int}{i:Nat}{x:Str}(a:Nmd pre d i x)(y:Str):Nmd pre d i (x++y):=by
 obtain⟨c,r,h1,h2⟩:=a
 refine⟨c,r++y.cps.toList,h1,?_⟩
 show(x.cps++y.cps).toList=_
 rw[Array.toList_append,h2]
 simp
theorem Nmd.uns{pre:List Nat}{d:Int}{xs:List Str}(hl:xs.length<=26)(h:∀j x,xs[j]?=some x->Nmd pre d j x):Un xs:=fun i j x ei ej=>by
 have:=(List.getElem?_eq_some_iff.mp ei).1
 have:=(List.getElem?_eq_some_iff.mp ej).1
 exact Nmd.un (by omega) (by omega) (h i x ei) (h j x ej)
def Lo(x:Str):Prop:=∀c∈x.cps.toList,c<1000
theorem Lo.append{x y:Str}(a:Lo x)(b:Lo y):Lo (x++y):=fun c h=>by
 have h':c∈(x.cps++y.cps).toList:=h
 rw[Array.toList_append]at h'
 rcases List.mem_append.mp h' with h|h
 ·exact a c h
 ·exact b c h
theorem Lo.slice{x:Str}(a:Lo x)(l u:Option Int):Lo (Txt.slice x l u):=fun c h=>by
 unfold Txt.slice at h
 split at h
 ·exact a c h
 ·rw[List.toList_toArray]at h
  obtain⟨i,_,e⟩:=List.mem_filterMap.mp h
  refine a c ?_
  rw[Array.mem_toList_iff]
  exact Array.mem_of_getElem? e
theorem lets_lo:∀c∈lets,c<1000:=by decide +kernel
theorem Lo.one{c:Nat}(h:c∈lets):Lo ⟨#[c]⟩:=fun d hd=>by
 have:d=c:=by simpa using hd
 rw[this]
 exact lets_lo c h
theorem Lo.q(b:Bool):Lo (Txt.mul "q" (if b then 1 else 0)):=by
 have h:∀b:Bool,((Txt.mul "q" (if b then 1 else 0)).cps.toList.all (· < 1000))=true:=by decide +kernel
 intro c hc
 have:=List.all_eq_true.mp (h b) c hc
 simpa using this
theorem Lo.q1:Lo (Str.ofString "q"):=by
 have h:((Str.ofString "q").cps.toList.all (· < 1000))=true:=by decide +kernel
 intro c hc
 have:=List.all_eq_true.mp h c hc
 simpa using this
def spNames:Sp:=fun vs H Q _=>∃(f:Addr) (m:Nat),vs=[.ref f,.int m]/\1<=m/\m<=26/\FeedAt H f /\
 ∀(r:Addr) (H':Hp) (xs:List Str),Ext f H H'->H r=none->H' r=some (.lst (xs.map V.str))->xs.length=m->(∀x∈xs,x.length<=20/\Lo x)->Un xs->Q (.ref r) H'
theorem Ext.free{f:Addr}{H H':Hp}(e:Ext f H H'){l:Addr}(h:H' l=none):H l=none:=by
 cases q:H l with
 |none=>rfl
 |some o =>
  by_cases n:l=f
  ·subst n;obtain⟨a,b,z⟩:=e.2;rw[h]at z;cases z
  ·rw[e.1 l o n q]at h;cases h
theorem ne_feed{f:Addr}{H:Hp}{xs:List Str}{l:Addr}(hf:FeedAt H f)(h:H l=some (.lst (xs.map V.str))):l≠f:=fun z=>by
 obtain⟨p,q,e⟩:=hf
 rw[←z,h]at e
 injection e with e
 injection e with e
 cases xs with
 |nil=>cases e
 |cons y ys=>rw[List.map_cons]at e;injection e with e;cases e
theorem lst_ne_feed{f:Addr}{H:Hp}{l:Addr}(hf:FeedAt H f)(h:H l=none):l≠f:=fun z=>by
 obtain⟨p,q,e⟩:=hf
 rw[←z,h]at e
 cases e
def spAnyKind(K:PySem.W.Frag)(n:Nat):Sp:=fun vs H Q _=>∃(f l:Addr) (d:Int) (xs:List Str),vs=[.ref f,.ref l,.int d]/\FeedAt H f/\H l=some (.lst (xs.map V.str))/\xs.length<=100/\0<=d/\d<n /\
 ∀(v:V) (H':Hp) (k:Kk),Ext f H H'->Rp K H' (kkT k) v->k.ok xs->k.dep<=d.toNat->Q v H'
section
variable {P:Program}{w:World}{K:PySem.W.Frag}{mg:Str->Option Value}{base:Heap}{gT gA:Addr}{tfd afd:FuncData}
theorem nm_L_any_kind:Nm ["_law_feed_here","_law_known","_law_down","_law_form"] (defScope s_L_any_kind):=by decide +kernel
theorem lm_L_any_kind:Lm ["_law_feed_here","_law_known","_law_down","_law_form"] (defScope s_L_any_kind):=by decide +kernel
theorem sc_L_any_kind:FnScope ["_law_feed_here","_law_known","_law_down","_law_form"] ["_law_feed_here","_law_known","_law_down"] (defScope s_L_any_kind):=⟨rfl,rfl,rfl,by decide +kernel,rfl,by decide +kernel,by decide +kernel⟩
theorem ok_any_kind{f:Addr}{fd:FuncData}{n j:Nat}(hj:1<=j)(F:Fun K "_law_any_kind" "_law_any_kind" s_L_any_kind f fd)(TK:Has P w K mg base "_law_take" 1 ["_law_feed_here","_law_many"] spTake gT tfd)(AK:Has P w K mg base "_law_any_kind" j ["_law_feed_here","_law_known","_law_down"] (spAnyKind K n) gA afd)(z_len:mg "len"=none):FnOk P w K mg base CX0 (j+1) f fd ["_law_feed_here","_law_known","_law_down"] (spAnyKind K (n+1)):=by
 refine F.ok sc_L_any_kind (fun vs H Q E h=>?_) (fun cdv A outer s H vs Q E hr h=>?_)
 ·obtain⟨_,_,_,_,rfl,_⟩:=h
  rfl
 obtain⟨fe,l,d,xs,rfl,hf,hl,hx,hd0,hd,k⟩:=h
 refine⟨_,(@pss_cons _ _ _ _ _ (@sa _ _ _ _ _ _ sc_L_any_kind.nd lm_L_any_kind 3 (@pe_call _ _ _ _ _ _ _ _ _ _ _ _ _ _ _ _ TK.ok (hr.mono (by omega)) (by show _=_;kernel_rfl) TK.at' TK.kp TK.bd .nil pass0 (pa_c (va nm_L_any_kind 0) (pa_c pe_int pa_nil)) (by decide) (by rfl) (by rfl)) (by rfl) (by kernel_rfl) (by exact .inl rfl)) (@pss_cons _ _ _ _ _ (@ps_if _ _ _ _ _ _ _ _ (PW.pt (@pw_and _ _ _ _ _ _ _ (pt_cmpR op_eq (va nm_L_any_kind 3) pe_int (nomark _)) (@pw_and1 _ _ _ _ (pt_cmpR op_gt (va nm_L_any_kind 2) pe_int (nomark _))))) (@pss_one _ _ _ (@ps_ret _ _ _ _ (@pe_tup _ _ _ _ _ (@pa_c _ _ _ _ _ pe_str (@pa_c _ _ _ _ _ (@pe_call _ _ _ _ _ _ _ _ _ _ _ _ _ _ _ _ AK.ok (hr.mono (by omega)) (by show _=_;kernel_rfl) AK.at' AK.kp AK.bd .nil pass0 (@pa_c _ _ _ _ _ (va nm_L_any_kind 0) (@pa_c _ _ _ _ _ (va nm_L_any_kind 1) (@pa_c _ _ _ _ _ (pe_op op_sub (va nm_L_any_kind 2) pe_int) pa_nil (by rfl)) (by rfl)) (by rfl)) (by decide) (by rfl) (by rfl)) pa_nil (by rfl)) (by rfl))))) pss_nil) (@pss_cons _ _ _ _ _ (@ps_if _ _ _ _ _ _ _ _ (PW.pt (@pw_and _ _ _ _ _ _ _ (pt_cmpR op_gt (va nm_L_any_kind 3) pe_int (nomark _)) (@pw_and1 _ _ _ _ (@pt_cmpR _ _ _ _ _ _ _ _ op_gt (@pe_callB _ _ _ _ _ _ _ _ _ call_len_seq (by show _=_;kernel_rfl) z_len PySem.boot_len (pa_c (va nm_L_any_kind 1) pa_nil) (by decide) (by decide) (by rfl) (by rfl)) pe_int (nomark _))))) (@pss_one _ _ _ (@ps_ret _ _ _ _ (@pe_tup _ _ _ _ _ (@pa_c _ _ _ _ _ pe_str (@pa_c _ _ _ _ _ (@pe_ix _ _ _ _ _ _ _ ix_list (va nm_L_any_kind 1) (@pe_call _ _ _ _ _ _ _ _ _ _ _ _ _ _ _ _ TK.ok (hr.mono (by omega)) (by show _=_;kernel_rfl) TK.at' TK.kp TK.bd .nil pass0 (@pa_c _ _ _ _ _ (va nm_L_any_kind 0) (@pa_c _ _ _ _ _ (@pe_callB _ _ _ _ _ _ _ _ _ call_len_seq (by show _=_;kernel_rfl) z_len PySem.boot_len (pa_c (va nm_L_any_kind 1) pa_nil) (by decide) (by decide) (by rfl) (by rfl)) pa_nil (by rfl)) (by rfl)) (by decide) (by rfl) (by rfl)) (fun _ _=>rfl)) pa_nil (by rfl)) (by rfl))))) pss_nil) (pss_one (ps_ret pe_str))))),?_⟩
 try dsimp only[cx_K]
 try dsimp only[cx_K]
 refine seq_cut3 ?_
 intro N1 N2 N3 c1 c2 c3
 fail "R"
 intro fm H1 fm0 fm1 x1
 have hl1:=x1.1 _ _ (ne_feed hf hl) hl
 have hf1:=x1.2
 have rest2:N3 [some (.ref fe),some (.ref l),some (.int d),some (.int fm)] H1:=by
  fail "R"
  exact k _ _ .num x1 .s True.intro (Nat.zero_le _)
 have rest:N2 [some (.ref fe),some (.ref l),some (.int d),some (.int fm)] H1:=by
  clear c3
  fail "R"
  refine ite2 (fun c=>?_) (fun c=>?_)
  ·fail "R"
   refine ite2 (fun c2=>?_) (fun c2=>?_)
   ·have c2':(0:Int)<((xs.map V.str).length:Int):=of_decide_eq_true c2
    have ll2:((xs.map V.str).length:Int)<1073741824:=by rw[List.length_map];omega
    fail "R"
    intro r5 H5 r50 r51 x5
    have h5:=x5.1 _ _ (ne_feed hf1 hl1) hl1
    obtain⟨v5,hv5,hm5⟩:=atI_of (xs:=xs.map V.str) r50 r51
    obtain⟨y5,hy5,rfl⟩:=List.mem_map.mp hm5
    fail "R"
    intro p6 hp6
    have s6:=same_new hp6 (.tup [.str "kind",.str y5])
    exact k _ _ (.kd y5) (x1.trans (x5.same s6)) (Rp.t (SqT.of upd_same) (.cons .s (.one .s))) hy5 (Nat.zero_le _)
   ·fail "R"
    exact rest2
  ·fail "R"
   exact rest2
 clear c3 c2
 fail "R"
 refine ite2 (fun c=>?_) (fun c=>?_)
 ·fail "R"
  refine ite2 (fun c2=>?_) (fun c2=>?_)
  ·have c3:(0:Int)<d:=of_decide_eq_true c2
   fail "R"
   intro v3 H3 k3 x3 r3 o3 d3
   fail "R"
   intro p6 hp6
   have s6:=same_new hp6 (.tup [.str "row",v3])
   exact k _ _ (.row k3) (x1.trans (x3.same s6)) (Rp.new (K:=K) hp6 (.cons .s (.one r3))) o3 (by show k3.dep+1<=_;omega)
  ·fail "R"
   exact rest
 ·fail "R"
  exact rest
end
def tagT(t:Str×List Kk):T:=.t [.s t.1,.t (t.2.map kkT)]
def kinT(k:Str×List (Str×List Kk)):T:=.t [.s k.1,.t (k.2.map tagT)]
def kindsT(kl:List (Str×List (Str×List Kk))):T:=.t (kl.map kinT)
def tgNm(kl:List (Str×List (Str×List Kk))):List Str:=kl.flatMap fun k=>k.2.map (·.1)
def TgOk(xs:List Str)(t:Str×List Kk):Prop:=t.2.length<=2/\∀c∈t.2,c.ok xs/\c.dep<=2
structure KlOk(xs ts:List Str) (kl:List (Str×List (Str×List Kk))):Prop where
 nm:kl.map (·.1)=xs.take kl.length
 tg:tgNm kl=ts.take (tgNm kl).length
 pt:∀i k,kl[i]?=some k->1<=k.2.length/\k.2.length<=3/\∀t∈k.2,TgOk (xs.take i) t
def spKinds(K:PySem.W.Frag):Sp:=fun vs H Q _=>∃(f ln lt:Addr) (xs ts:List Str),vs=[.ref f,.ref ln,.ref lt]/\FeedAt H f/\H ln=some (.lst (xs.map V.str))/\H lt=some (.lst (ts.map V.str))/\xs.length=3/\ts.length=9 /\
 ∀(v:V) (H':Hp) (kl:List (Str×List (Str×List Kk))),Ext f H H'->KlOk xs ts kl->kl.length<=3->Rp K H' (kindsT kl) v->Q v H'
structure KO(K:PySem.W.Frag) (f lf:Addr) (xs ts:List Str) (H:Hp) (i:Nat) (at_:Int) (H':Hp):Prop where
 x:∃(kl:List (Str×List (Str×List Kk))) (vs:List V),Frm [] f H H'/\H' lf=some (.lst vs)/\Rps K H' (kl.map kinT) vs/\kl.length=i/\KlOk xs ts kl/\at_=(tgNm kl).length/\(tgNm kl).length<=3*i
structure KJ(K:PySem.W.Frag) (f lo:Addr) (xs ts:List Str) (H:Hp) (i at0 j:Nat) (at_:Int) (H':Hp):Prop where
 x:∃(own:List (Str×List Kk)) (us:List V),Frm [lo] f H H'/\H' lo=some (.lst us)/\Rps K H' (own.map tagT) us/\own.length=j/\own.map (·.1)=(ts.drop at0).take j/\(∀t∈own,TgOk (xs.take i) t)/\at_=at0+j
structure KP(K:PySem.W.Frag) (f:Addr) (xs:List Str) (H:Hp) (i:Nat) (us:List V) (H':Hp):Prop where
 x:∃(ps:List Kk),Frm [] f H H'/\Rps K H' (ps.map kkT) us/\ps.length=i/\∀c∈ps,c.ok xs/\c.dep<=2
section
variable {P:Program}{w:World}{K:PySem.W.Frag}{mg:Str->Option Value}{base:Heap}{gT gA:Addr}{tfd afd:FuncData}
theorem nm_L_kinds:Nm ["_law_feed_here","_law_names_here","_law_tags","_law_found","_law_at","_law_k","_law_own","_law_j","_law_parts_here"] (defScope s_L_kinds):=by decide +kernel
theorem lm_L_kinds:Lm ["_law_feed_here","_law_names_here","_law_tags","_law_found","_law_at","_law_k","_law_own","_law_j","_law_parts_here"] (defScope s_L_kinds):=by decide +kernel
theorem sc_L_kinds:FnScope ["_law_feed_here","_law_names_here","_law_tags","_law_found","_law_at","_law_k","_law_own","_law_j","_law_parts_here"] ["_law_feed_here","_law_names_here","_law_tags"] (defScope s_L_kinds):=⟨rfl,rfl,rfl,by decide +kernel,rfl,by decide +kernel,by decide +kernel⟩
theorem ok_kinds{f:Addr}{fd:FuncData}{j:Nat}(hj:1<=j)(F:Fun K "_law_kinds" "_law_kinds" s_L_kinds f fd)(TK:Has P w K mg base "_law_take" 1 ["_law_feed_here","_law_many"] spTake gT tfd)(AK:Has P w K mg base "_law_any_kind" j ["_law_feed_here","_law_known","_law_down"] (spAnyKind K 3) gA afd)(z_range:mg "range"=none)(z_tuple:mg "tuple"=none):FnOk P w K mg base CX0 (j+1) f fd ["_law_feed_here","_law_names_here","_law_tags"] (spKinds K):=by
 refine F.ok sc_L_kinds (fun vs H Q E h=>?_) (fun cdv A outer s H vs Q E hr h=>?_)
 ·obtain⟨_,_,_,_,_,rfl,_⟩:=h
  rfl
 obtain⟨fe,ln,lt,xs,ts,rfl,hf,hn,ht,hx,ht9,k⟩:=h
 refine⟨_,(@pss_cons _ _ _ _ _ (sa sc_L_kinds.nd lm_L_kinds 3 (pe_lst pa_nil)) (@pss_cons _ _ _ _ _ (sa sc_L_kinds.nd lm_L_kinds 4 pe_int) (@pss_cons _ _ _ _ _ (@ps_for _ _ _ _ _ _ _ _ PassesOwn.never rfl (@pi_range1 _ _ _ _ _ _ (by show _=_;kernel_rfl) z_range (@pa_c _ _ _ _ _ (@pe_call _ _ _ _ _ _ _ _ _ _ _ _ _ _ _ _ TK.ok (hr.mono (by omega)) (by show _=_;kernel_rfl) TK.at' TK.kp TK.bd .nil pass0 (pa_c (va nm_L_kinds 0) (pa_c pe_int pa_nil)) (by decide) (by rfl) (by rfl)) pa_nil (by rfl)) (by rfl)) (ga sc_L_kinds.nd lm_L_kinds 5) (@pss_cons _ _ _ _ _ (sa sc_L_kinds.nd lm_L_kinds 6 (pe_lst pa_nil)) (@pss_cons _ _ _ _ _ (@ps_for _ _ _ _ _ _ _ _ PassesOwn.never rfl (@pi_range1 _ _ _ _ _ _ (by show _=_;kernel_rfl) z_range (@pa_c _ _ _ _ _ (@pe_op _ _ _ _ _ _ _ _ op_add pe_int (@pe_call _ _ _ _ _ _ _ _ _ _ _ _ _ _ _ _ TK.ok (hr.mono (by omega)) (by show _=_;kernel_rfl) TK.at' TK.kp TK.bd .nil pass0 (pa_c (va nm_L_kinds 0) (pa_c pe_int pa_nil)) (by decide) (by rfl) (by rfl))) pa_nil (by rfl)) (by rfl)) (ga sc_L_kinds.nd lm_L_kinds 7) (@pss_cons _ _ _ _ _ (@ps_compC _ _ _ _ _ _ _ _ _ _ _ _ _ _ _ (defScope s_L_kinds) ["_law_feed_here","_law_names_here","_law_tags","_law_found","_law_at","_law_k","_law_own","_law_j","_law_parts_here"] ["_law_i"] [0,1,5] rfl rfl rfl (by decide +kernel) (@pi_range1 _ _ _ _ _ _ (by show _=_;kernel_rfl) z_range (@pa_c _ _ _ _ _ (@pe_call _ _ _ _ _ _ _ _ _ _ _ _ _ _ _ _ TK.ok (hr.mono (by omega)) (by show _=_;kernel_rfl) TK.at' TK.kp TK.bd .nil pass0 (pa_c (va nm_L_kinds 0) (pa_c pe_int pa_nil)) (by decide) (by rfl) (by rfl)) pa_nil (by rfl)) (by rfl)) (fun _ _ _ _=>(pg_name (i:=0) (show(["_law_i","_law_feed_here","_law_names_here","_law_k"]:List Str).Nodup by decide +kernel) rfl (Or.inl (by kernel_rfl)) (by first|exact .inl rfl|exact .inr (by kernel_rfl)))) (fun _ _ _ _=>pifs_nil) (fun _ _ _ _=>(@pe_call _ _ _ _ _ _ _ _ _ _ _ _ _ _ _ _ AK.ok (hr.mono (by omega)) (by show _=_;kernel_rfl) AK.at' AK.kp AK.bd .nil pass0 (@pa_c _ _ _ _ _ (va (show Nm ["_law_i","_law_feed_here","_law_names_here","_law_k"] _ by show _=_;kernel_rfl) 1) (@pa_c _ _ _ _ _ (@pe_slice _ _ _ _ _ _ _ _ _ _ (sl_listK K rfl) (va (show Nm ["_law_i","_law_feed_here","_law_names_here","_law_k"] _ by show _=_;kernel_rfl) 2) po_none (po_some (va (show Nm ["_law_i","_law_feed_here","_law_names_here","_law_k"] _ by show _=_;kernel_rfl) 3))) (pa_c pe_int pa_nil) (by rfl)) (by rfl)) (by decide) (by rfl) (by rfl))) (ga sc_L_kinds.nd lm_L_kinds 8) (by kernel_rfl) (by intro _;rfl)) (@pss_cons _ _ _ _ _ (@ps_expr _ _ _ _ (@pe_bm _ _ _ _ _ _ _ _ _ _ _ _ PySem.F.plainAttrs_list PySem.F.slot_list_append PySem.F.type_list_append mt_append (va nm_L_kinds 6) (@pa_c _ _ _ _ _ (@pe_tup _ _ _ _ _ (@pa_c _ _ _ _ _ (pe_ix ix_list (va nm_L_kinds 2) (va nm_L_kinds 4) (fun _ _=>rfl)) (@pa_c _ _ _ _ _ (@pe_callTy _ _ _ _ _ _ _ _ _ call_tuple_of (by show _=_;kernel_rfl) z_tuple PyProof.Rows.boot_tuple (pa_c (va nm_L_kinds 8) pa_nil) (by decide) (by decide) (by rfl) (by rfl)) pa_nil (by rfl)) (by rfl))) pa_nil (by rfl)) (by rfl) (by rfl) (by rfl) (by rfl) (by rfl)) (by rfl)) (@pss_one _ _ _ (@sa _ _ _ _ _ _ sc_L_kinds.nd lm_L_kinds 4 (pe_op op_add (va nm_L_kinds 4) pe_int) (by rfl) (by kernel_rfl) (by exact .inl rfl))))) (by intro _;rfl)) (@pss_one _ _ _ (@ps_expr _ _ _ _ (@pe_bm _ _ _ _ _ _ _ _ _ _ _ _ PySem.F.plainAttrs_list PySem.F.slot_list_append PySem.F.type_list_append mt_append (va nm_L_kinds 3) (@pa_c _ _ _ _ _ (@pe_tup _ _ _ _ _ (@pa_c _ _ _ _ _ (pe_ix ix_list (va nm_L_kinds 1) (va nm_L_kinds 5) (fun _ _=>rfl)) (@pa_c _ _ _ _ _ (@pe_callTy _ _ _ _ _ _ _ _ _ call_tuple_of (by show _=_;kernel_rfl) z_tuple PyProof.Rows.boot_tuple (pa_c (va nm_L_kinds 6) pa_nil) (by decide) (by decide) (by rfl) (by rfl)) pa_nil (by rfl)) (by rfl))) pa_nil (by rfl)) (by rfl) (by rfl) (by rfl) (by rfl) (by rfl)) (by rfl))))) (by intro _;rfl)) (@pss_one _ _ _ (@ps_ret _ _ _ _ (@pe_callTy _ _ _ _ _ _ _ _ _ call_tuple_of (by show _=_;kernel_rfl) z_tuple PyProof.Rows.boot_tuple (pa_c (va nm_L_kinds 3) pa_nil) (by decide) (by decide) (by rfl) (by rfl))))))),?_⟩
 try dsimp only[cx_K]
 try dsimp only[cx_K]
 fail "R"
 intro lf hlf
 have s1:=same_new hlf (.lst [])
 have h1:upd H lf (.lst []) lf=some (.lst []):=upd_same
 generalize upd H lf (.lst [])=H1 at s1 h1⊢
 have f1:Frm [] fe H H1:=(Frm.refl hf).same s1
 have hf1:=f1.ff
 fail "R"
 intro m H2 m0 m1 x2
 have f2:=f1.ext x2
 have h2:=x2.1 _ _ (lst_ne_feed hf hlf) h1
 have nlf:=lst_ne_feed hf hlf
 have nln:=ne_feed hf hn
 have nlt:=ne_feed hf ht
 fail "R"
 refine for_range (n:=m.toNat) (fun i σ H3=>(∃(at_:Int) (y5 y6 y7 y8:Option V),σ=[some (.ref fe),some (.ref ln),some (.ref lt),some (.ref lf),some (.int at_),y5,y6,y7,y8]/\KO K fe lf xs ts H i at_ H3)) ⟨0,_,_,_,_,rfl,⟨[],[],f2,h2,.nil,rfl,⟨rfl,rfl,fun i k h=>by cases h⟩,rfl,Nat.zero_le _⟩⟩ ?_ ?_
 ·rintro i σ H3 hi ⟨at_,_,_,_,_,rfl,⟨kl,vs,f3,h3,r3,lk,ok,ha,ha3⟩⟩
  have hf3:=f3.ff
  fail "R"
  intro lo hlo
  have s4:=same_new hlo (.lst [])
  have h4:upd H3 lo (.lst []) lo=some (.lst []):=upd_same
  generalize upd H3 lo (.lst [])=H4 at s4 h4⊢
  have f4:=f3.same s4
  have hf4:=f4.ff
  fail "R"
  intro m5 H5 m50 m51 x5
  have f5:=f4.ext x5
  have nlo:=lst_ne_feed hf3 hlo
  have nlolf:lf≠lo:=ne_of_none h3 hlo
  have h5:=x5.1 _ _ nlo h4
  have h5f:=x5.1 _ _ nlf (s4 _ _ h3)
  have r5:=(r3.same s4).kt (x5.kt hf4)
  fail "R"
  refine for_range (n:=(1+m5).toNat) (fun j σ H6=>(∃(at_:Int) (y7 y8:Option V),σ=[some (.ref fe),some (.ref ln),some (.ref lt),some (.ref lf),some (.int at_),some (.int (0+(i:Int))),some (.ref lo),y7,y8]/\KJ K fe lo xs ts H5 i (tgNm kl).length j at_ H6)) ⟨at_,_,_,rfl,⟨[],[],Frm.refl f5.ff,h5,.nil,rfl,rfl,fun t h=>(nomatch h),by omega⟩⟩ ?_ ?_
  ·rintro j σ H6 hj ⟨at2,_,_,rfl,⟨own,us,f6,h6,r6,lo6,on6,ok6,ha6⟩⟩
   have hf6:=f6.ff
   fail "R"
   intro m7 H7 m70 m71 x7
   have f7:=f6.ext x7
   fail "R"
   refine comp_range (n:=m7.toNat) (fun i7 σ us H8=>(∃y,σ=[y,some (.ref fe),some (.ref ln),some (.int (0+(i:Int)))])/\KP K fe (xs.take i) H7 i7 us H8) ⟨⟨_,rfl⟩,⟨[],Frm.refl x7.2,.nil,rfl,fun c h=>by cases h⟩⟩ ?_ (small (by omega)) ?_ ?_
   ·rintro i7 σ us H8 h ⟨_,⟨ps,_,r,e,_⟩⟩
    rw[r.length,List.length_map,e];exact Nat.le_refl _
   ·rintro i7 σ us7 H8 hi7 ⟨⟨_,rfl⟩,⟨ps,f8,r8,l8,o8⟩⟩
    have hn8:H8 ln=some (.lst (xs.map V.str)):=f8.get0 nln (f7.get1 (ne_of_none (f3.get0 nln hn) hlo) nln (x5.1 _ _ nln (s4 _ _ (f3.get0 nln hn))))
    have hf8:=f8.ff
    have e0:cutV (xs.map V.str) none (some (0+(i:Int)))=(xs.take i).map V.str:=by rw[Int.zero_add,cut_takeL,List.map_take]
    fail "R"
    intro l9 hl9
    rw[e0]
    have s9:=same_new hl9 (.lst ((xs.take i).map V.str))
    have h9:upd H8 l9 (.lst ((xs.take i).map V.str)) l9=some (.lst ((xs.take i).map V.str)):=upd_same
    generalize upd H8 l9 (.lst ((xs.take i).map V.str))=H9 at s9 h9⊢
    have f9:=f8.same s9
    have hf9:=f9.ff
    have lx9:(xs.take i).length<=100:=by rw[List.length_take];omega
    fail "R"
    intro v10 H10 k10 x10 r10 o10 d10
    fail "R"
    exact⟨ps++[k10],f9.ext x10,by rw[List.map_append];exact((r8.same s9).kt (x10.kt hf9)).snoc r10,by rw[List.length_append,l8];rfl,fun c hc=>(List.mem_append.mp hc).elim (o8 c) (fun h=>by rw[List.mem_singleton.mp h];exact⟨o10,d10⟩)⟩
   ·rintro σ us7 H8 ⟨⟨_,rfl⟩,⟨ps,f8,r8,l8,o8⟩⟩ p9 hp9
    have s9:=same_new hp9 (.lst us7)
    have h9:upd H8 p9 (.lst us7) p9=some (.lst us7):=upd_same
    have r9:=r8.same s9
    generalize upd H8 p9 (.lst us7)=H9 at s9 h9 r9⊢
    have f9:=f8.same s9
    have nlo9:H9 lo=some (.lst us):=f9.get0 nlo (x7.1 _ _ nlo h6)
    have lus:us.length<sizeLine:=small1000 (by rw[r6.length,List.length_map];omega)
    have ht9':H9 lt=some (.lst (ts.map V.str)):=f9.get0 nlt (f7.get1 (ne_of_none (f3.get0 nlt ht) hlo) nlt (x5.1 _ _ nlt (s4 _ _ (f3.get0 nlt ht))))
    have hat:at2.toNat<ts.length:=by omega
    have hat2:atI (ts.map V.str) at2=some (.str ts[at2.toNat]):=by
     have:=atI_nat (xs:=ts.map V.str) (j:=at2.toNat) (v:=.str ts[at2.toNat]) (by rw[List.getElem?_map,List.getElem?_eq_getElem hat];rfl)
     rw[show((at2.toNat:Nat):Int)=at2 by omega]at this
     exact this
    fail "R"
    refine .inl ⟨SqL.of h9,fun p10 hp10=>?_⟩
    have s10:=same_new hp10 (.tup us7)
    have r10:=Rp.new (K:=K) hp10 r9
    have n10:=s10 _ _ nlo9
    generalize upd H9 p10 (.tup us7)=H10 at s10 r10 n10⊢
    fail "R"
    intro p11 hp11
    have s11:=same_new hp11 (.tup [.str ts[at2.toNat],.ref p10])
    have r11:=Rp.new (K:=K) (xs:=[.s ts[at2.toNat],.t (ps.map kkT)]) hp11 (.cons .s (.one r10))
    have n11:=s11 _ _ n10
    generalize upd H10 p11 (.tup [.str ts[at2.toNat],.ref p10])=H11 at s11 r11 n11⊢
    have f11:=(f9.same s10).same s11
    have g11:Frm [lo] fe H5 H11:=f7.trans f11.more
    have k11:=Kt.lst (l:=lo) n11 (.lst (us++[.ref p11]))
    fail "R"
    refine⟨own++[(ts[at2.toNat],ps)],us++[.ref p11],g11.upd (List.mem_singleton.mpr rfl) nlo n11,upd_same,?_,by rw[List.length_append,lo6];rfl,?_,fun t hm=>(List.mem_append.mp hm).elim (ok6 t) (fun h=>by rw[List.mem_singleton.mp h];exact⟨by show ps.length<=2;omega,o8⟩),by omega⟩
    ·rw[List.map_append]
     exact(((r6.kt (x7.kt hf6)).kt f11.kt).kt k11).snoc (r11.kt k11)
    ·rw[List.map_append,on6,List.take_succ_eq_append_getElem (by rw[List.length_drop];omega),List.getElem_drop]
     have ei:at2.toNat=(tgNm kl).length+j:=by omega
     simp only[ei]
     rfl
  ·rintro σ H6 ⟨at2,_,_,rfl,⟨own,us,f6,h6,r6,lo6,on6,ok6,ha6⟩⟩
   have h6f:=f6.get1 nlolf nlf h5f
   have r6k:=r5.kt f6.kt
   have hn6:H6 ln=some (.lst (xs.map V.str)):=f6.get1 (ne_of_none (f3.get0 nln hn) hlo) nln (x5.1 _ _ nln (s4 _ _ (f3.get0 nln hn)))
   have lvs:vs.length<sizeLine:=small1000 (by rw[r3.length,List.length_map];omega)
   have hil:i<xs.length:=by omega
   have hat2:atI (xs.map V.str) (0+(i:Int))=some (.str xs[i]):=by
    rw[Int.zero_add]
    exact atI_nat (by rw[List.getElem?_map,List.getElem?_eq_getElem hil];rfl)
   fail "R"
   refine .inl ⟨SqL.of h6,fun p10 hp10=>?_⟩
   have s10:=same_new hp10 (.tup us)
   have r10:=Rp.new (K:=K) hp10 r6
   have n10:=s10 _ _ h6f
   generalize upd H6 p10 (.tup us)=H10 at s10 r10 n10⊢
   fail "R"
   intro p11 hp11
   have s11:=same_new hp11 (.tup [.str xs[i],.ref p10])
   have r11:=Rp.new (K:=K) (xs:=[.s xs[i],.t (own.map tagT)]) hp11 (.cons .s (.one r10))
   have n11:=s11 _ _ n10
   generalize upd H10 p11 (.tup [.str xs[i],.ref p10])=H11 at s11 r11 n11⊢
   have f11:Frm [] fe H H11:=((f5.more.trans f6).drop (f3.free hlo (fun z=>nomatch z))).same (s10.trans s11)
   have k11:=Kt.lst (l:=lf) n11 (.lst (vs++[.ref p11]))
   fail "R"
   have et:tgNm (kl++[(xs[i],own)])=tgNm kl++own.map (·.1):=by
    unfold tgNm
    rw[List.flatMap_append]
    simp
   have lom:(own.map (·.1)).length=own.length:=List.length_map _
   refine⟨kl++[(xs[i],own)],vs++[.ref p11],f11.updN hlf nlf n11,upd_same,?_,by rw[List.length_append,lk];rfl,⟨?_,?_,?_⟩,?_,?_⟩
   ·rw[List.map_append]
    exact((r6k.same (s10.trans s11)).kt k11).snoc (r11.kt k11)
   ·rw[List.map_append,ok.nm,List.length_append,lk,show [(xs[i],own)].length=1 from rfl,List.take_succ_eq_append_getElem hil]
    rfl
   ·rw[et,List.length_append,lom,on6,ok.tg,List.length_take,Nat.min_eq_left (by omega)]
    conv=>lhs;rw[lo6.symm]
    rw[List.take_add]
   ·intro i' k' e'
    by_cases c:i' < kl.length
    ·rw[List.getElem?_append_left c]at e';exact ok.pt i' k' e'
    ·rw[List.getElem?_append_right (by omega)]at e'
     have:i'=i:=by
      have:=(List.getElem?_eq_some_iff.mp e').1
      have:[(xs[i],own)].length=1:=rfl
      omega
     subst this
     rw[lk,Nat.sub_self]at e'
     cases e'
     exact⟨by show 1<=own.length;omega,by show own.length<=3;omega,ok6⟩
   ·rw[et,List.length_append,lom];omega
   ·rw[et,List.length_append,lom];omega
 ·rintro σ H3 ⟨at_,_,_,_,_,rfl,⟨kl,vs,f3,h3,r3,lk,ok,ha,ha3⟩⟩
  fail "R"
  refine .inl ⟨SqL.of h3,fun p10 hp10=>?_⟩
  have s10:=same_new hp10 (.tup vs)
  exact k _ _ kl (f3.same s10).ex ok (by omega) (Rp.new (K:=K) hp10 r3)
end
end G24
namespace L2
open PySem PySem.Spec PyProof.Rows
section
variable {prog:Program}{w:World}{A:Around}{R:Result->Shared->Prop}{s:Shared}
theorem turn_out(kx vx t1 i1 t2 i2:Expr)(scope:Scope)(pos:Pos)(it:Value)(D:Addr)(env:Env):compTurn (.DictComp kx vx [⟨t1,i1,[],0⟩,⟨t2,i2,[],0⟩] scope pos) 0 it (.ref D) env=(do
  standAt i1.pos
  match←pyNext it with
  |none=>pure (.done .next)
  |some v =>
   letOwnedTupleGo t1 it v
   assign t1 env v
   let x ←eval i2 env
   standAt i2.pos
   let x ←foldedSetIterable i2 env x
   let _ ←runOwn (.compStart (.DictComp kx vx [⟨t1,i1,[],0⟩,⟨t2,i2,[],0⟩] scope pos) 1 (←holding [x] (pyIter x)) (.ref D) env) env
   again (.compLoop (.DictComp kx vx [⟨t1,i1,[],0⟩,⟨t2,i2,[],0⟩] scope pos) 0 it (.ref D) env)):=by
 rfl
theorem turn_in(kx vx t1 i1 t2 i2:Expr)(scope:Scope)(pos:Pos)(it:Value)(D:Addr)(env:Env):compTurn (.DictComp kx vx [⟨t1,i1,[],0⟩,⟨t2,i2,[],0⟩] scope pos) 1 it (.ref D) env=(do
  standAt i2.pos
  match←pyNext it with
  |none=>pure (.done .next)
  |some v =>
   letOwnedTupleGo t2 it v
   assign t2 env v
   (do
    let kv ←eval kx env
    let vv ←holding [kv] (eval vx env)
    standAt {kx.pos with endLine:=vx.pos.endLine,endCol:=vx.pos.endCol}
    holding [kv,vv] (dictSet D kv vv))
   again (.compLoop (.DictComp kx vx [⟨t1,i1,[],0⟩,⟨t2,i2,[],0⟩] scope pos) 1 it (.ref D) env)):=by
 rfl
abbrev E_:Value->Shared->Prop:=fun _ _=>False
theorem loop_in{kx vx t1 i1 t2 i2:Expr}{scope:Scope}{pos:Pos}{it:Value}{D:Addr}{env:Env}(I:Nat->Shared->Prop)
  (turn:∀n s,I n s->wpAny (model prog w) A (pyNext it) (fun r s1=>match r with
   |none=>R (.ok .next) s1
   |some v=>wpAny (model prog w) A (letOwnedTupleGo t2 it v) (fun _ s2=>wpAny (model prog w) A (assign t2 env v) (fun _ s3 =>
     wpAny (model prog w) A (eval kx env) (fun x s4=>wpAny (model prog w) A (eval vx env) (fun y s5 =>
      wpAny (model prog w) A (dictSet D x y) (fun _ s6=>∃m,m<n/\I m s6) E_ s5) E_ s4) E_ s3) E_ s2) E_ s1) E_ s)
  (n:Nat) (h:I n s):codeAny (model prog w) A (.compLoop (.DictComp kx vx [⟨t1,i1,[],0⟩,⟨t2,i2,[],0⟩] scope pos) 1 it (.ref D) env) R s:=by
 refine codeAny_loop rfl I (fun n s q=>?_) n h
 show wpAny _ A ((compTurn (.DictComp kx vx [⟨t1,i1,[],0⟩,⟨t2,i2,[],0⟩] scope pos) 1 it (.ref D) env).onRaise _) _ _ s
 refine wpAny_noted ?_
 rw[turn_in]
 refine wpAny_bind (wpAny_standAt (wpAny_bind (wpAny_mono (turn n s q) (fun r s1 q1=>?_) fun _ _ z=>z.elim)))
 cases r with
 |none=>exact wpAny_pure q1
 |some v =>
  refine wpAny_bind (wpAny_mono q1 (fun _ s2 q2=>wpAny_bind (wpAny_mono q2 (fun _ s3 q3=>?_) fun _ _ z=>z.elim)) fun _ _ z=>z.elim)
  exact wpAny_bind (wpAny_bind (wpAny_mono q3 (fun x s4 q4=>wpAny_bind (wpAny_holding (wpAny_mono q4 (fun y s5 q5=>wpAny_bind (wpAny_standAt (wpAny_holding (wpAny_mono q5 (fun _ s6 q6=>wpAny_pure ⟨rfl,q6⟩) fun _ _ z=>z.elim)))) fun _ _ z=>z.elim))) fun _ _ z=>z.elim))
theorem start_in{kx vx t1 i1 t2 i2:Expr}{scope:Scope}{pos:Pos}{it acc:Value}{env:Env}(h0:codeAny (model prog w) A (.compLoop (.DictComp kx vx [⟨t1,i1,[],0⟩,⟨t2,i2,[],0⟩] scope pos) 1 it acc env) R s)
  (h:wpAny (model prog w) A (pyIter it) (fun it' s'=>codeAny (model prog w) A (.compLoop (.DictComp kx vx [⟨t1,i1,[],0⟩,⟨t2,i2,[],0⟩] scope pos) 1 it' acc env) R s') E_ s) :
  codeAny (model prog w) A (.compStart (.DictComp kx vx [⟨t1,i1,[],0⟩,⟨t2,i2,[],0⟩] scope pos) 1 it acc env) R s:=by
 refine codeAny_of_tree ?_
 show wpAny _ A ((compStart (.DictComp kx vx [⟨t1,i1,[],0⟩,⟨t2,i2,[],0⟩] scope pos) 1 it acc env).onRaise _) _ _ s
 refine wpAny_notedAt ?_
 unfold compStart
 show wpAny _ A (ask>>=_) _ _ s
 refine wpAny_bind (wpAny_askSetting (wpAny_ite ?_))
 split
 ·first
   |exact wpAny_pure ⟨rfl,h0⟩
   |exact wpAny_bind (wpAny_pure (wpAny_pure ⟨rfl,h0⟩))
 ·refine wpAny_bind (wpAny_rule ?_)
  show wpAny _ _ (standAt i2.pos>>=_) _ _ s
  exact wpAny_bind (wpAny_standAt (wpAny_bind (wpAny_mono h (fun it' s' q=>wpAny_pure ⟨rfl,q⟩) fun _ _ z=>z.elim)))
theorem loop_out{kx vx t1 i1 t2 i2:Expr}{scope:Scope}{pos:Pos}{it:Value}{D:Addr}{env:Env}(I:Nat->Shared->Prop)(hs:∀x,foldedSetIterable i2 env x=pure x)
  (turn:∀n s,I n s->wpAny (model prog w) A (pyNext it) (fun r s1=>match r with
   |none=>R (.ok .next) s1
   |some v=>wpAny (model prog w) A (letOwnedTupleGo t1 it v) (fun _ s2=>wpAny (model prog w) A (assign t1 env v) (fun _ s3 =>
     wpAny (model prog w) A (eval i2 env) (fun x s4=>wpAny (model prog w) A (pyIter x) (fun it2 s5 =>
      codeAny (model prog w) A (.compStart (.DictComp kx vx [⟨t1,i1,[],0⟩,⟨t2,i2,[],0⟩] scope pos) 1 it2 (.ref D) env) (fun r s6=>match r with|.ok _=>∃m,m<n/\I m s6|.error _=>False) s5) E_ s4) E_ s3) E_ s2) E_ s1) E_ s)
  (n:Nat) (h:I n s):codeAny (model prog w) A (.compLoop (.DictComp kx vx [⟨t1,i1,[],0⟩,⟨t2,i2,[],0⟩] scope pos) 0 it (.ref D) env) R s:=by
 refine codeAny_loop rfl I (fun n s q=>?_) n h
 show wpAny _ A ((compTurn (.DictComp kx vx [⟨t1,i1,[],0⟩,⟨t2,i2,[],0⟩] scope pos) 0 it (.ref D) env).onRaise _) _ _ s
 refine wpAny_noted ?_
 rw[turn_out]
 refine wpAny_bind (wpAny_standAt (wpAny_bind (wpAny_mono (turn n s q) (fun r s1 q1=>?_) fun _ _ z=>z.elim)))
 cases r with
 |none=>exact wpAny_pure q1
 |some v =>
  refine wpAny_bind (wpAny_mono q1 (fun _ s2 q2=>wpAny_bind (wpAny_mono q2 (fun _ s3 q3=>?_) fun _ _ z=>z.elim)) fun _ _ z=>z.elim)
  refine wpAny_bind (wpAny_mono q3 (fun x s4 q4=>wpAny_bind (wpAny_standAt ?_)) fun _ _ z=>z.elim)
  rw[hs x]
  refine wpAny_bind (wpAny_pure (wpAny_bind (wpAny_holding (wpAny_mono q4 (fun it2 s5 q5=>?_) fun _ _ z=>z.elim))))
  refine wpAny_bind (wpAny_runOwn (codeAny_mono q5 fun r s6 q6=>?_))
  cases r with
  |ok f=>exact wpAny_pure ⟨rfl,q6⟩
  |error e=>exact q6.elim
end
def CompWD2(J:It)(g:TG)(wi2:TI)(g2:TG)(tk tv:TE)(Q:VK)(σ0:St)(H0:Hp):Prop:=∃W:Nat->Nat->St->List (Key×V)->Hp->Prop,(∃m,W 0 m σ0 [] H0)/\∀i m σ' kvs H,W i m σ' kvs H ->
 (J.stop i H/\kvs.length<=sizeLine/\∀p,H p=none->Q (.ref p) (upd H p (.dK kvs))) \/
 (J.go i H/\∃N:St->List (Key×V)->Hp->Prop,(∀σ2 vs2 H2,N σ2 vs2 H2->∃m',m' < m/\W (i+1) m' σ2 vs2 H2)/\∀x H',J.yld i H x H'->g x σ' H' fun σ2 H2=>wi2 σ2 H2 fun J2 H3 =>
  ∃W2:Nat->Nat->St->List (Key×V)->Hp->Prop,(∃m2,W2 0 m2 σ2 kvs H3)/\∀j m2 σ3 kvs3 H4,W2 j m2 σ3 kvs3 H4 ->
   (J2.stop j H4/\N σ3 kvs3 H4) \/
   (J2.go j H4/\kvs3.length<sizeLine/\∃N2:St->List (Key×V)->Hp->Prop,(∀σ4 vs4 H5,N2 σ4 vs4 H5->∃m',m' < m2/\W2 (j+1) m' σ4 vs4 H5)/\∀y H5,J2.yld j H4 y H5->g2 y σ3 H5 fun σ4 H6 =>
    tk σ4 H6 fun kv H7=>tv σ4 H7 fun v H8=>∃key,kv=kV key/\N2 σ4 (putK kvs3 key v) H8))
def tDComp2(own:Nat)(fr:List Nat)(wi:TI)(g:TG)(wi2:TI)(g2:TG)(tk tv:TE):TE:=fun σ H Q=>wi σ H fun J H1=>CompWD2 J g wi2 g2 tk tv Q (innerSt own fr σ) H1
theorem pe_dcomp2{X:Cx}{kx vx iter tg iter2 tg2:Expr}{scope:Scope}{pos:Pos}{wi wi2:TI}{g g2:TG}{tk tv:TE}(own:List Str)(fr:List Nat)(hc:X.calm=true)
  (hkind:scope.kind=.function) (hcell:∀x∈scope.names,x.2≠.cell) (hnames:∀x∈scope.names,x.2=.local->scope.names.lookup x.1=some .local)
  (hfr:∀x∈scope.names,x.2=.free->X.env.scope.names.lookup x.1=some .cell\/X.env.scope.names.lookup x.1=some .free)
  (hin:∀j∈fr,scope.names.lookup (X.N.getD j Str.empty)=some .free)
  (hi:PI X tg iter wi) (hg:∀fp C s H,PG (cxComp X scope (own++fr.map fun j=>X.N.getD j Str.empty) fp C s H) tg g)
  (hi2:∀fp C s H,PI (cxComp X scope (own++fr.map fun j=>X.N.getD j Str.empty) fp C s H) tg2 iter2 wi2)
  (hg2:∀fp C s H,PG (cxComp X scope (own++fr.map fun j=>X.N.getD j Str.empty) fp C s H) tg2 g2)
  (hk:∀fp C s H,PE (cxComp X scope (own++fr.map fun j=>X.N.getD j Str.empty) fp C s H) kx tk)
  (he:∀fp C s H,PE (cxComp X scope (own++fr.map fun j=>X.N.getD j Str.empty) fp C s H) vx tv)
  (hs:∀x,foldedSetIterable iter X.env x=pure x:=by intro _;rfl) (hs2:∀env x,foldedSetIterable iter2 env x=pure x:=by intro _ _;rfl):PE X (.DictComp kx vx [⟨tg,iter,[],0⟩,⟨tg2,iter2,[],0⟩] scope pos) (tDComp2 own.length fr wi g wi2 g2 tk tv):=by
 intro pins s σ H Q I h
 rw[arm_eval_DictComp]
 have hfree:∀x∈scope.names,x.2=.free->∃c,X.env.cells.lookup x.1=some c:=fun x hx e=>I.ok.has x.1 (hfr x hx e)
 refine wpAny_comprehension_free (use:=none) rfl hs (closureFor_eq hfree) hkind hnames ?_
 refine thn (hi pins s σ H _ I h) fun v s1 h1=>thn h1 fun itv s2 h2=>?_
 obtain⟨it,fp,tn,J,H2,e,I2,T,st2,f2,W,⟨m0,w0⟩,turn⟩:=h2
 subst e
 have hfo:∀b∈fp,b<s2.heap.objs.size:=fun b hb=>by obtain⟨o,e,_⟩:=T.obj 0 _ st2 b hb;exact Heap.lt_size e
 refine wpAny_newObj_type (wpAny_newFunctionEnv hcell (by intro y hy;simp at hy) (fun h₁ hns₁ hsb₁=>?_) hkind)
 dsimp only at hns₁ hsb₁⊢
 generalize hH2:s2.heap.push {cls:=.type "dict",dict:=none,data:=.dict #[]}=G2 at hns₁ hsb₁⊢
 have hC:G2.objs.size=s2.heap.objs.size+1:=by rw[←hH2,Heap.size_push]
 have hDC:s2.heap.objs.size≠G2.objs.size:=by rw[hC];exact Nat.ne_of_lt (Nat.lt_succ_self _)
 have hCle:s2.heap.objs.size<=G2.objs.size:=by rw[hC];exact Nat.le_succ _
 have old:∀b o,s2.heap.get? b=some o->h₁.get? b=some o:=fun b o e=>hsb₁.extBut b o (by rw[hC];exact Nat.ne_of_lt (Nat.lt_succ_of_lt (Heap.lt_size e))) (Heap.get?_push_of_some _ (hH2▸Heap.get?_push_of_some _ e))
 have hacc:h₁.DictOf (mixKind X.prog X.w) s2.heap.objs.size []:=(hH2▸Heap.DictOf.new (knd:=mixKind X.prog X.w) s2.heap:G2.DictOf (mixKind X.prog X.w) s2.heap.objs.size []).at fun o e=>hsb₁.extBut _ _ hDC (Heap.get?_push_of_some _ e)
 have I3:Inv (cxComp X scope (own++fr.map fun j=>X.N.getD j Str.empty) fp G2.objs.size s2 H2) [] (innerSt own.length fr σ) H2 {s2 with heap:=h₁,toks:=s2.toks+([]:List (Str×Value)).length} :=
  comp_enter I2 hkind hcell hfr hin hCle f2 hfo old hns₁
 have st3:tn 0 h₁:=T.keep 0 _ _ st2 fun b _ o e=>old b o e
 have hDf:s2.heap.objs.size∉fp:=fun hm=>Nat.lt_irrefl _ (hfo _ hm)
 have hDn2:H2 s2.heap.objs.size=none:=I2.hok.fresh (Nat.le_refl _)
 have sub:∀y c,(cellsFor X.env scope.names []).lookup y=some c->X.env.cells.lookup y=some c:=cellsFor_sub _ _ hfree (by intro y c e;simp at e)
 have cellD:∀y c,(cellsFor X.env scope.names []).lookup y=some c->c≠s2.heap.objs.size:=fun y c e=>by
  obtain⟨_,o,ho,_⟩:=I2.cell y c (sub y c e)
  exact Nat.ne_of_lt (Heap.lt_size ho)
 have Dfs:s2.heap.objs.size∉frs X.stack:=fun z=>by
  rcases List.mem_cons.mp (I2.stkSub _ z)with e|e
  ·exact absurd I2.lt (by rw[←e];exact Nat.lt_irrefl _)
  ·exact I2.nofs (Nat.le_refl _) e
 -- the iterator's records,in the block's context
 have stat:∀{H':Hp}{pl:List (Addr×Obj)},(∀b∈fp,H' b=none)->(∀p∈pl,p.1=s2.heap.objs.size)->∀b∈fp,FpOk (cxComp X scope (own++fr.map fun j=>X.N.getD j Str.empty) fp G2.objs.size s2 H2) pl H' b:=fun{H' pl} hn hp b hb=>by
  refine⟨hn b hb,(I3.ok.exf b hb).1,I3.ok.exfs b hb,.inl hb,(I3.ok.exf b hb).2,fun p hpp z=>?_⟩
  have hpp':p∈pl:=by simpa[cxComp]using hpp
  exact hDf (by rw[←hp p hpp',z];exact hb)
 have pinD:∀{σ':St}{H':Hp}{s':Shared}{o:Obj}{es:Array DictEntry}{n:Nat}{pl:List (Addr×Obj)},Inv (cxComp X scope (own++fr.map fun j=>X.N.getD j Str.empty) fp G2.objs.size s2 H2) pl σ' H' s'->H' s2.heap.objs.size=none->s'.heap.get? s2.heap.objs.size=some o->o.data=.dict es n ->
   Inv (cxComp X scope (own++fr.map fun j=>X.N.getD j Str.empty) fp G2.objs.size s2 H2) ([(s2.heap.objs.size,o)]++pl) σ' H' s':=fun{σ' H' s' o es n pl} J hn e ed=>J.pins_of fun p hp=>by
  rcases List.mem_append.mp hp with hp|hp
  rotate_left
  ·exact J.pin p (List.mem_append_right _ hp)
  have e':p=(s2.heap.objs.size,o):=by simpa using hp
  subst e'
  exact⟨e,hn,hDC,Dfs,fun v z=>by rw[ed]at z;cases z⟩
 have loop:codeAny (model X.prog X.w) X.A (.compLoop (.DictComp kx vx [⟨tg,iter,[],0⟩,⟨tg2,iter2,[],0⟩] scope pos) 0 (.ref it) (.ref s2.heap.objs.size) (compEnvC scope (cellsFor X.env scope.names []) G2.objs.size X.env))
   (compPost (model X.prog X.w) X.A X.xe none (EP X pins σ Q) (.ref s2.heap.objs.size) G2.objs.size) {s2 with heap:=h₁,toks:=s2.toks+([]:List (Str×Value)).length}:=by
  refine loop_out (fun n s'=>∃i σ' H' kvs rs,Inv (cxComp X scope (own++fr.map fun j=>X.N.getD j Str.empty) fp G2.objs.size s2 H2) [] σ' H' s'/\tn i s'.heap/\(∀b∈fp,H' b=none)/\H' s2.heap.objs.size=none/\s'.heap.DictOf (mixKind X.prog X.w) s2.heap.objs.size rs/\KV kvs rs/\W i n σ' kvs H')
   (fun x=>hs2 _ x) ?_ m0 ⟨0,_,H2,[],[],I3,st3,fun b hb=>(f2 b hb).1,hDn2,hacc,.nil,w0⟩
  rintro n s3 ⟨i,σ3,H3,kvs,rs,J3,st3,fr3,dn3,dd3,rv,w3⟩
  obtain⟨od,oes,oep,pl3,oex,odt,oks,opr,ond⟩:=id dd3
  have J3':Inv (cxComp X scope (own++fr.map fun j=>X.N.getD j Str.empty) fp G2.objs.size s2 H2) [(s2.heap.objs.size,od)] σ3 H3 s3:=pinD (pl:=[]) J3 dn3 pl3 odt
  have hpins:∀p∈[(s2.heap.objs.size,od)],p.1=s2.heap.objs.size:=fun p hp=>by
   have e':p=(s2.heap.objs.size,od):=by simpa using hp
   rw[e']
  rcases turn i n σ3 kvs H3 w3 with⟨stop,hz,q⟩|⟨go,N,hN,step⟩
  ·refine thn (T.done (cxComp X scope (own++fr.map fun j=>X.N.getD j Str.empty) fp G2.objs.size s2 H2) rfl rfl rfl hc i _ s3 σ3 H3 (fun _ _=>False) J3' (stat fr3 hpins) st3 stop) fun r s4 ⟨hr,J4⟩=>?_
   subst hr
   obtain⟨m4,hn4,_⟩:=id J4.loc
   refine⟨m4,hn4,fun h' hs'=>?_⟩
   have e4:s4.heap.get? s2.heap.objs.size=some od:=(J4.pin (s2.heap.objs.size,od) (List.mem_append_right _ (by simp))).1
   exact⟨.ref s2.heap.objs.size,_,comp_leaveD I2 f2 J4 hCle (Nat.le_refl _) hDC dn3 ⟨od,oes,oep,e4,oex,odt,oks,opr,ond⟩ rv hz hs',rfl,q _ dn3⟩
  ·refine thn (T.item (cxComp X scope (own++fr.map fun j=>X.N.getD j Str.empty) fp G2.objs.size s2 H2) rfl rfl rfl hc i _ s3 σ3 H3 (fun _ _=>False) J3' (stat fr3 hpins) st3 go) fun r s4 ⟨u,hr,h4⟩=>?_
   subst hr
   refine thn h4 fun _ s5 ⟨x,H5,J5,r5,y5,st5,fr5⟩=>?_
   have J5':=J5.pinned (stat fr5 hpins) (T.obj _ _ st5)
   refine thn (hg fp _ s2 H2 _ s5 σ3 H5 x u _ J5' r5 (step x H5 y5)) fun _ s6 ⟨σ6,H6,J6,q6⟩=>?_
   refine thn (hi2 fp _ s2 H2 _ s6 σ6 H6 _ J6 q6) fun v7 s7 h7=>thn h7 fun itv7 s8 h8=>?_
   obtain⟨it2,fp2,tn2,J2,H8,e8,I8,T2,st8,f8,W2,⟨m20,w20⟩,turn2⟩:=h8
   subst e8
   have hD8:H8 s2.heap.objs.size=none/\s8.heap.get? s2.heap.objs.size=some od:=by
    have z:=I8.pin (s2.heap.objs.size,od) (List.mem_append_right _ (List.mem_append_left _ (by simp)))
    exact⟨z.2.1,z.1⟩
   have hDf2:s2.heap.objs.size∉fp2:=fun hm=>(f8 _ hm).2.2.2.2.2 (s2.heap.objs.size,od) (List.mem_append_right _ (List.mem_append_left _ (by simp))) rfl
   have keepO:∀{s9:Shared}{σ9:St}{H9:Hp}{pl:List (Addr×Obj)},Inv (cxComp X scope (own++fr.map fun j=>X.N.getD j Str.empty) fp G2.objs.size s2 H2) (pl++pinsAt fp s5.heap) σ9 H9 s9->tn (i+1) s9.heap/\(∀b∈fp,H9 b=none):=fun{s9 σ9 H9 pl} J9=>by
    refine⟨T.keep _ _ _ st5 fun b hb o e=>(J9.pin (b,o) (List.mem_append_right _ (List.mem_append_right _ (mem_pinsAt hb e)))).1,fun b hb=>?_⟩
    obtain⟨o,e,d⟩:=T.obj _ _ st5 b hb
    exact(J9.pin (b,o) (List.mem_append_right _ (List.mem_append_right _ (mem_pinsAt hb e)))).2.1
   have stat2:∀{H':Hp}{o':Obj},(∀b∈fp2,H' b=none)->∀b∈fp2,FpOk (cxComp X scope (own++fr.map fun j=>X.N.getD j Str.empty) fp G2.objs.size s2 H2) ([(s2.heap.objs.size,o')]++pinsAt fp s5.heap) H' b:=fun{H' o'} hn b hb=>by
    obtain⟨z0,z1,z2,z3,z4,z5⟩:=f8 b hb
    refine⟨hn b hb,z1,z2,z3,z4,fun p hp=>?_⟩
    rcases List.mem_append.mp hp with hp|hp
    ·exact z5 p (List.mem_append_left _ hp)
    ·rcases List.mem_append.mp hp with hp|hp
     ·have e':p=(s2.heap.objs.size,o'):=by simpa using hp
      rw[e']
      exact fun z=>hDf2 ((show s2.heap.objs.size=b from z)▸hb)
     ·exact z5 p (List.mem_append_right _ (List.mem_append_right _ hp))
   have loop2:codeAny (model X.prog X.w) X.A (.compLoop (.DictComp kx vx [⟨tg,iter,[],0⟩,⟨tg2,iter2,[],0⟩] scope pos) 1 (.ref it2) (.ref s2.heap.objs.size) (compEnvC scope (cellsFor X.env scope.names []) G2.objs.size X.env))
     (fun r s6=>match r with|.ok _=>∃m,m<n/\∃i σ' H' kvs rs,Inv (cxComp X scope (own++fr.map fun j=>X.N.getD j Str.empty) fp G2.objs.size s2 H2) [] σ' H' s6/\tn i s6.heap/\(∀b∈fp,H' b=none)/\H' s2.heap.objs.size=none/\s6.heap.DictOf (mixKind X.prog X.w) s2.heap.objs.size rs/\KV kvs rs/\W i m σ' kvs H'|.error _=>False) s8:=by
    refine loop_in (fun n s'=>∃j σ' H' kvs rs,Inv (cxComp X scope (own++fr.map fun j=>X.N.getD j Str.empty) fp G2.objs.size s2 H2) (pinsAt fp s5.heap) σ' H' s'/\tn2 j s'.heap/\(∀b∈fp2,H' b=none)/\H' s2.heap.objs.size=none/\s'.heap.DictOf (mixKind X.prog X.w) s2.heap.objs.size rs/\KV kvs rs/\W2 j n σ' kvs H')
     ?_ m20 ⟨0,_,H8,kvs,rs,I8.pins_of (fun p hp=>I8.pin p (List.mem_append_right _ (List.mem_append_right _ hp))),st8,fun b hb=>(f8 b hb).1,hD8.1,⟨od,oes,oep,hD8.2,oex,odt,oks,opr,ond⟩,rv,w20⟩
    rintro n2 t3 ⟨j,τ3,G3,kvs3,rs3,K3,ts3,gr3,gn3,gd3,rv3,v3⟩
    obtain⟨od2,oes2,oep2,pl32,oex2,odt2,oks2,opr2,ond2⟩:=id gd3
    have K3':=pinD K3 gn3 pl32 odt2
    rcases turn2 j n2 τ3 kvs3 G3 v3 with⟨stop2,q2⟩|⟨go2,hz2,N2,hN2,step2⟩
    ·refine thn (T2.done (cxComp X scope (own++fr.map fun j=>X.N.getD j Str.empty) fp G2.objs.size s2 H2) rfl rfl rfl hc j _ t3 τ3 G3 (fun _ _=>False) K3' (stat2 gr3) ts3 stop2) fun r t4 ⟨hr,K4⟩=>?_
     subst hr
     obtain⟨m',hm,w7⟩:=hN _ _ _ q2
     obtain⟨a1,a2⟩:=keepO K4
     have e4:t4.heap.get? s2.heap.objs.size=some od2:=(K4.pin (s2.heap.objs.size,od2) (List.mem_append_right _ (List.mem_append_left _ (by simp)))).1
     exact⟨m',hm,i+1,τ3,G3,kvs3,rs3,K4.pins_of (fun p hp=>absurd hp (by simp)),a1,a2,gn3,⟨od2,oes2,oep2,e4,oex2,odt2,oks2,opr2,ond2⟩,rv3,w7⟩
    ·refine thn (T2.item (cxComp X scope (own++fr.map fun j=>X.N.getD j Str.empty) fp G2.objs.size s2 H2) rfl rfl rfl hc j _ t3 τ3 G3 (fun _ _=>False) K3' (stat2 gr3) ts3 go2) fun r t4 ⟨u2,hr,g4⟩=>?_
     subst hr
     refine thn g4 fun _ t5 ⟨y,G5,K5,ry5,yy5,ts5,gr5⟩=>?_
     have K5':=K5.pinned (stat2 gr5) (T2.obj _ _ ts5)
     refine thn (hg2 fp _ s2 H2 _ t5 τ3 G5 y u2 _ K5' ry5 (step2 y G5 yy5)) fun _ t6 ⟨τ6,G6,K6,p6⟩=>?_
     refine thn (hk fp _ s2 H2 _ t6 τ6 G6 _ K6 p6) fun x s75 ⟨v75,H75,J75,r75,n75⟩=>?_
     refine thn (he fp _ s2 H2 _ s75 τ6 H75 _ J75 n75) fun y s8 ⟨v8,H8,J8,r8,n8⟩=>?_
     obtain⟨key,rfl,n8⟩:=n8
     obtain⟨m',hm,w8⟩:=hN2 _ _ _ n8
     have pD:=J8.pin (s2.heap.objs.size,od2) (List.mem_append_right _ (List.mem_append_left _ (List.mem_append_left _ (by simp))))
     have pF:∀b∈fp2,H8 b=none:=fun b hb=>by
      obtain⟨o,e,d⟩:=T2.obj _ _ ts5 b hb
      exact(J8.pin (b,o) (List.mem_append_right _ (List.mem_append_right _ (mem_pinsAt hb e)))).2.1
     have pT:tn2 (j+1) s8.heap:=T2.keep _ _ _ ts5 fun b hb o e=>(J8.pin (b,o) (List.mem_append_right _ (List.mem_append_right _ (mem_pinsAt hb e)))).1
     have J9:Inv (cxComp X scope (own++fr.map fun j=>X.N.getD j Str.empty) fp G2.objs.size s2 H2) (pinsAt fp s5.heap) τ6 H8 s8:=J8.pins_of (fun p hp=>J8.pin p (List.mem_append_right _ (List.mem_append_left _ (List.mem_append_right _ hp))))
     have hrs:rs3.length<=sizeLine:=by have:=KV.length rv3;omega
     refine wpAny_dictSet_pairs (kV_is r75) (⟨od2,oes2,oep2,pD.1,oex2,odt2,oks2,opr2,ond2⟩:s8.heap.DictOf (mixKind X.prog X.w) s2.heap.objs.size rs3) (fun h₅ hl₅ hs₅=>?_) hrs
     exact⟨m',hm,j+1,τ6,H8,putK kvs3 key v8,stored rs3 key y,J9.turned (t':=s8.toks+1) (it:=s2.heap.objs.size) (fun b o hb e=>by rw[hs₅.2 b hb];exact e) pD.2.1 hDC (.inr (Nat.le_refl _)) cellD (fun p hp z=>hDf (by
       have hp':p∈pinsAt fp s5.heap:=by simpa[cxComp]using hp
       have:=(of_pinsAt hp').1
       rw[z]at this;exact this)),
      T2.keep _ _ _ pT fun b hb o e=>(hs₅.2 b (fun z=>hDf2 (z▸hb))).trans e,pF,pD.2.1,hl₅,rv3.put key r8,w8⟩
   exact start_in loop2 (T2.self X.A 0 _ _ _ st8 loop2)
 exact codeAny_compStart_dict loop (T.self X.A 0 _ _ _ st3 loop)
theorem pe_dcomp2C{X:Cx}{kx vx iter tg iter2 tg2:Expr}{scope:Scope}{pos:Pos}{wi wi2:TI}{g g2:TG}{tk tv:TE}(sc:Scope)(N0 own:List Str)(fr:List Nat)(hc:X.calm=true)(hsc:X.env.scope=sc)(hN:X.N=N0)
  (ok:compOk scope sc N0 fr=true) (hi:PI X tg iter wi) (hg:∀fp C s H,PG (cxComp X scope (own++fr.map fun j=>N0.getD j Str.empty) fp C s H) tg g)
  (hi2:∀fp C s H,PI (cxComp X scope (own++fr.map fun j=>N0.getD j Str.empty) fp C s H) tg2 iter2 wi2)
  (hg2:∀fp C s H,PG (cxComp X scope (own++fr.map fun j=>N0.getD j Str.empty) fp C s H) tg2 g2)
  (hk:∀fp C s H,PE (cxComp X scope (own++fr.map fun j=>N0.getD j Str.empty) fp C s H) kx tk)
  (he:∀fp C s H,PE (cxComp X scope (own++fr.map fun j=>N0.getD j Str.empty) fp C s H) vx tv)
  (hs:∀x,foldedSetIterable iter X.env x=pure x:=by intro _;rfl) (hs2:∀env x,foldedSetIterable iter2 env x=pure x:=by intro _ _;rfl):PE X (.DictComp kx vx [⟨tg,iter,[],0⟩,⟨tg2,iter2,[],0⟩] scope pos) (tDComp2 own.length fr wi g wi2 g2 tk tv):=by
 subst hsc hN
 unfold compOk at ok
 simp only[Bool.and_eq_true,List.all_eq_true,bne_iff_ne,beq_iff_eq,Bool.or_eq_true]at ok
 obtain⟨⟨k1,k2⟩,k3⟩:=ok
 refine pe_dcomp2 own fr hc k1 (fun x hx=>(k2 x hx).1.1) (fun x hx e=>?_) (fun x hx e=>?_) (fun j hj=>k3 j hj) hi hg hi2 hg2 hk he hs hs2
 ·rcases(k2 x hx).1.2 with z|z
  ·exact absurd e z
  ·exact z
 ·rcases(k2 x hx).2 with(z|z)|z
  ·exact absurd e z
  ·exact .inl z
  ·exact .inr z
def Isq(b:Bool)(h:Heap)(l:Addr)(xs:Array Value):Prop:=match b with|false=>h.IsList l xs|true=>h.IsTuple l xs
def Itq(b:Bool)(h:Heap)(i l:Addr)(k:Nat):Prop:=match b with|false=>h.IsListIter i l k|true=>h.IsTupleIter i l k
theorem Isq.at{b:Bool}{h h':Heap}{l:Addr}{xs:Array Value}(x:Isq b h l xs)(k:∀o,h.get? l=some o->h'.get? l=some o):Isq b h' l xs:=by
 cases b with
 |false=>exact Heap.IsList.at (show h.IsList l xs from x) k
 |true=>obtain⟨o,e,r⟩:=(show h.IsTuple l xs from x);exact⟨o,k o e,r⟩
theorem Itq.at{b:Bool}{h h':Heap}{i l:Addr}{n:Nat}(x:Itq b h i l n)(k:∀o,h.get? i=some o->h'.get? i=some o):Itq b h' i l n:=by
 cases b with
 |false=>exact Heap.IsListIter.at (show h.IsListIter i l n from x) k
 |true=>obtain⟨o,e,r⟩:=(show h.IsTupleIter i l n from x);exact⟨o,k o e,r⟩
theorem Isq.extBut{b:Bool}{h h':Heap}{l c:Addr}{xs:Array Value}(x:Isq b h l xs)(hs:Heap.ExtBut c h h')(hc:l≠c):Isq b h' l xs:=x.at fun o e=>hs l o hc e
theorem Itq.extBut{b:Bool}{h h':Heap}{i l c:Addr}{n:Nat}(x:Itq b h i l n)(hs:Heap.ExtBut c h h')(hc:i≠c):Itq b h' i l n:=x.at fun o e=>hs i o hc e
theorem Isq.got{b:Bool}{h:Heap}{l:Addr}{xs:Array Value}(x:Isq b h l xs):∃o,h.get? l=some o:=by
 cases b with
 |false=>obtain⟨o,e,_⟩:=(show h.IsList l xs from x);exact⟨o,e⟩
 |true=>obtain⟨o,e,_⟩:=(show h.IsTuple l xs from x);exact⟨o,e⟩
theorem Itq.got{b:Bool}{h:Heap}{i l:Addr}{n:Nat}(x:Itq b h i l n):∃o,h.get? i=some o:=by
 cases b with
 |false=>obtain⟨o,e,_⟩:=(show h.IsListIter i l n from x);exact⟨o,e⟩
 |true=>obtain⟨o,e,_⟩:=(show h.IsTupleIter i l n from x);exact⟨o,e⟩
section
variable {prog:Program}{w:World}{A:Around}{E:Value->Shared->Prop}{s:Shared}
theorem tup_next_item{it t:Addr}{i:Nat}{items:Array Value}{x:Value}{Q:Value->Shared->Prop}(hit:s.heap.IsTupleIter it t i)(ht:s.heap.IsTuple t items)(hx:items[i]?=some x)
  (hQ:∀h',h'.IsTupleIter it t (i+1)->Heap.SameBut it s.heap h'->Q x {s with heap:=h'}):wpAny (model prog w) A (Builtin.SmallTypes.nextOf (.ref it)) Q E s:=by
 obtain⟨o,ho,hc,hd⟩:=id hit
 obtain⟨ol,hol,_,nl,hdl⟩:=ht
 have hT:=hit.typeIs
 unfold Builtin.SmallTypes.nextOf
 refine wpAny_bind (wpAny_callSpecial?_slot (name:=Str.ofString "__next__") hT PySem.F.slot_tuple_iterator_next (wpAny_call_entry PySem.F.slot_tuple_iterator_next hT PySem.F.entry_tuple_iterator_next ?_ (PySem.F.args_tuple_iterator_next_1 _)))
 show wpAny _ _ (field (.ref it) 0>>=_) _ _ s
 refine wpAny_bind (wpAny_field ho hd (x:=.ref t) rfl ?_)
 show wpAny _ _ (if(Value.ref t == Value.none)=true then _ else _) _ _ s
 rw[if_neg (show ¬((Value.ref t == Value.none)=true)from Bool.false_ne_true)]
 show wpAny _ _ (field (.ref it) 1>>=_) _ _ s
 refine wpAny_bind (wpAny_field ho hd (x:=.int i 0) rfl ?_)
 show wpAny _ _ (seqItems? (.ref t)>>=_) _ _ s
 refine wpAny_bind (wpAny_seqItems hol hdl ?_)
 simp only[Int.toNat_natCast,hx]
 refine wpAny_bind (wpAny_setField ho hd (by simp) (wpAny_pure ⟨x,rfl,wpAny_pure (hQ _ ⟨_,Heap.get?_update_self _ ho (Obj.isFreed_of_fields (Obj.data_mapFields hd _)),(Obj.cls_mapFields ..).trans hc,?_⟩ (Heap.SameBut.update ..))⟩))
 rw[Obj.data_mapFields hd];simp[rawInt]
theorem tup_next_end{it t:Addr}{i:Nat}{items:Array Value}{Q:Value->Shared->Prop}(hh:A.handled=none)(hit:s.heap.IsTupleIter it t i)(ht:s.heap.IsTuple t items)(hx:items[i]?=none)
  (hE:∀h' e,Heap.ExtBut it s.heap h'->(∃o,h'.get? e=some o/\o.cls=.type "StopIteration")->E (.ref e) {s with heap:=h'}):wpAny (model prog w) A (Builtin.SmallTypes.nextOf (.ref it)) Q E s:=by
 obtain⟨o,ho,hc,hd⟩:=id hit
 obtain⟨ol,hol,_,nl,hdl⟩:=ht
 have hT:=hit.typeIs
 unfold Builtin.SmallTypes.nextOf
 refine wpAny_bind (wpAny_callSpecial?_slot (name:=Str.ofString "__next__") hT PySem.F.slot_tuple_iterator_next (wpAny_call_entry PySem.F.slot_tuple_iterator_next hT PySem.F.entry_tuple_iterator_next ?_ (PySem.F.args_tuple_iterator_next_1 _)))
 show wpAny _ _ (field (.ref it) 0>>=_) _ _ s
 refine wpAny_bind (wpAny_field ho hd (x:=.ref t) rfl ?_)
 show wpAny _ _ (if(Value.ref t == Value.none)=true then _ else _) _ _ s
 rw[if_neg (show ¬((Value.ref t == Value.none)=true)from Bool.false_ne_true)]
 show wpAny _ _ (field (.ref it) 1>>=_) _ _ s
 refine wpAny_bind (wpAny_field ho hd (x:=.int i 0) rfl ?_)
 show wpAny _ _ (seqItems? (.ref t)>>=_) _ _ s
 refine wpAny_bind (wpAny_seqItems hol hdl ?_)
 simp only[Int.toNat_natCast,hx]
 refine wpAny_bind (wpAny_rule (wpAny_bind (wpAny_setField ho hd (by simp) ?_)))
 show wpAny _ _ (newExc (.type "StopIteration") []>>=_) _ _ _
 refine wpAny_bind ?_
 simp only[newExc,newTuple]
 refine wpAny_bind (wpAny_newObj_type ?_ (by size_fits))
 refine wpAny_bind (m:=firstArgMember _ _) (wpAny_of_eq (a:=Value.none) (by first|rfl|(simp only[firstArgMember];rfl)) ?_)
 refine wpAny_newObj_type ?_ (by size_fits)
 simp only[raiseNew]
 refine wpAny_bind (wpAny_handled ?_)
 first|rw[show A.in1.handled=none from hh]|rw[hh]
 refine wpAny_bind (wpAny_pure (wpAny_throw ?_))
 exact hE _ _ (((Heap.SameBut.update ..).extBut.push _).push _) ⟨_,Heap.get?_push_size _ rfl,rfl⟩
theorem nxq_item{b:Bool}{it l:Addr}{i:Nat}{items:Array Value}{x:Value}{Q:Value->Shared->Prop}(hit:Itq b s.heap it l i)(hl:Isq b s.heap l items)(hx:items[i]?=some x)
  (hQ:∀h',Itq b h' it l (i+1)->Heap.SameBut it s.heap h'->Q x {s with heap:=h'}):wpAny (model prog w) A (Builtin.SmallTypes.nextOf (.ref it)) Q E s:=by
 cases b with
 |false=>exact wpAny_nextOf_list_item hit hl hx hQ
 |true=>exact tup_next_item hit hl hx hQ
theorem nxq_end{b:Bool}{it l:Addr}{i:Nat}{items:Array Value}{Q:Value->Shared->Prop}(hh:A.handled=none)(hit:Itq b s.heap it l i)(hl:Isq b s.heap l items)(hx:items[i]?=none)
  (hE:∀h' e,Heap.ExtBut it s.heap h'->(∃o,h'.get? e=some o/\o.cls=.type "StopIteration")->E (.ref e) {s with heap:=h'}):wpAny (model prog w) A (Builtin.SmallTypes.nextOf (.ref it)) Q E s:=by
 cases b with
 |false=>exact wpAny_nextOf_list_end hh hit hl hx hE
 |true=>exact tup_next_end hh hit hl hx hE
abbrev itObj(b:Bool)(l:Addr):Obj:={cls:=.type (cond b "tuple_iterator" "list_iterator"),data:=.fields #[.ref l,.int 0 0]}
theorem iterQ{b:Bool}{l:Addr}{items:Array Value}{Q:Value->Shared->Prop}(hl:Isq b s.heap l items)(hQ:Q (.ref s.heap.objs.size) {s with heap:=s.heap.push (itObj b l)}):wpAny (model prog w) A (pyIter (.ref l)) Q E s:=by
 cases b with
 |false=>exact wpAny_pyIter_list hl hQ
 |true=>exact wpAny_pyIter_tuple hl hQ
end
abbrev zq1(b1:Bool)(h:Heap)(l1:Addr):Heap:=h.push (itObj b1 l1)
abbrev zq2(b1 b2:Bool)(h:Heap)(l1 l2:Addr):Heap:=(zq1 b1 h l1).push (itObj b2 l2)
abbrev zq3(b1 b2:Bool)(h:Heap)(l1 l2:Addr):Heap:=(zq2 b1 b2 h l1 l2).push {cls:=.type "tuple",data:=.seq #[.ref h.objs.size,.ref (zq1 b1 h l1).objs.size]}
abbrev zq4(b1 b2:Bool)(h:Heap)(l1 l2:Addr):Heap:=(zq3 b1 b2 h l1 l2).push {cls:=.type "tuple",data:=.seq #[.none,.none]}
abbrev zq5(b1 b2:Bool)(h:Heap)(l1 l2:Addr):Heap:=(zq4 b1 b2 h l1 l2).push {cls:=.type "zip",data:=.fields #[.none,.bool false,.bool false,.ref (zq2 b1 b2 h l1 l2).objs.size,.ref (zq3 b1 b2 h l1 l2).objs.size]}
theorem zq_new(b1 b2:Bool)(l1 l2:Addr)(xs ys:Array Value) :
  Meets (Builtin.«zip.__new__» ⟨[.type "zip",.ref l1,.ref l2],[]⟩) (fun _ R s=>Isq b1 s.heap l1 xs/\Isq b2 s.heap l2 ys/\R (.ok (.ret (.ref (zq4 b1 b2 s.heap l1 l2).objs.size))) {s with heap:=zq5 b1 b2 s.heap l1 l2}) :=
 .of_wp fun prog w A R s h=>by
  obtain⟨hp,g,d,tk,os⟩:=s
  obtain⟨hl1,hl2,h⟩:=h
  have hsub:=sub_zip
  have hL1:Isq b1 (Shared.heap ⟨hp,g,d,tk,os⟩) l1 xs:=hl1
  have hL2:Isq b2 (Shared.heap ⟨hp.push (itObj b1 l1),g,d,tk,os⟩) l2 ys:=hl2.at fun o e=>Heap.get?_push_of_some _ e
  wp_walk using iterQ hL1,iterQ hL2
  exact⟨_,rfl,h⟩
section
variable {prog:Program}{w:World}{A:Around}{E:Value->Shared->Prop}{s:Shared}{b1 b2:Bool}
theorem it_of{b:Bool}{h:Heap}{i l:Addr}(e:h.get? i=some (itObj b l)):Itq b h i l 0:=by
 cases b with
 |false=>exact⟨_,e,rfl,rfl⟩
 |true=>exact⟨_,e,rfl,rfl⟩
theorem zq_call{l1 l2:Addr}{xs ys:Array Value}{Q:Value->Shared->Prop}(hl1:Isq b1 s.heap l1 xs)(hl2:Isq b2 s.heap l2 ys)
  (h:∀h',IsZip h' (s.heap.objs.size+4) (s.heap.objs.size+2) (s.heap.objs.size+3) .none->IsPair h' (s.heap.objs.size+2) (.ref s.heap.objs.size) (.ref (s.heap.objs.size+1)) ->
   IsPair h' (s.heap.objs.size+3) .none .none->Itq b1 h' s.heap.objs.size l1 0->Itq b2 h' (s.heap.objs.size+1) l2 0->h'.objs.size=s.heap.objs.size+5 ->
   (∀c o,s.heap.get? c=some o->h'.get? c=some o)->Q (.ref (s.heap.objs.size+4)) {s with heap:=h'}) :
  wpAny (model prog w) A (call (.type "zip") [.ref l1,.ref l2]) Q E s:=by
 refine callType_new PySem.F.called_zip (by decide) (PySem.F.typeCall_zip_2 _ _) (PySem.F.newCall_zip_2 _ _) (fun obj=>PySem.F.args_object_init_3 obj _ _) PySem.F.entry_zip_new (zq_new b1 b2 l1 l2 xs ys) ⟨hl1,hl2,?_⟩
 have z1:(zq1 b1 s.heap l1).objs.size=s.heap.objs.size+1:=Heap.size_push ..
 have z2:(zq2 b1 b2 s.heap l1 l2).objs.size=s.heap.objs.size+2:=by rw[Heap.size_push,z1]
 have z3:(zq3 b1 b2 s.heap l1 l2).objs.size=s.heap.objs.size+3:=by rw[Heap.size_push,z2]
 have z4:(zq4 b1 b2 s.heap l1 l2).objs.size=s.heap.objs.size+4:=by rw[Heap.size_push,z3]
 have z5:(zq5 b1 b2 s.heap l1 l2).objs.size=s.heap.objs.size+5:=by rw[Heap.size_push,z4]
 have up:∀{h:Heap}{c:Addr}{o:Obj}(x:Obj),h.get? c=some o->(h.push x).get? c=some o:=fun x e=>Heap.get?_push_of_some _ e
 have g5:(zq5 b1 b2 s.heap l1 l2).get? (zq4 b1 b2 s.heap l1 l2).objs.size=some _:=Heap.get?_push_size _ rfl
 have g4:(zq5 b1 b2 s.heap l1 l2).get? (zq3 b1 b2 s.heap l1 l2).objs.size=some _:=up _ (Heap.get?_push_size _ rfl)
 have g3:(zq5 b1 b2 s.heap l1 l2).get? (zq2 b1 b2 s.heap l1 l2).objs.size=some _:=up _ (up _ (Heap.get?_push_size _ rfl))
 have g2:(zq5 b1 b2 s.heap l1 l2).get? (zq1 b1 s.heap l1).objs.size=some (itObj b2 l2):=up _ (up _ (up _ (Heap.get?_push_size _ rfl)))
 have g1:(zq5 b1 b2 s.heap l1 l2).get? s.heap.objs.size=some (itObj b1 l1):=up _ (up _ (up _ (up _ (Heap.get?_push_size _ rfl))))
 show _/\_
 rw[z2,z3,z4]at g5
 rw[z1,z2]at g3
 rw[z3]at g4
 rw[z1]at g2
 rw[z4]
 exact⟨⟨_,g5,rfl⟩,h _ g5 g3 g4 (it_of g1) (it_of g2) z5 fun c o x=>up _ (up _ (up _ (up _ (up _ x))))⟩
theorem zq_item{z TI TO i1 i2 l1 l2:Addr}{k1 k2:Nat}{xs ys:Array Value}{x y a b:Value}{Q:Option Value->Shared->Prop}(D:ZipApart z TI TO i1 i2 l1 l2)(hz:IsZip s.heap z TI TO .none)(hTI:IsPair s.heap TI (.ref i1) (.ref i2))(hTO:IsPair s.heap TO a b)
  (h1:Itq b1 s.heap i1 l1 k1) (h2:Itq b2 s.heap i2 l2 k2) (hl1:Isq b1 s.heap l1 xs) (hl2:Isq b2 s.heap l2 ys) (hx:xs[k1]?=some x) (hy:ys[k2]?=some y)
  (hQ:∀h',IsZip h' z TI TO (rawInt s.heap.objs.size)->IsPair h' TO x y->Itq b1 h' i1 l1 (k1+1)->Itq b2 h' i2 l2 (k2+1)->IsPair h' s.heap.objs.size x y->h'.objs.size=s.heap.objs.size+1 ->
   (∀c o,c≠z->c≠TO->c≠i1->c≠i2->s.heap.get? c=some o->h'.get? c=some o)->Q (some (.ref s.heap.objs.size)) {s with heap:=h'}) :
  wpAny (model prog w) A (pyNext (.ref z)) Q E s:=by
 have hTy:s.TypeIs (.ref z) "zip":=⟨_,hz,rfl⟩
 unfold pyNext
 refine wpAny_bind (wpAny_attempt (wpAny_callSpecial?_slot (name:=Str.ofString "__next__") hTy PySem.F.slot_zip_next (wpAny_call_entry PySem.F.slot_zip_next hTy PySem.F.entry_zip_next ?_ (PySem.F.args_zip_next_1 _))))
 show wpAny _ _ (field (.ref z) 2>>=_) _ _ _
 refine wpAny_bind (wpAny_field hz rfl (x:=.bool false) rfl ?_)
 show wpAny _ _ (field (.ref z) 3>>=_) _ _ _
 refine wpAny_bind (wpAny_field hz rfl (x:=.ref TI) rfl (wpAny_bind (wpAny_seqItems hTI rfl ?_)))
 show wpAny _ _ (Builtin.SmallTypes.ownedTupleIsFree (.ref z)>>=_) _ _ _
 refine wpAny_bind ?_
 unfold Builtin.SmallTypes.ownedTupleIsFree
 refine wpAny_bind (wpAny_field hz rfl (x:=.none) rfl (wpAny_pure ?_))
 simp only[if_true]
 refine wpAny_bind (wpAny_rule (wpAny_bind (wpAny_field hz rfl (x:=.ref TO) rfl ?_)))
 refine wpAny_bind (wpAny_setField_rec hz (by simp) fun h₁ hz₁ hs₁=>?_)
 replace hz₁:IsZip h₁ z TI TO .ellipsis:=hz₁
 refine wpAny_bind ?_
 simp only[List.zipIdx_cons,List.zipIdx_nil,List.forIn_cons,List.forIn_nil]
 refine wpAny_bind (wpAny_bind (wpAny_onRaise ?_))
 show wpAny _ _ (Builtin.SmallTypes.nextOf (.ref i1)>>=_) _ _ _
 refine wpAny_bind (nxq_item (h1.extBut hs₁.extBut D.i1z) (hl1.extBut hs₁.extBut D.l1z) hx fun h₂ h1₂ hs₂=>wpAny_pure ?_)
 have hTO₂:IsPair h₂ TO a b:=hs₂.extBut _ _ D.TOi1 (hs₁.extBut _ _ D.TOz hTO)
 refine wpAny_bind (wpAny_seqItems hTO₂ rfl (wpAny_bind (wpAny_updateSeq_pair hTO₂ fun h₃ hTO₃ hs₃=>?_)))
 replace hTO₃:IsPair h₃ TO x b:=hTO₃
 refine wpAny_bind (wpAny_letGo (wpAny_pure ?_))
 refine wpAny_bind (wpAny_bind (wpAny_onRaise ?_))
 show wpAny _ _ (Builtin.SmallTypes.nextOf (.ref i2)>>=_) _ _ _
 refine wpAny_bind (nxq_item (((h2.extBut hs₁.extBut D.i2z).extBut hs₂.extBut D.i12.symm).extBut hs₃.extBut D.TOi2.symm) (((hl2.extBut hs₁.extBut D.l2z).extBut hs₂.extBut D.l2i1).extBut hs₃.extBut D.l2TO) hy fun h₄ h2₄ hs₄=>wpAny_pure ?_)
 have hTO₄:IsPair h₄ TO x b:=hs₄.extBut _ _ D.TOi2 hTO₃
 refine wpAny_bind (wpAny_seqItems hTO₄ rfl (wpAny_bind (wpAny_updateSeq_pair hTO₄ fun h₅ hTO₅ hs₅=>?_)))
 replace hTO₅:IsPair h₅ TO x y:=hTO₅
 refine wpAny_bind (wpAny_letGo (wpAny_pure (wpAny_pure (wpAny_bind (wpAny_seqItems hTO₅ rfl (wpAny_bind (wpAny_newTuple ?_)))))))
 have hsz:h₅.objs.size=s.heap.objs.size:=by rw[hs₅.1,hs₄.1,hs₃.1,hs₂.1,hs₁.1]
 have hz₅:IsZip h₅ z TI TO .ellipsis:=hs₅.extBut _ _ D.TOz.symm (hs₄.extBut _ _ D.i2z.symm (hs₃.extBut _ _ D.TOz.symm (hs₂.extBut _ _ D.i1z.symm hz₁)))
 have hk₅:∀c o,c≠z->c≠TO->c≠i1->c≠i2->s.heap.get? c=some o->h₅.get? c=some o:=fun c o c1 c2 c3 c4 e=>hs₅.extBut _ _ c2 (hs₄.extBut _ _ c4 (hs₃.extBut _ _ c2 (hs₂.extBut _ _ c3 (hs₁.extBut _ _ c1 e))))
 have h1₅:Itq b1 h₅ i1 l1 (k1+1):=((h1₂.extBut hs₃.extBut D.TOi1.symm).extBut hs₄.extBut D.i12).extBut hs₅.extBut D.TOi1.symm
 have h2₅:Itq b2 h₅ i2 l2 (k2+1):=h2₄.extBut hs₅.extBut D.TOi2.symm
 have hzlt:z<h₅.objs.size:=Heap.lt_size hz₅
 show wpAny _ _ (Builtin.SmallTypes.ownedTupleHandOut (.ref z) (.ref h₅.objs.size)>>=_) _ _ _
 refine wpAny_bind ?_
 unfold Builtin.SmallTypes.ownedTupleHandOut
 have hz₆:IsZip (h₅.push {cls:=.type "tuple",data:=.seq #[x,y]}) z TI TO .ellipsis:=Heap.get?_push_of_some _ hz₅
 refine wpAny_bind (wpAny_setField_rec hz₆ (by simp) fun h₇ hz₇ hs₇=>?_)
 replace hz₇:IsZip h₇ z TI TO (rawInt h₅.objs.size):=hz₇
 refine wpAny_setField_rec hz₇ (by simp) fun h₈ hz₈ hs₈=>?_
 replace hz₈:IsZip h₈ z TI TO (rawInt h₅.objs.size):=hz₈
 have up:∀c o,c≠z->h₅.get? c=some o->h₈.get? c=some o:=fun c o c1 e=>hs₈.extBut _ _ c1 (hs₇.extBut _ _ c1 (Heap.get?_push_of_some _ e))
 have hT₈:IsPair h₈ h₅.objs.size x y:=hs₈.extBut _ _ (Nat.ne_of_gt hzlt) (hs₇.extBut _ _ (Nat.ne_of_gt hzlt) (Heap.get?_push_size _ rfl))
 have hz8:h₈.objs.size=h₅.objs.size+1:=by rw[hs₈.1,hs₇.1,Heap.size_push]
 rw[hsz]at hz₈ hT₈ hz8
 refine wpAny_pure ⟨_,rfl,wpAny_pure ?_⟩
 show Q (some (.ref h₅.objs.size)) _
 rw[hsz]
 exact hQ h₈ hz₈ (up _ _ D.TOz hTO₅) (h1₅.at fun o e=>up _ o D.i1z e) (h2₅.at fun o e=>up _ o D.i2z e) hT₈ hz8 fun c o c1 c2 c3 c4 e=>up c o c1 (hk₅ c o c1 c2 c3 c4 e)
theorem zq_end{z TI TO i1 i2 l1 l2:Addr}{k1 k2:Nat}{xs ys:Array Value}{a b:Value}{Q:Option Value->Shared->Prop}(hh:A.handled=none)(D:ZipApart z TI TO i1 i2 l1 l2)(hz:IsZip s.heap z TI TO .none)(hTI:IsPair s.heap TI (.ref i1) (.ref i2))(hTO:IsPair s.heap TO a b)
  (h1:Itq b1 s.heap i1 l1 k1) (h2:Itq b2 s.heap i2 l2 k2) (hl1:Isq b1 s.heap l1 xs) (hl2:Isq b2 s.heap l2 ys) (hend:xs[k1]?=none\/ys[k2]?=none)
  (hQ:∀h',(∀c o,c≠z->c≠TO->c≠i1->c≠i2->s.heap.get? c=some o->h'.get? c=some o)->Q none {s with heap:=h'}):wpAny (model prog w) A (pyNext (.ref z)) Q E s:=by
 have hTy:s.TypeIs (.ref z) "zip":=⟨_,hz,rfl⟩
 have stop:∀(h':Heap) (e:Addr),(∀c o,c≠z->c≠TO->c≠i1->c≠i2->s.heap.get? c=some o->h'.get? c=some o)->(∃o,h'.get? e=some o/\o.cls=.type "StopIteration") ->
   wpAny (model prog w) A (do if(←isInstance (.ref e) (.type "StopIteration"))then pure none else throw (.ref e)) Q E {s with heap:=h'}:=fun h' e hk ⟨o,ho,hc⟩ =>
  wpAny_bind (wpAny_isInstance (T:="StopIteration") (b:=true) ⟨o,ho,hc⟩ isSubtype_stop (wpAny_pure (hQ _ hk)))
 unfold pyNext
 refine wpAny_bind (wpAny_attempt (wpAny_callSpecial?_slot (name:=Str.ofString "__next__") hTy PySem.F.slot_zip_next (wpAny_call_entry PySem.F.slot_zip_next hTy PySem.F.entry_zip_next ?_ (PySem.F.args_zip_next_1 _))))
 show wpAny _ _ (field (.ref z) 2>>=_) _ _ _
 refine wpAny_bind (wpAny_field hz rfl (x:=.bool false) rfl ?_)
 show wpAny _ _ (field (.ref z) 3>>=_) _ _ _
 refine wpAny_bind (wpAny_field hz rfl (x:=.ref TI) rfl (wpAny_bind (wpAny_seqItems hTI rfl ?_)))
 show wpAny _ _ (Builtin.SmallTypes.ownedTupleIsFree (.ref z)>>=_) _ _ _
 refine wpAny_bind ?_
 unfold Builtin.SmallTypes.ownedTupleIsFree
 refine wpAny_bind (wpAny_field hz rfl (x:=.none) rfl (wpAny_pure ?_))
 simp only[if_true]
 refine wpAny_bind (wpAny_rule (wpAny_bind (wpAny_field hz rfl (x:=.ref TO) rfl ?_)))
 refine wpAny_bind (wpAny_setField_rec hz (by simp) fun h₁ hz₁ hs₁=>?_)
 replace hz₁:IsZip h₁ z TI TO .ellipsis:=hz₁
 refine wpAny_bind ?_
 simp only[List.zipIdx_cons,List.zipIdx_nil,List.forIn_cons,List.forIn_nil]
 refine wpAny_bind (wpAny_bind (wpAny_onRaise ?_))
 show wpAny _ _ (Builtin.SmallTypes.nextOf (.ref i1)>>=_) _ _ _
 cases hx:xs[k1]? with
 |none =>
  refine wpAny_bind (nxq_end hh (h1.extBut hs₁.extBut D.i1z) (hl1.extBut hs₁.extBut D.l1z) hx fun h₂ e hs₂ he=>?_)
  obtain⟨oe,hoe,hce⟩:=he
  have hz₂:IsZip h₂ z TI TO .ellipsis:=hs₂ _ _ D.i1z.symm hz₁
  have hez:e≠z:=fun x=>by subst x;rw[hz₂]at hoe;cases hoe;simp at hce
  exact wpAny_setField_rec hz₂ (by simp) fun h₃ _ hs₃=>stop h₃ e (fun c o c1 _ c3 _ x=>hs₃.extBut _ _ c1 (hs₂ _ _ c3 (hs₁.extBut _ _ c1 x))) ⟨oe,hs₃.extBut _ _ hez hoe,hce⟩
 |some x =>
  have hy:ys[k2]?=none:=by
   rcases hend with h|h
   ·rw[hx]at h;cases h
   ·exact h
  refine wpAny_bind (nxq_item (h1.extBut hs₁.extBut D.i1z) (hl1.extBut hs₁.extBut D.l1z) hx fun h₂ h1₂ hs₂=>wpAny_pure ?_)
  have hTO₂:IsPair h₂ TO a b:=hs₂.extBut _ _ D.TOi1 (hs₁.extBut _ _ D.TOz hTO)
  refine wpAny_bind (wpAny_seqItems hTO₂ rfl (wpAny_bind (wpAny_updateSeq_pair hTO₂ fun h₃ hTO₃ hs₃=>?_)))
  refine wpAny_bind (wpAny_letGo (wpAny_pure ?_))
  refine wpAny_bind (wpAny_bind (wpAny_onRaise ?_))
  show wpAny _ _ (Builtin.SmallTypes.nextOf (.ref i2)>>=_) _ _ _
  refine wpAny_bind (nxq_end hh (((h2.extBut hs₁.extBut D.i2z).extBut hs₂.extBut D.i12.symm).extBut hs₃.extBut D.TOi2.symm) (((hl2.extBut hs₁.extBut D.l2z).extBut hs₂.extBut D.l2i1).extBut hs₃.extBut D.l2TO) hy fun h₄ e hs₄ he=>?_)
  obtain⟨oe,hoe,hce⟩:=he
  have hz₄:IsZip h₄ z TI TO .ellipsis:=hs₄ _ _ D.i2z.symm (hs₃.extBut _ _ D.TOz.symm (hs₂.extBut _ _ D.i1z.symm hz₁))
  have hez:e≠z:=fun x=>by subst x;rw[hz₄]at hoe;cases hoe;simp at hce
  exact wpAny_setField_rec hz₄ (by simp) fun h₅ _ hs₅=>stop h₅ e (fun c o c1 c2 c3 c4 x=>hs₅.extBut _ _ c1 (hs₄ _ _ c4 (hs₃.extBut _ _ c2 (hs₂.extBut _ _ c3 (hs₁.extBut _ _ c1 x))))) ⟨oe,hs₅.extBut _ _ hez hoe,hce⟩
end
section
variable {prog:Program}{w:World}{A:Around}{E:Value->Shared->Prop}{s:Shared}{b1 b2:Bool}
theorem zip_busy_itemQ{z TI TO i1 i2 l1 l2 T:Addr}{flag:Bool}{oT:Obj}{k1 k2:Nat}{xs ys:Array Value}{x y:Value}{Q:Option Value->Shared->Prop}(D:ZipApart z TI TO i1 i2 l1 l2)
  (hz:ZipN s.heap z TI TO T flag) (hT:s.heap.get? T=some oT) (hTI:IsPair s.heap TI (.ref i1) (.ref i2))
  (h1:Itq b1 s.heap i1 l1 k1) (h2:Itq b2 s.heap i2 l2 k2) (hl1:Isq b1 s.heap l1 xs) (hl2:Isq b2 s.heap l2 ys) (hx:xs[k1]?=some x) (hy:ys[k2]?=some y)
  (hQ:∀h',ZipN h' z TI TO T true->Itq b1 h' i1 l1 (k1+1)->Itq b2 h' i2 l2 (k2+1)->IsPair h' s.heap.objs.size x y ->
   (∀c o,c≠z->c≠i1->c≠i2->s.heap.get? c=some o->h'.get? c=some o)->Q (some (.ref s.heap.objs.size)) {s with heap:=h'}) :
  wpAny (model prog w) A (pyNext (.ref z)) Q E s:=by
 have hTy:s.TypeIs (.ref z) "zip":=⟨_,hz,rfl⟩
 unfold pyNext
 refine wpAny_bind (wpAny_attempt (wpAny_callSpecial?_slot (name:=Str.ofString "__next__") hTy PySem.F.slot_zip_next
  (wpAny_call_entry PySem.F.slot_zip_next hTy PySem.F.entry_zip_next ?_ (PySem.F.args_zip_next_1 _))))
 show wpAny _ _ (field (.ref z) 2>>=_) _ _ _
 refine wpAny_bind (wpAny_field hz rfl (x:=.bool false) rfl ?_)
 show wpAny _ _ (field (.ref z) 3>>=_) _ _ _
 refine wpAny_bind (wpAny_field hz rfl (x:=.ref TI) rfl ?_)
 refine wpAny_bind (wpAny_seqItems hTI rfl ?_)
 show wpAny _ _ (Builtin.SmallTypes.ownedTupleIsFree (.ref z)>>=_) _ _ _
 refine wpAny_bind (busy_free hz hT fun h₁ hz₁ hs₁=>?_)
 simp only[Bool.false_eq_true,if_false]
 refine wpAny_bind ?_
 simp only[←Array.forIn_toList,List.forIn_cons,List.forIn_nil]
 refine wpAny_bind (wpAny_bind (wpAny_holding ?_))
 show wpAny _ _ (Builtin.SmallTypes.nextOf (.ref i1)>>=_) _ _ _
 refine wpAny_bind (nxq_item (h1.extBut hs₁.extBut D.i1z) (hl1.extBut hs₁.extBut D.l1z) hx fun h₂ h1₂ hs₂=>wpAny_pure (wpAny_pure ?_))
 dsimp only
 refine wpAny_bind (wpAny_bind (wpAny_holding ?_))
 show wpAny _ _ (Builtin.SmallTypes.nextOf (.ref i2)>>=_) _ _ _
 refine wpAny_bind (nxq_item ((h2.extBut hs₁.extBut D.i2z).extBut hs₂.extBut D.i12.symm) ((hl2.extBut hs₁.extBut D.l2z).extBut hs₂.extBut D.l2i1) hy fun h₃ h2₃ hs₃=>wpAny_pure (wpAny_pure (wpAny_pure ?_)))
 dsimp only
 refine wpAny_bind (wpAny_newTuple (hsz:=by show 2<=sizeLine;decide) ?_)
 have hsz:h₃.objs.size=s.heap.objs.size:=by rw[hs₃.1,hs₂.1,hs₁.1]
 have hz₃:ZipN h₃ z TI TO T true:=hs₃.extBut _ _ D.i2z.symm (hs₂.extBut _ _ D.i1z.symm hz₁)
 have hk:∀c o,c≠z->c≠i1->c≠i2->s.heap.get? c=some o->h₃.get? c=some o:=fun c o c1 c3 c4 e=>hs₃.extBut _ _ c4 (hs₂.extBut _ _ c3 (hs₁.extBut _ _ c1 e))
 have h1₃:Itq b1 h₃ i1 l1 (k1+1):=h1₂.extBut hs₃.extBut D.i12
 refine wpAny_pure ⟨_,rfl,wpAny_pure ?_⟩
 show Q (some (.ref h₃.objs.size)) _
 have hT3:IsPair (h₃.push {cls:=.type "tuple",data:=.seq #[x,y]}) h₃.objs.size x y:=Heap.get?_push_size _ rfl
 have fin:=hQ (h₃.push {cls:=.type "tuple",data:=.seq #[x,y]}) (Heap.get?_push_of_some _ hz₃) (h1₃.at fun o e=>Heap.get?_push_of_some _ e) (h2₃.at fun o e=>Heap.get?_push_of_some _ e) (by rw[←hsz];exact hT3) fun c o c1 c3 c4 e=>Heap.get?_push_of_some _ (hk c o c1 c3 c4 e)
 rw[←hsz]at fin
 exact fin
theorem zip_busy_endQ{z TI TO i1 i2 l1 l2 T:Addr}{flag:Bool}{oT:Obj}{k1:Nat}{xs:Array Value}{Q:Option Value->Shared->Prop}(hh:A.handled=none)(D:ZipApart z TI TO i1 i2 l1 l2)
  (hz:ZipN s.heap z TI TO T flag) (hT:s.heap.get? T=some oT) (hTI:IsPair s.heap TI (.ref i1) (.ref i2))
  (h1:Itq b1 s.heap i1 l1 k1) (hl1:Isq b1 s.heap l1 xs) (hx:xs[k1]?=none)
  (hQ:∀h',(∀c o,c≠z->c≠i1->c≠i2->s.heap.get? c=some o->h'.get? c=some o)->Q none {s with heap:=h'}) :
  wpAny (model prog w) A (pyNext (.ref z)) Q E s:=by
 have hTy:s.TypeIs (.ref z) "zip":=⟨_,hz,rfl⟩
 unfold pyNext
 refine wpAny_bind (wpAny_attempt (wpAny_callSpecial?_slot (name:=Str.ofString "__next__") hTy PySem.F.slot_zip_next
  (wpAny_call_entry PySem.F.slot_zip_next hTy PySem.F.entry_zip_next ?_ (PySem.F.args_zip_next_1 _))))
 show wpAny _ _ (field (.ref z) 2>>=_) _ _ _
 refine wpAny_bind (wpAny_field hz rfl (x:=.bool false) rfl ?_)
 show wpAny _ _ (field (.ref z) 3>>=_) _ _ _
 refine wpAny_bind (wpAny_field hz rfl (x:=.ref TI) rfl ?_)
 refine wpAny_bind (wpAny_seqItems hTI rfl ?_)
 show wpAny _ _ (Builtin.SmallTypes.ownedTupleIsFree (.ref z)>>=_) _ _ _
 refine wpAny_bind (busy_free hz hT fun h₁ hz₁ hs₁=>?_)
 simp only[Bool.false_eq_true,if_false]
 refine wpAny_bind ?_
 simp only[←Array.forIn_toList,List.forIn_cons,List.forIn_nil]
 refine wpAny_bind (wpAny_bind (wpAny_holding ?_))
 show wpAny _ _ (Builtin.SmallTypes.nextOf (.ref i1)>>=_) _ _ _
 refine wpAny_bind (nxq_end hh (h1.extBut hs₁.extBut D.i1z) (hl1.extBut hs₁.extBut D.l1z) hx fun h₂ e hs₂ he=>?_)
 obtain⟨oe,hoe,hce⟩:=he
 refine wpAny_bind (wpAny_isInstance (T:="StopIteration") (b:=true) ⟨oe,hoe,hce⟩ isSubtype_stop ?_)
 exact wpAny_pure (hQ _ fun c o c1 c2 _ e'=>hs₂ _ _ c2 (hs₁.extBut _ _ c1 e'))
theorem zip_busy_endQ2{z TI TO i1 i2 l1 l2 T:Addr}{flag:Bool}{oT:Obj}{k1 k2:Nat}{xs ys:Array Value}{x:Value}{Q:Option Value->Shared->Prop}(hh:A.handled=none)(D:ZipApart z TI TO i1 i2 l1 l2)
  (hz:ZipN s.heap z TI TO T flag) (hT:s.heap.get? T=some oT) (hTI:IsPair s.heap TI (.ref i1) (.ref i2))
  (h1:Itq b1 s.heap i1 l1 k1) (h2:Itq b2 s.heap i2 l2 k2) (hl1:Isq b1 s.heap l1 xs) (hl2:Isq b2 s.heap l2 ys) (hx:xs[k1]?=some x) (hy:ys[k2]?=none)
  (hQ:∀h',(∀c o,c≠z->c≠i1->c≠i2->s.heap.get? c=some o->h'.get? c=some o)->Q none {s with heap:=h'}) :
  wpAny (model prog w) A (pyNext (.ref z)) Q E s:=by
 have hTy:s.TypeIs (.ref z) "zip":=⟨_,hz,rfl⟩
 unfold pyNext
 refine wpAny_bind (wpAny_attempt (wpAny_callSpecial?_slot (name:=Str.ofString "__next__") hTy PySem.F.slot_zip_next
  (wpAny_call_entry PySem.F.slot_zip_next hTy PySem.F.entry_zip_next ?_ (PySem.F.args_zip_next_1 _))))
 show wpAny _ _ (field (.ref z) 2>>=_) _ _ _
 refine wpAny_bind (wpAny_field hz rfl (x:=.bool false) rfl ?_)
 show wpAny _ _ (field (.ref z) 3>>=_) _ _ _
 refine wpAny_bind (wpAny_field hz rfl (x:=.ref TI) rfl ?_)
 refine wpAny_bind (wpAny_seqItems hTI rfl ?_)
 show wpAny _ _ (Builtin.SmallTypes.ownedTupleIsFree (.ref z)>>=_) _ _ _
 refine wpAny_bind (busy_free hz hT fun h₁ hz₁ hs₁=>?_)
 simp only[Bool.false_eq_true,if_false]
 refine wpAny_bind ?_
 simp only[←Array.forIn_toList,List.forIn_cons,List.forIn_nil]
 refine wpAny_bind (wpAny_bind (wpAny_holding ?_))
 show wpAny _ _ (Builtin.SmallTypes.nextOf (.ref i1)>>=_) _ _ _
 refine wpAny_bind (nxq_item (h1.extBut hs₁.extBut D.i1z) (hl1.extBut hs₁.extBut D.l1z) hx fun h₂ h1₂ hs₂=>wpAny_pure (wpAny_pure ?_))
 dsimp only
 refine wpAny_bind (wpAny_bind (wpAny_holding ?_))
 show wpAny _ _ (Builtin.SmallTypes.nextOf (.ref i2)>>=_) _ _ _
 refine wpAny_bind (nxq_end hh ((h2.extBut hs₁.extBut D.i2z).extBut hs₂.extBut D.i12.symm) ((hl2.extBut hs₁.extBut D.l2z).extBut hs₂.extBut D.l2i1) hy fun h₃ e hs₃ he=>?_)
 obtain⟨oe,hoe,hce⟩:=he
 refine wpAny_bind (wpAny_isInstance (T:="StopIteration") (b:=true) ⟨oe,hoe,hce⟩ isSubtype_stop ?_)
 exact wpAny_pure (hQ _ fun c o c1 c2 c3 e'=>hs₃ _ _ c3 (hs₂.extBut _ _ c2 (hs₁.extBut _ _ c1 e')))
end
structure ZAtQ(b1 b2:Bool) (h:Heap) (z TI TO i1 i2 l1 l2 lo:Nat) (xs ys:Array Value) (i:Nat):Prop where
 ti:IsPair h TI (.ref i1) (.ref i2)
 it1:Itq b1 h i1 l1 i
 it2:Itq b2 h i2 l2 i
 ls1:Isq b1 h l1 xs
 ls2:Isq b2 h l2 ys
 st:(i=0/\IsZip h z TI TO .none/\∃a b,IsPair h TO a b)\/∃(T:Nat) (flag:Bool) (oT:Obj),ZipN h z TI TO T flag/\h.get? T=some oT/\lo<=T
section
variable {prog:Program}{w:World}{A:Around}{R:Result->Shared->Prop}{s:Shared}{b1 b2:Bool}
theorem zip_loopQ{z TI TO i1 i2 l1 l2 S lo n:Nat}{xs ys:Array Value}(hh:A.handled=none)(D:ZipApart z TI TO i1 i2 l1 l2)(hS:S≠z/\S≠TI/\S≠TO/\S≠i1/\S≠i2/\S≠l1/\S≠l2)
  (hL:z<lo/\TO<lo/\i1<lo/\i2<lo/\S<lo) (hnx:n<=xs.size) (hny:n<=ys.size) (hend:xs[n]?=none\/ys[n]?=none) (hn:n<=sizeLine) (res:Value) {h₁:Heap}
  (hR:∀h' tk acc c (as:List Nat),(∀b o,b≠S->b≠z->b≠TO->b≠i1->b≠i2->h₁.get? b=some o->h'.get? b=some o)->h'.get? S=some {cls:=.type "list",dict:=none,data:=.seq acc c,slots:=#[]}->as.length=n->ZTold h' lo xs ys as ->
   acc.toList=as.map Value.ref->R (.ok (.ret res)) {s with heap:=h',toks:=tk}) :
  ∀(k i:Nat) (h:Heap) (tk c:Nat) (acc:Array Value) (as:List Nat),n-i=k->i<=n->ZAtQ b1 b2 h z TI TO i1 i2 l1 l2 lo xs ys i ->
   (∀b o,b≠S->b≠z->b≠TO->b≠i1->b≠i2->h₁.get? b=some o->h.get? b=some o)->lo<=h.objs.size ->
   h.get? S=some {cls:=.type "list",dict:=none,data:=.seq acc c,slots:=#[]}->acc.toList=as.map Value.ref->as.length=i->ZTold h lo xs ys as ->
   codeAny (model prog w) A (.builtin "list.extend.loop" ⟨[.ref S,.ref z,res],[]⟩) R {s with heap:=h,toks:=tk}:=by
 obtain⟨s1,s2,s3,s4,s5,s6,s7⟩:=hS
 obtain⟨L1,L2,L3,L4,L5⟩:=hL
 have up:∀{a b:Nat},b<lo->lo<=a->a≠b:=fun h1 h2=>Nat.ne_of_gt (Nat.lt_of_lt_of_le h1 h2)
 intro k
 induction k with
 |zero =>
  intro i h tk c acc as hk hi hst hkeep hlo hS hacc hal hG
  have hin:i=n:=by omega
  subst hin
  refine codeAny_builtin PySem.F.entry_extend_loop ?_
  rw[Around.under_plainId PySem.F.plain_extend_loop _]
  show wpAny _ A.in1 (pyNext (.ref z)>>=_) _ _ _
  have fin:∀h':Heap,(∀c o,c≠z->c≠TO->c≠i1->c≠i2->h.get? c=some o->h'.get? c=some o)->R (.ok (.ret res)) {s with heap:=h',toks:=tk}:=fun h' hq =>
   hR h' tk acc c as (fun b o b1 b2 b3 b4 b5 e=>hq b o b2 b3 b4 b5 (hkeep b o b1 b2 b3 b4 b5 e)) (hq S _ s1 s3 s4 s5 hS) hal (hG.keep fun(c:Nat) o hc e=>hq c o (up L1 hc) (up L2 hc) (up L3 hc) (up L4 hc) e) hacc
  rcases hst.st with⟨e0,hz,a,b,hTO⟩|⟨T,flag,oT,hz,hT,hTlo⟩
  ·exact wpAny_bind (zq_end (s:={s with heap:=h,toks:=tk}) (A:=A.in1) hh D hz hst.ti hTO hst.it1 hst.it2 hst.ls1 hst.ls2 hend fun h' hq=>wpAny_pure (fin h' hq))
  ·cases hx:xs[i]? with
   |none=>exact wpAny_bind (zip_busy_endQ (s:={s with heap:=h,toks:=tk}) (A:=A.in1) hh D hz hT hst.ti hst.it1 hst.ls1 hx fun h' hq=>wpAny_pure (fin h' fun c o c1 _ c3 c4 e=>hq c o c1 c3 c4 e))
   |some x =>
    have hy:ys[i]?=none:=hend.resolve_left (by rw[hx];intro z;cases z)
    exact wpAny_bind (zip_busy_endQ2 (s:={s with heap:=h,toks:=tk}) (A:=A.in1) hh D hz hT hst.ti hst.it1 hst.it2 hst.ls1 hst.ls2 hx hy fun h' hq=>wpAny_pure (fin h' fun c o c1 _ c3 c4 e=>hq c o c1 c3 c4 e))
 |succ k ih =>
  intro i h tk c acc as hk hi hst hkeep hlo hS hacc hal hG
  have hlt:i<xs.size:=by omega
  have hltn:i<n:=by omega
  have hlt2:i<ys.size:=by omega
  have hx:xs[i]?=some xs[i]:=Array.getElem?_eq_getElem hlt
  have hy:ys[i]?=some ys[i]:=Array.getElem?_eq_getElem hlt2
  have hasz:acc.size=i:=by rw[←hal,←List.length_map (f:=Value.ref),←hacc];simp
  refine codeAny_builtin PySem.F.entry_extend_loop ?_
  rw[Around.under_plainId PySem.F.plain_extend_loop _]
  show wpAny _ A.in1 (pyNext (.ref z)>>=_) _ _ _
  -- what follows a turn
  have next:∀h':Heap,(∃(T:Nat) (flag:Bool) (oT:Obj),ZipN h' z TI TO T flag/\h'.get? T=some oT/\lo<=T)->Itq b1 h' i1 l1 (i+1)->Itq b2 h' i2 l2 (i+1)->IsPair h' h.objs.size xs[i] ys[i] ->
    (∀c o,c≠z->c≠TO->c≠i1->c≠i2->h.get? c=some o->h'.get? c=some o) ->
    wpAny (model prog w) A.in1 (updateSeq S (·.push (Value.ref h.objs.size))>>=fun _=>again (.builtin "list.extend.loop" ⟨[.ref S,.ref z,res],[]⟩))
     (fun fin s'=>match fin with|.done f=>R (.ok f) s'|.again c'=>c'.quiet=true/\codeAny (model prog w) A c' R s') (fun e s'=>R (.error e) s') {s with heap:=h',toks:=tk}:=by
   intro h' hb j1 j2 hp hq
   have hS':h'.get? S=some {cls:=.type "list",dict:=none,data:=.seq acc c,slots:=#[]}:=hq S _ s1 s3 s4 s5 hS
   have oth:∀b o,b≠S->h'.get? b=some o->(h'.update S (Obj.mapSeq (·.push (Value.ref h.objs.size)))).get? b=some o:=fun b o hb e=>(Heap.get?_update_other _ _ (Ne.symm hb)).trans e
   have hp':IsPair (h'.update S (Obj.mapSeq (·.push (Value.ref h.objs.size)))) h.objs.size xs[i] ys[i]:=oth _ _ (up L5 hlo) hp
   refine wpAny_bind (wpAny_updateSeq hS' rfl (wpAny_pure ⟨plainId_quiet PySem.F.plain_extend_loop _,?_⟩) (by rw[hasz];omega) (by show(acc.push _).size<=sizeLine+1;rw[Array.size_push,hasz];omega))
   refine ih (i+1) (h'.update S (Obj.mapSeq (·.push (Value.ref h.objs.size)))) tk _ (acc.push (Value.ref h.objs.size)) (as++[h.objs.size]) (by omega) hltn ⟨?_,?_,?_,?_,?_,?_⟩ ?_ ?_ (Heap.get?_update_self _ hS' rfl) ?_ (by rw[List.length_append,hal];rfl) ?_
   ·exact oth _ _ (Ne.symm s2) (hq TI _ D.TIz D.TITO D.TIi1 D.TIi2 hst.ti)
   ·exact j1.at fun o e=>oth _ o (Ne.symm s4) e
   ·exact j2.at fun o e=>oth _ o (Ne.symm s5) e
   ·exact hst.ls1.at fun o e=>oth _ o (Ne.symm s6) (hq _ o D.l1z D.l1TO D.l1i1 D.l1i2 e)
   ·exact hst.ls2.at fun o e=>oth _ o (Ne.symm s7) (hq _ o D.l2z D.l2TO D.l2i1 D.l2i2 e)
   ·obtain⟨T,flag,oT,e1,e2,e3⟩:=hb
    exact .inr ⟨T,flag,oT,oth _ _ (Ne.symm s1) e1,oth _ _ (up L5 e3) e2,e3⟩
   ·exact fun b o b1 b2 b3 b4 b5 e=>oth b o b1 (hq b o b2 b3 b4 b5 (hkeep b o b1 b2 b3 b4 b5 e))
   ·have:h.objs.size<(h'.update S (Obj.mapSeq (·.push (Value.ref h.objs.size)))).objs.size:=Heap.lt_size hp'
    omega
   ·rw[Array.toList_push,hacc,List.map_append];rfl
   ·exact hG.snoc (h':=h'.update S (Obj.mapSeq (·.push (Value.ref h.objs.size)))) (fun(c:Nat) o hc e=>oth c o (up L5 hc) (hq c o (up L1 hc) (up L2 hc) (up L3 hc) (up L4 hc) e)) hlo (Nat.le_refl _) (by rw[hal];exact hx) (by rw[hal];exact hy) hp'
  rcases hst.st with⟨e0,hz,a,b,hTO⟩|⟨T,flag,oT,hz,hT,hTlo⟩
  ·refine wpAny_bind (zq_item (s:={s with heap:=h,toks:=tk}) D hz hst.ti hTO hst.it1 hst.it2 hst.ls1 hst.ls2 hx hy fun h' a1 a2 a3 a4 a5 a6 hq=>?_)
   exact next h' ⟨h.objs.size,false,_,a1,a5,hlo⟩ a3 a4 a5 hq
  ·refine wpAny_bind (zip_busy_itemQ (s:={s with heap:=h,toks:=tk}) D hz hT hst.ti hst.it1 hst.it2 hst.ls1 hst.ls2 hx hy fun h' a1 a3 a4 a5 hq=>?_)
   exact next h' ⟨T,true,oT,a1,hq T oT (up L1 hTlo) (up L3 hTlo) (up L4 hTlo) hT,hTlo⟩ a3 a4 a5 fun c o c1 _ c3 c4 e=>hq c o c1 c3 c4 e
end
section
variable {prog:Program}{w:World}{A:Around}{E:Value->Shared->Prop}{s:Shared}{b1 b2:Bool}
theorem call_list_zipQ{l1 l2 n:Nat}{xs ys:Array Value}{Q:Value->Shared->Prop}(hh:A.handled=none)(hl1:Isq b1 s.heap l1 xs)(hl2:Isq b2 s.heap l2 ys)(hnx:n<=xs.size)(hny:n<=ys.size)(hend:xs[n]?=none\/ys[n]?=none)(hn:n<=sizeLine)
  (hQ:∀h' tk acc c (as:List Nat),(∀b o,s.heap.get? b=some o->h'.get? b=some o)->h'.get? (s.heap.objs.size+5)=some {cls:=.type "list",dict:=none,data:=.seq acc c,slots:=#[]}->as.length=n->ZTold h' (s.heap.objs.size+6) xs ys as ->
   acc.toList=as.map Value.ref->Q (.ref (s.heap.objs.size+5)) {s with heap:=h',toks:=tk}) :
  wpAny (model prog w) A (call (.type "zip") [.ref l1,.ref l2]) (fun v s1=>wpAny (model prog w) A (call (.type "list") [v]) Q E s1) E s:=by
 have lt1:l1<s.heap.objs.size:=by obtain⟨_,e⟩:=hl1.got;exact Heap.lt_size e
 have lt2:l2<s.heap.objs.size:=by obtain⟨_,e⟩:=hl2.got;exact Heap.lt_size e
 refine zq_call hl1 hl2 fun g hz hTI hTO h1 h2 hsz hk=>?_
 have D:ZipApart (s.heap.objs.size+4) (s.heap.objs.size+2) (s.heap.objs.size+3) s.heap.objs.size (s.heap.objs.size+1) l1 l2:=by
  refine⟨?_,?_,?_,?_,?_,?_,?_,?_,?_,?_,?_,?_,?_,?_,?_,?_,?_,?_⟩<;>(show @Ne Nat _ _;omega)
 have hS:(g.push {cls:=.type "list",data:=.seq #[]}).get? g.objs.size=some {cls:=.type "list",data:=.seq #[]}:=Heap.get?_push_size _ rfl
 refine callType_codes (Q₁:=fun obj s₁=>obj=.ref g.objs.size/\s₁={s with heap:=g.push {cls:=.type "list",data:=.seq #[]}}) PySem.F.called_list (PySem.F.typeCall_list_1 _) PySem.F.entry_list_init
  (code_list_new _ ⟨rfl,rfl⟩) fun obj s₁ h₁=>?_
 obtain⟨rfl,rfl⟩:=h₁
 refine⟨⟨_,hS,rfl⟩,PySem.F.args_list_init_2 _ _,?_⟩
 show wpAny _ A.in1.in1 (do let old ←Builtin.List.listItems (.ref g.objs.size);Builtin.List.listUpdate (.ref g.objs.size) (fun _=>#[]);letGo old.toList.reverse;Builtin.List.listExtendWith (.ref g.objs.size) (.ref (s.heap.objs.size+4)) .none) _ _ _
 refine wpAny_bind ?_
 unfold Builtin.List.listItems
 refine wpAny_bind (wpAny_seqItems hS rfl (wpAny_pure ?_))
 show wpAny _ A.in1.in1 (updateSeq g.objs.size (fun _=>#[])>>=fun _=>letGo (#[]:Array Value).toList.reverse>>=fun _=>Builtin.List.listExtendWith (.ref g.objs.size) (.ref (s.heap.objs.size+4)) .none) _ _ _
 refine wpAny_bind (wpAny_updateSeq hS rfl ?_)
 have hS₂:=Heap.get?_update_self (Obj.mapSeq (fun _=>(#[]:Array Value))) hS rfl
 have oth:∀b o,g.get? b=some o->((g.push {cls:=.type "list",data:=.seq #[]}).update g.objs.size (Obj.mapSeq (fun _=>(#[]:Array Value)))).get? b=some o :=
  fun b o e=>(Heap.get?_update_other _ _ (Nat.ne_of_gt (Heap.lt_size e))).trans (Heap.get?_push_of_some _ e)
 generalize hg2:(g.push {cls:=.type "list",data:=.seq #[]}).update g.objs.size (Obj.mapSeq (fun _=>(#[]:Array Value)))=g2 at hS₂ oth⊢
 refine wpAny_bind (wpAny_letGo ?_)
 have hT2:Shared.TypeIs {s with heap:=g2} (.ref (s.heap.objs.size+4)) "zip":=⟨_,oth _ _ hz,rfl⟩
 unfold Builtin.List.listExtendWith
 refine wpAny_bind (wpAny_typeOf hT2 ?_)
 have q1:Builtin.List.listSameRef (.ref g.objs.size) (.ref (s.heap.objs.size+4))=false:=by
  simp only[Builtin.List.listSameRef,beq_eq_false_iff_ne]
  intro z
  have z':(g.objs.size:Nat)=s.heap.objs.size+4:=z
  omega
 have q2:(Value.type "zip" == Value.type "list")=false:=by decide
 have q3:(Value.type "zip" == Value.type "tuple")=false:=by decide
 simp only[q1,q2,q3,Bool.or_false,Bool.false_eq_true,if_false]
 refine wpAny_bind (wpAny_pyIter_zip (s:={s with heap:=g2}) (oth _ _ hz) ?_)
 refine wpAny_bind (wpAny_holding ?_)
 unfold Builtin.List.listLengthHint
 refine wpAny_bind (wpAny_specialOf hT2 zip_no_len ?_)
 show wpAny _ A.in1.in1 (specialOf (Value.ref (s.heap.objs.size+4)) (Str.ofString "__length_hint__")>>=_) _ _ _
 refine wpAny_bind (wpAny_specialOf hT2 zip_no_hint ?_)
 refine wpAny_pure ?_
 show wpAny _ A.in1.in1 (rule "list.extend.makes-room">>=fun _=>Builtin.List.listTouch (.ref g.objs.size)>>=fun _ =>
  again (.builtin "list.extend.loop" ⟨[.ref g.objs.size,.ref (s.heap.objs.size+4),.none],[]⟩)) _ _ _
 refine wpAny_bind (wpAny_rule ?_)
 refine wpAny_bind ?_
 show wpAny _ A.in1.in1 (updateSeq g.objs.size (·.push .none)>>=fun _=>updateSeq g.objs.size (·.pop)) _ _ _
 refine wpAny_bind (wpAny_updateSeq hS₂ rfl ?_)
 have hS₃:=Heap.get?_update_self (Obj.mapSeq (·.push Value.none)) hS₂ rfl
 refine wpAny_updateSeq (hz:=by seq_fits) hS₃ rfl ?_
 have hS₄:=Heap.get?_update_self (Obj.mapSeq (·.pop)) hS₃ rfl
 have oth2:∀b o,b≠g.objs.size->g2.get? b=some o->((g2.update g.objs.size (Obj.mapSeq (·.push Value.none))).update g.objs.size (Obj.mapSeq (·.pop))).get? b=some o :=
  fun b o hb e=>(Heap.get?_update_other _ _ (Ne.symm hb)).trans ((Heap.get?_update_other _ _ (Ne.symm hb)).trans e)
 have all:∀b o,g.get? b=some o->((g2.update g.objs.size (Obj.mapSeq (·.push Value.none))).update g.objs.size (Obj.mapSeq (·.pop))).get? b=some o:=fun b o e=>oth2 b o (Nat.ne_of_lt (Heap.lt_size e)) (oth b o e)
 generalize hg3:(g2.update g.objs.size (Obj.mapSeq (·.push Value.none))).update g.objs.size (Obj.mapSeq (·.pop))=g3 at hS₄ all⊢
 have hlo:s.heap.objs.size+6<=g3.objs.size:=by
  have h5:(g.objs.size:Nat)<g3.objs.size:=Heap.lt_size hS₄
  have h6:(g.objs.size:Nat)=s.heap.objs.size+5:=hsz
  omega
 refine wpAny_pure ⟨plainId_quiet PySem.F.plain_extend_loop _,zip_loopQ (n:=n) (s:=s) (lo:=s.heap.objs.size+6) (h₁:=g3) (A:=A.in1) hh D (by omega) (by omega) hnx hny hend hn .none (fun h' tk acc c as hq hS' hal hG hacc=>?_) n 0 g3 s.toks _ #[] [] (by omega) (Nat.zero_le _)
  ⟨all _ _ hTI,h1.at fun o e=>all _ o e,h2.at fun o e=>all _ o e,hl1.at fun o e=>all _ o (hk _ o e),hl2.at fun o e=>all _ o (hk _ o e),.inl ⟨rfl,all _ _ hz,_,_,all _ _ hTO⟩⟩ (fun _ _ _ _ _ _ _ e=>e) hlo hS₄ rfl rfl ⟨List.Pairwise.nil,(fun _ z=>nomatch z),fun _ _ z=>by simp at z⟩⟩
 have eg:g.objs.size=s.heap.objs.size+5:=hsz
 refine⟨rfl,?_⟩
 rw[eg]at hS' ⊢
 refine hQ h' tk acc c as (fun b o e=>?_) hS' hal hG hacc
 have hb:∀k,b≠s.heap.objs.size+k:=fun k=>Nat.ne_of_lt (Nat.lt_of_lt_of_le (Heap.lt_size e) (Nat.le_add_right _ k))
 exact hq b o (by rw[eg];exact hb 5) (hb 4) (hb 3) (hb 0) (hb 1) (all b o (hk b o e))
end
def SqB(K:PySem.W.Frag)(b:Bool)(H:Hp)(p:Addr)(xs:List V):Prop:=match b with|false=>SqL K H p xs|true=>SqT K H p xs
section
variable {X:Cx}{a b:Expr}{t:TA}{p1 p2 p3 p4:Pos}
theorem isq_of{c:Bool}{pins:List (Addr×Obj)}{σ:St}{H:Hp}{s:Shared}{p:Addr}{xs:List V}(I:Inv X pins σ H s)(h:SqB X.K c H p xs):∃its:List Value,Vals xs its/\Isq c s.heap p its.toArray/\xs.length<=sizeLine:=by
 cases c with
 |false =>
  obtain⟨its,rv,pl,hz⟩:=I.list h
  exact⟨its,rv,pl.isList,hz⟩
 |true =>
  obtain⟨its,rv,pl,hz⟩:=I.tuple h
  exact⟨its,rv,(show Heap.IsTuple _ _ _ by obtain⟨o,e,r⟩:=pl;exact⟨o,e,r⟩),hz⟩
def tLZq(K:PySem.W.Frag)(t:TA):TE:=fun σ H Q=>t σ H fun vs H2=>∃b1 b2 p q xs ys,vs=[.ref p,.ref q]/\SqB K b1 H2 p xs/\SqB K b2 H2 q ys /\
 ∀(l:Addr) (ts:List Addr) (H':Hp),ZOut xs ys ts H2 H'->H2 l=none->H' l=some (.lst (ts.map V.ref))->Q (.ref l) H'
theorem pe_listzipQ(hc:X.calm=true)(hgl:Gl X "list")(hml:X.mg "list"=none)(hgz:Gl X "zip")(hmz:X.mg "zip"=none)(ha:PA X [a,b] t)
  (he:starEach [a,b] X.env=(false,eval a X.env)::starEach [b] X.env:=by rfl) (hpl:(backTo p2 (starEach [b] X.env)).any (·.1)=false:=by rfl)
  (he2:starEach [.Call (.Name "zip" p1) [a,b] [] p2] X.env=[(false,eval (.Call (.Name "zip" p1) [a,b] [] p2) X.env)]:=by rfl) :
  PE X (.Call (.Name "list" p3) [.Call (.Name "zip" p1) [a,b] [] p2] [] p4) (tLZq X.K t):=by
 intro pins s σ H Q I h
 refine wpAny_Call_Name_kw (ld_blt I hgl hml boot_list ?_ (by decide) (by decide))
 refine PyProof.Rows.callWith_type1 ?_ he2 rfl
 rw[he2]
 refine Calls.spliced_cons ?_
 refine wpAny_Call_Name_kw (ld_blt I hgz hmz boot_zip ?_ (by decide) (by decide))
 refine PyProof.Rows.callWith_type1 ?_ he hpl
 refine thn (ha p2 pins s σ H _ I h) fun us s1 ⟨vs,H1,I1,r1,q1⟩=>?_
 obtain⟨c1,c2,p,q,xs,ys,rfl,hx,hy,hq⟩:=q1
 obtain⟨u,w',rfl,r1,r2⟩:=vals2 r1
 cases r1
 cases r2
 obtain⟨its,rv,pl,hz⟩:=isq_of I1 hx
 obtain⟨jts,rw',pm,hz'⟩:=isq_of I1 hy
 have e1:=rv.length
 have e2:=rw'.length
 refine thn (call_list_zipQ (n:=min xs.length ys.length) (Q:=EP X pins σ Q) (E:=X.xe) (I1.ok.hd hc) pl pm (by simp only[List.size_toArray];omega) (by simp only[List.size_toArray];omega) (by have:=min_end (xs:=its) (ys:=jts);rw[←e1,←e2]at this;simpa using this) (by omega) fun h' tk acc ce as hk hS hal hG hacc=>?_) fun v s2 h2=>Calls.spliced_nil (by simpa using h2)
 have hSa:s1.heap.objs.size+5∉as:=fun hm=>by have:=hG.low _ hm;omega
 obtain⟨I2,zo,hn⟩:=zip_lay (tk:=tk) (o:=.lst (as.map V.ref)) I1 rv rw' (Nat.le_add_right _ 6) hk hal hG (Nat.le_add_right _ 5) hSa
  (show ObjOk X.prog X.w _ _ _ (.lst _)from⟨by rw[List.length_map,hal];omega,as.map Value.ref,ce,vals_refs as,by rw[←hacc];simpa using hS⟩)
 exact⟨.ref (s1.heap.objs.size+5),_,I2,rfl,hq _ as _ zo hn upd_same⟩
end
section
variable {X:Cx}{pins:List (Addr×Obj)}{σ:St}{H:Hp}{s:Shared}{h':Heap}
theorem Inv.turnedL{t':Nat}{fp:List Addr}(I:Inv X pins σ H s)(hf:∀b∈fp,FpOk X pins H b)(k:∀b o,b∉fp->s.heap.get? b=some o->h'.get? b=some o):Inv X pins σ H {s with heap:=h',toks:=t'}:=by
 have nit:∀b u,H b=some u->b∉fp:=fun b u e z=>by rw[(hf b z).1]at e;cases e
 have hL:X.env.locals∉fp:=fun z=>(hf _ z).2.1 rfl
 refine I.step (g':=s.gens) (d':=s.drawn) (ch:=fp) (fun b hb=>?_) (fun b o _ _ hc e _=>k b o hc e) (fun b o _ _ hc e _=>⟨o.slots,k b o hc e⟩) (fun _ _ _ _ n=>n)
  (fun b o hc e=>⟨o,k b o hc e⟩) (fun _ _ e=>e) (fun _ _ _ e=>e) (fun b ps e=>⟨#[],by rw[e];simp⟩) (fun m hm=>?_) (fun b u e=>?_) I.bare
 ·obtain⟨_,f1,_,f3,f4,f5⟩:=hf b hb
  exact⟨f3,f1,f4,f5⟩
 ·obtain⟨o,es,ep,ho,r⟩:=hm
  exact⟨o,es,ep,k _ o hL ho,r⟩
 ·refine(I.hok b u e).stay (fun c v hc q=>k c v ?_ q) (fun _ q=>q) fun _ _ q=>q
  rcases hc with z|z
  ·rw[z];exact nit b u e
  ·exact nit c _ z
theorem Inv.turnedN{t':Nat}{fp:List Addr}{a:Addr}{o:HO}(I:Inv X pins σ H s)(hf:∀b∈fp,FpOk X pins H b)(k:∀b o,b∉fp->s.heap.get? b=some o->h'.get? b=some o)(ha:s.heap.objs.size<=a)(new:ObjOk X.prog X.w (upd H a o) h' a o) :
  Inv X pins σ (upd H a o) {s with heap:=h',toks:=t'}:=by
 have nit:∀b u,H b=some u->b∉fp:=fun b u e z=>by rw[(hf b z).1]at e;cases e
 have hL:X.env.locals∉fp:=fun z=>(hf _ z).2.1 rfl
 have hn:H a=none:=I.hok.fresh ha
 have up:∀b u,H b=some u->upd H a o b=some u:=fun b u e=>by rw[upd_ne (ne_of_none e hn)];exact e
 refine I.step (g':=s.gens) (d':=s.drawn) (ch:=fp) (fun b hb=>?_) (fun b o _ _ hc e _=>k b o hc e) (fun b o _ _ hc e _=>⟨o.slots,k b o hc e⟩) (fun b ob _ e n=>?_)
  (fun b o hc e=>⟨o,k b o hc e⟩) (fun b _ e=>up b _ e) (fun b _ _ e=>up b _ e) (fun b ps e=>⟨#[],by rw[up b _ e];simp⟩) (fun m hm=>?_) (fun b u e=>?_) I.bare
 ·obtain⟨_,f1,_,f3,f4,f5⟩:=hf b hb
  exact⟨f3,f1,f4,f5⟩
 ·rw[upd_ne (Nat.ne_of_lt (Nat.lt_of_lt_of_le (Heap.lt_size e) ha))];exact n
 ·obtain⟨o,es,ep,ho,r⟩:=hm
  exact⟨o,es,ep,k _ o hL ho,r⟩
 ·by_cases hb:b=a
  ·subst hb;rw[upd_same]at e;cases e;exact new
  ·rw[upd_ne hb]at e
   refine(I.hok b u e).stay (fun c v hc q=>k c v ?_ q) (fun c q=>up c _ q) fun c _ q=>up c _ q
   rcases hc with z|z
   ·rw[z];exact nit b u e
   ·exact nit c _ z
end
def Itz (K : PySem.W.Frag) (b1 : Bool) (l1 : Addr) (b2 : Bool) (l2 : Addr) : It :=
  ⟨fun i H => ∃ xs ys x y, SqB K b1 H l1 xs ∧ SqB K b2 H l2 ys ∧ xs[i]? = some x ∧ ys[i]? = some y,
   fun i H v H' => ∃ p x y, H p = none ∧ v = .ref p ∧ H' = upd H p (.tup [x, y]) ∧ (∀ xs, SqB K b1 H l1 xs → xs[i]? = some x) ∧ ∀ ys, SqB K b2 H l2 ys → ys[i]? = some y,
   fun i H => ∃ xs ys, SqB K b1 H l1 xs ∧ SqB K b2 H l2 ys ∧ (xs.length ≤ i ∨ ys.length ≤ i)⟩
theorem SqB.inj{X:Cx}{pins:List (Addr×Obj)}{σ:St}{H:Hp}{s:Shared}{b:Bool}{a:Addr}{xs ys:List V}(I:Inv X pins σ H s)(h:SqB X.K b H a xs)(h2:SqB X.K b H a ys):xs=ys:=by
 cases b with
 |false=>exact I.list_inj h h2
 |true=>exact I.tuple_inj h h2
theorem turn_zip{P:Program}{w:World}{K:PySem.W.Frag}{elts:List Expr}{x1:Nat}{pos:Pos}{b1 b2:Bool}(z TI TO i1 i2 l1 l2:Addr)(D:ZipApart z TI TO i1 i2 l1 l2):Turn P w K (.Tuple elts x1 pos) (Itz K b1 l1 b2 l2) [z,TI,TO,i1,i2] z
  (fun i h=>IsZip h z TI TO .none/\IsPair h TI (.ref i1) (.ref i2)/\(∃a b,IsPair h TO a b)/\Itq b1 h i1 l1 i/\Itq b2 h i2 l2 i) where
 mem:=by simp
 obj:=fun i h st b hb=>by
  obtain⟨hz,hTI,⟨a,c,hTO⟩,h1,h2⟩:=st
  have itc:∀{b:Bool}{i l:Addr}{k:Nat},Itq b h i l k->∃o,h.get? i=some o/\∀v,o.data≠.cell v:=fun{b i l k} q=>by
   cases b with
   |false=>obtain⟨o,e,_,d⟩:=(show h.IsListIter i l k from q);exact⟨o,e,fun v z=>by rw[d]at z;cases z⟩
   |true=>obtain⟨o,e,_,d⟩:=(show h.IsTupleIter i l k from q);exact⟨o,e,fun v z=>by rw[d]at z;cases z⟩
  simp only[List.mem_cons,List.not_mem_nil,or_false]at hb
  rcases hb with rfl|rfl|rfl|rfl|rfl
  ·exact⟨_,hz,fun v z=>by cases z⟩
  ·exact⟨_,hTI,fun v z=>by cases z⟩
  ·exact⟨_,hTO,fun v z=>by cases z⟩
  ·exact itc h1
  ·exact itc h2
 keep:=fun i h h' st k=>by
  obtain⟨hz,hTI,⟨a,c,hTO⟩,h1,h2⟩:=st
  exact⟨k z (by simp) _ hz,k TI (by simp) _ hTI,⟨a,c,k TO (by simp) _ hTO⟩,h1.at fun o e=>k i1 (by simp) o e,h2.at fun o e=>k i2 (by simp) o e⟩
 item:=by
  intro X hP hw hK hc i pins s σ H E I hf st hg
  subst hP hw hK
  obtain⟨xs,ys,x,y,hq1,hq2,hx,hy⟩:=hg
  obtain⟨hz,hTI,⟨a,c,hTO⟩,h1,h2⟩:=st
  obtain⟨its,rv,p1,_⟩:=isq_of I hq1
  obtain⟨jts,rw',p2,_⟩:=isq_of I hq2
  obtain⟨u,hu,ru⟩:=rv.get hx
  obtain⟨v,hv,rv2⟩:=rw'.get hy
  refine zq_item D hz hTI hTO h1 h2 p1 p2 (x:=u) (y:=v) (by simpa using hu) (by simpa using hv) fun h' a1 a2 a3 a4 a5 a6 hk=>?_
  refine⟨.ref s.heap.objs.size,rfl,wpAny_letOwnedTupleGo_zip (s:={s with heap:=h'}) a1 fun h2' hz' hs'=>?_⟩
  have np:∀b∈[z,TI,TO,i1,i2],b≠s.heap.objs.size:=fun b hb e=>by
   obtain⟨o,e2⟩:∃o,s.heap.get? b=some o:=by
    simp only[List.mem_cons,List.not_mem_nil,or_false]at hb
    rcases hb with rfl|rfl|rfl|rfl|rfl
    ·exact⟨_,hz⟩
    ·exact⟨_,hTI⟩
    ·exact⟨_,hTO⟩
    ·exact h1.got
    ·exact h2.got
   have:=Heap.lt_size e2
   rw[e]at this
   exact Nat.lt_irrefl _ this
  have kk:∀b o,b∉[z,TI,TO,i1,i2]->s.heap.get? b=some o->h2'.get? b=some o:=fun b o hb e=>by
   simp only[List.mem_cons,List.not_mem_nil,or_false,not_or]at hb
   obtain⟨n1,n2,n3,n4,n5⟩:=hb
   exact hs'.extBut _ _ n1 (hk b o n1 n3 n4 n5 e)
  have a5':IsPair h2' s.heap.objs.size u v:=hs'.extBut _ _ (np z (by simp)).symm a5
  refine⟨.ref s.heap.objs.size,upd H s.heap.objs.size (.tup [x,y]),I.turnedN (t':=s.toks) hf kk (Nat.le_refl _) ⟨(by show 2<=sizeLine;decide),_,.cons ru (.cons rv2 .nil),⟨_,a5',rfl,_,rfl⟩,_,a5',rfl⟩,rfl,
   ⟨_,x,y,I.hok.fresh (Nat.le_refl _),rfl,rfl,fun zs hz2=>by rw[SqB.inj I hz2 hq1];exact hx,fun zs hz2=>by rw[SqB.inj I hz2 hq2];exact hy⟩,?_,fun b hb=>?_⟩
  ·exact⟨hz',hs'.extBut _ _ D.TIz (hk TI _ D.TIz D.TITO D.TIi1 D.TIi2 hTI),⟨u,v,hs'.extBut _ _ D.TOz a2⟩,a3.extBut hs'.extBut D.i1z,a4.extBut hs'.extBut D.i2z⟩
  ·rw[upd_ne (np b hb)];exact(hf b hb).1
 done:=by
  intro X hP hw hK hc i pins s σ H E I hf st hg
  subst hP hw hK
  obtain⟨xs,ys,hq1,hq2,hl⟩:=hg
  obtain⟨hz,hTI,⟨a,c,hTO⟩,h1,h2⟩:=st
  obtain⟨its,rv,p1,_⟩:=isq_of I hq1
  obtain⟨jts,rw',p2,_⟩:=isq_of I hq2
  have e1:=rv.length
  have e2:=rw'.length
  refine zq_end (I.ok.hd hc) D hz hTI hTO h1 h2 p1 p2 ?_ fun h' hk=>⟨rfl,I.turnedL (t':=s.toks) hf fun b o hb e=>?_⟩
  ·rcases hl with hl|hl
   ·left;simp;omega
   ·right;simp;omega
  ·simp only[List.mem_cons,List.not_mem_nil,or_false,not_or]at hb
   exact hk b o hb.1 hb.2.2.1 hb.2.2.2.1 hb.2.2.2.2 e
 self:=fun _ _ _ _ _ st h=>wpAny_pyIter_zip st.1 h
def iZip(K:PySem.W.Frag)(t:TA):TI:=fun σ H R=>t σ H fun vs H2=>∃b1 b2 p q xs ys,vs=[.ref p,.ref q]/\SqB K b1 H2 p xs/\SqB K b2 H2 q ys/\R (Itz K b1 p b2 q) H2
theorem pi_zip{X:Cx}{a b:Expr}{t:TA}{p1 p2 pos:Pos}{elts:List Expr}{x1:Nat}(K:PySem.W.Frag)(hK:X.K=K)(hg:Gl X "zip")(hm:X.mg "zip"=none)(ha:PA X [a,b] t)
  (he:starEach [a,b] X.env=(false,eval a X.env)::starEach [b] X.env:=by rfl) (hpl:(backTo p2 (starEach [b] X.env)).any (·.1)=false:=by rfl):PI X (.Tuple elts x1 pos) (.Call (.Name "zip" p1) [a,b] [] p2) (iZip K t):=by
 subst hK
 intro pins s σ H R I h
 refine wpAny_Call_Name_kw (ld_blt I hg hm boot_zip ?_ (by decide) (by decide))
 refine PyProof.Rows.callWith_type1 ?_ he hpl
 refine thn (ha p2 pins s σ H _ I h) fun us s1 ⟨vs,H1,I1,r1,q1⟩=>?_
 obtain⟨c1,c2,p,q,xs,ys,rfl,hx,hy,hq⟩:=q1
 obtain⟨u,w',rfl,r1,r2⟩:=vals2 r1
 cases r1
 cases r2
 obtain⟨its,rv,pl,_⟩:=isq_of I1 hx
 obtain⟨jts,rw',pm,_⟩:=isq_of I1 hy
 have lt1:@LT.lt Nat _ p s1.heap.objs.size:=by obtain⟨_,e⟩:=pl.got;exact Heap.lt_size e
 have lt2:@LT.lt Nat _ q s1.heap.objs.size:=by obtain⟨_,e⟩:=pm.got;exact Heap.lt_size e
 refine zq_call pl pm fun g hz hTI hTO h1 h2 hsz hk=>?_
 have D:ZipApart (s1.heap.objs.size+4) (s1.heap.objs.size+2) (s1.heap.objs.size+3) s1.heap.objs.size (s1.heap.objs.size+1) p q:=by
  refine⟨?_,?_,?_,?_,?_,?_,?_,?_,?_,?_,?_,?_,?_,?_,?_,?_,?_,?_⟩<;>(show @Ne Nat _ _;omega)
 refine wpAny_pyIter_zip (s:={s1 with heap:=g}) hz ?_
 refine⟨s1.heap.objs.size+4,[s1.heap.objs.size+4,s1.heap.objs.size+2,s1.heap.objs.size+3,s1.heap.objs.size,s1.heap.objs.size+1],_,_,H1,rfl,I1.kept (t':=s1.toks) hk,turn_zip _ _ _ _ _ p q D,⟨hz,hTI,⟨_,_,hTO⟩,h1,h2⟩,fun b hb=>?_,hq⟩
 have hb':s1.heap.objs.size<=b:=by
  simp only[List.mem_cons,List.not_mem_nil,or_false]at hb
  rcases hb with rfl|rfl|rfl|rfl|rfl
  ·exact Nat.le_add_right _ 4
  ·exact Nat.le_add_right _ 2
  ·exact Nat.le_add_right _ 3
  ·exact Nat.le_refl _
  ·exact Nat.le_add_right _ 1
 exact I1.fpOk hb' (I1.hok.fresh hb')
section
variable {g:TG}{tt:TT}{te:TE}{Q:VK}{σ0:St}{H0:Hp}
theorem comp_zip{K:PySem.W.Frag}{b1 b2:Bool}{a b:Addr}{xs ys:List V}(Pv:Nat->St->List V->Hp->Prop)(h0:Pv 0 σ0 [] H0)(hlen:∀i σ vs H,i<=min xs.length ys.length->Pv i σ vs H->vs.length<=i)(hn:min xs.length ys.length<=sizeLine)
  (hl1:∀i σ vs H,i<=min xs.length ys.length->Pv i σ vs H->SqB K b1 H a xs) (hl2:∀i σ vs H,i<=min xs.length ys.length->Pv i σ vs H->SqB K b2 H b ys)
  (hs:∀i x y σ vs H p,xs[i]?=some x->ys[i]?=some y->Pv i σ vs H->H p=none->g (.ref p) σ (upd H p (.tup [x,y])) fun σ2 H2=>tt σ2 H2 fun ok H3=>if ok=true then te σ2 H3 fun v H4=>Pv (i+1) σ2 (vs++[v]) H4 else Pv (i+1) σ2 vs H3)
  (hd:∀σ vs H,Pv (min xs.length ys.length) σ vs H->∀p,H p=none->Q (.ref p) (upd H p (.lst vs))):CompW (Itz K b1 a b2 b) g tt te Q σ0 H0:=by
 refine comp_by (min xs.length ys.length) Pv h0 hlen hn (fun i σ vs H hi p=>?_) (fun σ vs H p=>⟨xs,ys,hl1 _ σ vs H (Nat.le_refl _) p,hl2 _ σ vs H (Nat.le_refl _) p,by omega⟩) (fun i σ vs H x H' hi p y=>?_) hd
 ·have k1:i<xs.length:=by omega
  have k2:i<ys.length:=by omega
  exact⟨xs,ys,xs[i],ys[i],hl1 i σ vs H (Nat.le_of_lt hi) p,hl2 i σ vs H (Nat.le_of_lt hi) p,by simp[k1],by simp[k2]⟩
 ·obtain⟨pp,x',y',hp,rfl,rfl,e1,e2⟩:=y
  exact hs i x' y' σ vs H pp (e1 xs (hl1 i σ vs H (Nat.le_of_lt hi) p)) (e2 ys (hl2 i σ vs H (Nat.le_of_lt hi) p)) p hp
end
def Isd(ob:Obj)(es:Array DictEntry)(ep:Nat)(h:Heap)(l:Addr):Prop:=h.get? l=some ob/\ob.ExactDict/\ob.data=.dict es ep/\(l == sysModules)=false
def Itd(es:Array DictEntry)(ep:Nat)(h:Heap)(i l:Addr)(k:Nat):Prop:=h.IsKeyIter i l k es.size ep
section
variable {ob:Obj}{es:Array DictEntry}{ep:Nat}
theorem Isd.at{h h':Heap}{l:Addr}(x:Isd ob es ep h l)(k:∀o,h.get? l=some o->h'.get? l=some o):Isd ob es ep h' l:=⟨k _ x.1,x.2⟩
theorem Itd.at{h h':Heap}{i l:Addr}{n:Nat}(x:Itd es ep h i l n)(k:∀o,h.get? i=some o->h'.get? i=some o):Itd es ep h' i l n:=by
 obtain⟨o,e,r⟩:=x
 exact⟨o,k o e,r⟩
variable {prog:Program}{w:World}{A:Around}{E:Value->Shared->Prop}{s:Shared}
end
section
variable {prog:Program}{w:World}{A:Around}{E:Value->Shared->Prop}{s:Shared}{b2:Bool}{ob:Obj}{es:Array DictEntry}{ep:Nat}
end
section
variable {g:TG}{tt:TT}{te:TE}{Q:VK}{σ0:St}{H0:Hp}
end
theorem KV.get{kvs:List (Key×V)}{vs:List (Key×Value)}(r:KV kvs vs):∀{i:Nat}{e:Key×V},kvs[i]?=some e->∃u,vs[i]?=some (e.1,u)/\RelV e.2 u:=by
 induction r with
 |nil=>intro i e h;simp at h
 |@cons a b l1 l2 q t ih =>
  intro i e h
  cases i with
  |zero =>
   simp only[List.getElem?_cons_zero,Option.some.injEq]at h
   subst h
   refine⟨b.2,?_,q.2⟩
   simp only[List.getElem?_cons_zero,Option.some.injEq]
   exact Prod.ext q.1.symm rfl
  |succ n=>exact ih (by simpa using h)
section
variable {g:TG}{tt:TT}{tk tv:TE}{Q:VK}{σ0:St}{H0:Hp}
end
def In2(J2:It)(g2:TG)(tk tv:TE)(N:St->List (Key×V)->Hp->Prop)(σ2:St)(kvs:List (Key×V))(H3:Hp):Prop :=
 ∃W2:Nat->Nat->St->List (Key×V)->Hp->Prop,(∃m2,W2 0 m2 σ2 kvs H3)/\∀j m2 σ3 kvs3 H4,W2 j m2 σ3 kvs3 H4 ->
   (J2.stop j H4/\N σ3 kvs3 H4) \/
   (J2.go j H4/\kvs3.length<sizeLine/\∃N2:St->List (Key×V)->Hp->Prop,(∀σ4 vs4 H5,N2 σ4 vs4 H5->∃m',m' < m2/\W2 (j+1) m' σ4 vs4 H5)/\∀y H5,J2.yld j H4 y H5->g2 y σ3 H5 fun σ4 H6 =>
    tk σ4 H6 fun kv H7=>tv σ4 H7 fun v H8=>∃key,kv=kV key/\N2 σ4 (putK kvs3 key v) H8)
section
variable {g g2:TG}{wi2:TI}{tk tv:TE}{Q:VK}{σ0:St}{H0:Hp}
theorem dcomp2_tup{K:PySem.W.Frag}{a:Addr}{xs:List V}(Pv:Nat->St->List (Key×V)->Hp->Prop)(h0:Pv 0 σ0 [] H0)(hl:∀i σ kvs H,i<=xs.length->Pv i σ kvs H->SqT K H a xs)
  (hs:∀i x σ kvs H,xs[i]?=some x->Pv i σ kvs H->g x σ H fun σ2 H2=>wi2 σ2 H2 fun J2 H3=>In2 J2 g2 tk tv (Pv (i+1)) σ2 kvs H3)
  (hz:∀σ kvs H,Pv xs.length σ kvs H->kvs.length<=sizeLine) (hd:∀σ kvs H,Pv xs.length σ kvs H->∀p,H p=none->Q (.ref p) (upd H p (.dK kvs))):CompWD2 (Itt K a) g wi2 g2 tk tv Q σ0 H0:=by
 refine⟨fun i m σ kvs H=>m=xs.length-i/\i<=xs.length/\Pv i σ kvs H,⟨xs.length,by simp,Nat.zero_le _,h0⟩,?_⟩
 rintro i m σ kvs H ⟨rfl,hi,p⟩
 have q1:=hl i σ kvs H hi p
 by_cases hlt:i<xs.length
 ·refine .inr ⟨⟨xs,xs[i],q1,by simp[hlt]⟩,Pv (i+1),fun σ2 vs2 H2 q=>⟨xs.length - (i+1),by omega,rfl,hlt,q⟩,fun x H' y=>?_⟩
  obtain⟨rfl,y⟩:=y
  exact hs i x σ kvs _ (y xs q1) p
 ·have e:i=xs.length:=by omega
  subst e
  exact .inl ⟨⟨xs,q1,Nat.le_refl _⟩,hz σ kvs H p,hd σ kvs H p⟩
theorem in2_tup{K:PySem.W.Frag}{b:Addr}{ys:List V}{N:St->List (Key×V)->Hp->Prop}{kvs:List (Key×V)}(Rv:Nat->St->List (Key×V)->Hp->Prop)(h0:Rv 0 σ0 kvs H0)(hl:∀j σ kvs H,j<=ys.length->Rv j σ kvs H->SqT K H b ys)(hn:∀j σ kvs H,j<ys.length->Rv j σ kvs H->kvs.length<sizeLine)
  (hs:∀j y σ kvs H,ys[j]?=some y->Rv j σ kvs H->g2 y σ H fun σ4 H6=>tk σ4 H6 fun kv H7=>tv σ4 H7 fun v H8=>∃key,kv=kV key/\Rv (j+1) σ4 (putK kvs key v) H8)
  (hd:∀σ kvs H,Rv ys.length σ kvs H->N σ kvs H):In2 (Itt K b) g2 tk tv N σ0 kvs H0:=by
 refine⟨fun j m σ kvs H=>m=ys.length-j/\j<=ys.length/\Rv j σ kvs H,⟨ys.length,by simp,Nat.zero_le _,h0⟩,?_⟩
 rintro j m σ kvs H ⟨rfl,hi,p⟩
 have q1:=hl j σ kvs H hi p
 by_cases hlt:j<ys.length
 ·refine .inr ⟨⟨ys,ys[j],q1,by simp[hlt]⟩,hn j σ kvs H hlt p,Rv (j+1),fun σ2 vs2 H2 q=>⟨ys.length - (j+1),by omega,rfl,hlt,q⟩,fun x H' y=>?_⟩
  obtain⟨rfl,y⟩:=y
  exact hs j x σ kvs _ (y ys q1) p
 ·have e:j=ys.length:=by omega
  subst e
  exact .inl ⟨⟨ys,q1,Nat.le_refl _⟩,hd σ kvs H p⟩
end
section
variable {α β:Type}{F:α->β->Prop}
theorem Paired.snocL{l1:List α}{l2:List β}(r:Paired F l1 l2){a:α}{b:β}(h:F a b):Paired F (l1++[a]) (l2++[b]):=by
 induction r with
 |nil=>exact .cons h .nil
 |cons q t ih=>exact .cons q ih
theorem Paired.getL{l1:List α}{l2:List β}(r:Paired F l1 l2):∀{i:Nat}{b:β},l2[i]?=some b->∃a,l1[i]?=some a/\F a b:=by
 induction r with
 |nil=>intro i b h;simp at h
 |@cons a b l1 l2 q t ih =>
  intro i c h
  cases i with
  |zero =>
   simp only[List.getElem?_cons_zero,Option.some.injEq]at h
   subst h
   exact⟨a,by simp,q⟩
  |succ n =>
   obtain⟨x,hx,f⟩:=ih (by simpa using h)
   exact⟨x,by simpa using hx,f⟩
end
theorem put_new{avs:List (Key×V)}{k:Key}{v:V}(h:∀kv∈avs,kv.1≠k):putK avs k v=avs++[(k,v)]:=by
 unfold putK
 have:(avs.any fun kv=>decide (kv.1=k))=false:=by
  rw[List.any_eq_false]
  intro kv hk
  simpa using h kv hk
 rw[this]
 rfl
end L2
namespace G24
open PySem L2
abbrev Kl:=List (Str×List (Str×List Kk))
def KlB(kl:Kl):Prop:=kl.length<=10/\∀k∈kl,k.2.length<=10/\∀t∈k.2,t.2.length<=10
def tgs(kl:Kl):List Str:=kl.flatMap fun k=>k.2.map (·.1)
theorem tgs_len{kl:Kl}(h:KlB kl):(tgs kl).length<=100:=by
 have:∀l:Kl,(∀k∈l,k.2.length<=10)->(tgs l).length<=l.length*10:=by
  intro l
  induction l with
  |nil=>intro _;exact Nat.zero_le _
  |cons k r ih =>
   intro hh
   have h1:=hh k (.head _)
   have h2:=ih fun x hx=>hh x (.tail _ hx)
   unfold tgs at h2⊢
   rw[List.flatMap_cons,List.length_append,List.length_map,List.length_cons,Nat.succ_mul]
   omega
 have:=this kl fun k hk=>(h.2 k hk).1
 have:=h.1
 omega
def tl(kl:Kl):List (Str×Str×List Kk):=kl.flatMap fun k=>k.2.map fun t=>(t.1,k.1,t.2)
def TgE(K:PySem.W.Frag)(H:Hp)(x:Str×Str×List Kk)(e:Key×V):Prop:=∃q iv,e=(Sum.inr x.1,V.ref q)/\H q=some (.tup [.str x.2.1,iv])/\Rp K H (.t (x.2.2.map kkT)) iv
theorem TgE.same{K:PySem.W.Frag}{H H':Hp}{x:Str×Str×List Kk}{e:Key×V}(t:TgE K H x e)(s:Same H H'):TgE K H' x e:=by
 obtain⟨q,iv,e,h,r⟩:=t
 exact⟨q,iv,e,s _ _ h,r.same s⟩
theorem tl_fst(kl:Kl):(tl kl).map (·.1)=tgs kl:=by
 unfold tl tgs
 rw[List.map_flatMap]
 congr 1
 funext k
 rw[List.map_map]
 rfl
theorem tl_snoc(l:Kl)(k:Str×List (Str×List Kk)):tl (l++[k])=tl l++k.2.map fun t=>(t.1,k.1,t.2):=by
 unfold tl
 rw[List.flatMap_append]
 simp
def spTagsOf(K:PySem.W.Frag):Sp:=fun vs H Q _=>∃(v:V) (kl:Kl) (dt:T),vs=[v]/\Rp K H (.t [.t (kl.map kinT),dt]) v/\KlB kl/\(tgs kl).Nodup /\
 ∀(p:Addr) (H':Hp) (kvs:List (Key×V)),Same H H'->H p=none->H' p=some (.dK kvs)->Paired (TgE K H') (tl kl) kvs->Q (.ref p) H'
structure TgI(K:PySem.W.Frag) (H:Hp) (xs:List (Str×Str×List Kk)) (H2:Hp) (kvs:List (Key×V)):Prop where
 s:Same H H2
 p:Paired (TgE K H2) xs kvs
section
variable {P:Program}{w:World}{K:PySem.W.Frag}{mg:Str->Option Value}{base:Heap}
theorem nm_tags_of:Nm ["program","kinds","defs"] (defScope s_tags_of):=by decide +kernel
theorem lm_tags_of:Lm ["program","kinds","defs"] (defScope s_tags_of):=by decide +kernel
theorem sc_tags_of:FnScope ["program","kinds","defs"] ["program"] (defScope s_tags_of):=⟨rfl,rfl,rfl,by decide +kernel,rfl,by decide +kernel,by decide +kernel⟩
theorem ok_tags_of{f:Addr}{fd:FuncData}(F:Fun K "tags_of" "tags_of" s_tags_of f fd):FnOk P w K mg base CX0 1 f fd ["program"] (spTagsOf K):=by
 refine F.ok sc_tags_of (fun vs H Q E h=>?_) (fun cdv A outer s H vs Q E hr h=>?_)
 ·obtain⟨_,_,_,rfl,_⟩:=h
  rfl
 obtain⟨v,kl,dt,rfl,r,hB,hnd,k⟩:=h
 refine⟨_,(@pss_cons _ _ _ _ _ (@ps_asg _ _ _ _ _ _ (va nm_tags_of 0) (@pg_tupK _ _ _ _ _ (2) K rfl rfl (@pgs_cons _ _ _ _ _ (ga sc_tags_of.nd lm_tags_of 1) (pgs_cons (ga sc_tags_of.nd lm_tags_of 2) pgs_nil) (by rfl)) (by rfl) (by rfl)) (by rfl) (by rfl) (by rfl)) (@pss_one _ _ _ (@ps_ret _ _ _ _ (pe_dcomp2C (defScope s_tags_of) ["program","kinds","defs"] ["name","tags","tag","inner"] [] rfl rfl rfl (by decide +kernel) (pi_tup (va nm_tags_of 1)) (fun _ _ _ _=>(@pg_tupK _ _ _ _ _ (2) K rfl rfl (@pgs_cons _ _ _ _ _ (pg_name (i:=0) (show(["name","tags","tag","inner"]:List Str).Nodup by decide +kernel) rfl (Or.inl (by kernel_rfl)) (by first|exact .inl rfl|exact .inr (by kernel_rfl))) (pgs_cons (pg_name (i:=1) (show(["name","tags","tag","inner"]:List Str).Nodup by decide +kernel) rfl (Or.inl (by kernel_rfl)) (by first|exact .inl rfl|exact .inr (by kernel_rfl))) pgs_nil) (by rfl)) (by rfl) (by rfl))) (fun _ _ _ _=>(pi_tupK K rfl (va (show Nm ["name","tags","tag","inner"] _ by show _=_;kernel_rfl) 1))) (fun _ _ _ _=>(@pg_tupK _ _ _ _ _ (2) K rfl rfl (@pgs_cons _ _ _ _ _ (pg_name (i:=2) (show(["name","tags","tag","inner"]:List Str).Nodup by decide +kernel) rfl (Or.inl (by kernel_rfl)) (by first|exact .inl rfl|exact .inr (by kernel_rfl))) (pgs_cons (pg_name (i:=3) (show(["name","tags","tag","inner"]:List Str).Nodup by decide +kernel) rfl (Or.inl (by kernel_rfl)) (by first|exact .inl rfl|exact .inr (by kernel_rfl))) pgs_nil) (by rfl)) (by rfl) (by rfl))) (fun _ _ _ _=>(va (show Nm ["name","tags","tag","inner"] _ by show _=_;kernel_rfl) 2)) (fun _ _ _ _=>(@pe_tup _ _ _ _ _ (@pa_c _ _ _ _ _ (va (show Nm ["name","tags","tag","inner"] _ by show _=_;kernel_rfl) 0) (pa_c (va (show Nm ["name","tags","tag","inner"] _ by show _=_;kernel_rfl) 3) pa_nil) (by rfl)))))))),?_⟩
 try dsimp only[cx_K]
 try dsimp only[cx_K]
 obtain⟨pa,u1,u2,rfl,psq,g1,g2⟩:=r.t2
 obtain⟨a,us,rfl,sq,rs⟩:=g1.inv_t
 have lus:=rs.length
 rw[List.length_map]at lus
 have ltg:=tgs_len hB
 rw[←tl_fst,List.length_map]at ltg
 fail "R"
 refine dcomp2_tup (K:=K) (xs:=us) (fun i σ kvs H2=>(∃y1 y2 y3 y4,σ=[y1,y2,y3,y4])/\TgI K H (tl (kl.take i)) H2 kvs) ⟨⟨_,_,_,_,rfl⟩,Same.refl _,.nil⟩ ?_ ?_ ?_ ?_
 ·rintro i σ kvs H2 hi ⟨_,i2⟩
  exact sq.same i2.s
 ·rintro i xv σ kvs H2 hxv ⟨⟨_,_,_,_,rfl⟩,i2⟩
  obtain⟨t,ht,rx⟩:=rs.get' hxv
  rw[List.getElem?_map]at ht
  obtain⟨kd,hkd,rfl⟩:=Option.map_eq_some_iff.mp ht
  have hil:=(List.getElem?_eq_some_iff.mp hkd).1
  have etk:kl.take (i+1)=kl.take i++[kd]:=by rw[List.take_succ_eq_append_getElem hil,(List.getElem?_eq_some_iff.mp hkd).2]
  obtain⟨ka,k1,k2,rfl,ksq,q1,q2⟩:=(show Rp K H (.t [.s kd.1,.t (kd.2.map tagT)]) xv from rx).t2
  obtain rfl:=q1.inv_s
  have ksq2:=ksq.same i2.s
  obtain⟨ta0,tus,rfl,tsq,trs⟩:=q2.inv_t
  have ltu:=trs.length
  rw[List.length_map]at ltu
  have tsq2:=tsq.same i2.s
  fail "R"
  have hsub:∀j,j<=kd.2.length->((tl (kl.take i)++(kd.2.take j).map fun t=>(t.1,kd.1,t.2)).map (·.1)).Nodup:=fun j hj=>by
   refine hnd.sublist ?_
   rw[←tl_fst]
   refine List.Sublist.map _ ?_
   refine List.Sublist.trans (l₂:=tl (kl.take (i+1))) ?_ ?_
   ·rw[etk,tl_snoc]
    exact List.Sublist.append (List.Sublist.refl _) (List.Sublist.map _ (List.take_sublist _ _))
   ·conv=>rhs;rw[←List.take_append_drop (i+1) kl]
    unfold tl
    rw[List.flatMap_append]
    exact List.sublist_append_left _ _
  have hsz:∀j,(tl (kl.take i)++(kd.2.take j).map fun t=>(t.1,kd.1,t.2)).length<=100:=fun j=>by
   have e:(tl (kl.take (i+1))).length<=(tl kl).length:=by
    conv=>rhs;rw[←List.take_append_drop (i+1) kl]
    unfold tl
    rw[List.flatMap_append,List.length_append]
    omega
   rw[etk,tl_snoc,List.length_append,List.length_map]at e
   rw[List.length_append,List.length_map,List.length_take]
   omega
  refine in2_tup (K:=K) (ys:=tus) (fun j σ kvs H3=>(∃y3 y4,σ=[some (.str kd.1),some (.ref ta0),y3,y4])/\TgI K H (tl (kl.take i)++(kd.2.take j).map fun t=>(t.1,kd.1,t.2)) H3 kvs) ⟨⟨_,_,rfl⟩,by rw[List.take_zero,List.map_nil,List.append_nil];exact i2⟩ ?_ ?_ ?_ ?_
  ·rintro j σ kvs H3 hj ⟨_,i3⟩
   exact tsq.same i3.s
  ·rintro j σ kvs H3 hj ⟨_,i3⟩
   have e1:=i3.p.length
   have e2:=hsz j
   exact small1000 (by omega)
  ·rintro j yv σ kvs H3 hyv ⟨⟨_,_,rfl⟩,i3⟩
   obtain⟨t,ht,ry⟩:=trs.get' hyv
   rw[List.getElem?_map]at ht
   obtain⟨tg,htg,rfl⟩:=Option.map_eq_some_iff.mp ht
   have hjl:=(List.getElem?_eq_some_iff.mp htg).1
   have etj:kd.2.take (j+1)=kd.2.take j++[tg]:=by rw[List.take_succ_eq_append_getElem hjl,(List.getElem?_eq_some_iff.mp htg).2]
   obtain⟨ga,w1,w2,rfl,gsq,p1,p2⟩:=(show Rp K H (.t [.s tg.1,.t (tg.2.map kkT)]) yv from ry).t2
   obtain rfl:=p1.inv_s
   have gsq3:=gsq.same i3.s
   have r3:=p2.same i3.s
   have hn:=hsub (j+1) hjl
   have en:(tl (kl.take i)++(kd.2.take (j+1)).map fun t=>(t.1,kd.1,t.2))=(tl (kl.take i)++(kd.2.take j).map fun t=>(t.1,kd.1,t.2))++[(tg.1,kd.1,tg.2)]:=by rw[etj,List.map_append,List.append_assoc];rfl
   rw[en,List.map_append]at hn
   have nw:∀kv∈kvs,kv.1≠Sum.inr tg.1:=fun kv hkv z=>by
    obtain⟨n,hn1⟩:=List.getElem?_of_mem hkv
    obtain⟨x,hx,q,iv,e,_⟩:=Paired.getL i3.p hn1
    rw[e]at z
    have z':x.1=tg.1:=Sum.inr.inj z
    have:=(List.nodup_append.mp hn).2.2 x.1 (List.mem_map_of_mem (List.mem_of_getElem? hx)) tg.1 (by simp)
    exact this z'
   fail "R"
   intro p4 hp4
   have s4:=same_new hp4 (.tup [.str kd.1,w2])
   have h4:upd H3 p4 (.tup [.str kd.1,w2]) p4=some (.tup [.str kd.1,w2]):=upd_same
   generalize upd H3 p4 (.tup [.str kd.1,w2])=H4 at s4 h4⊢
   refine⟨Sum.inr tg.1,rfl,⟨_,_,rfl⟩,?_⟩
   rw[put_new nw,en]
   exact⟨i3.s.trans s4,Paired.snocL (Paired.imp' (fun x e h=>TgE.same h s4) i3.p) ⟨p4,w2,rfl,h4,r3.same s4⟩⟩
  ·rintro σ kvs H3 ⟨⟨_,_,rfl⟩,i3⟩
   rw[show tus.length=kd.2.length by omega,List.take_length]at i3
   rw[etk,tl_snoc]
   exact⟨⟨_,_,_,_,rfl⟩,i3⟩
 ·rintro σ kvs H2 ⟨_,i2⟩
  rw[show us.length=kl.length by omega,List.take_length]at i2
  have:=i2.p.length
  exact small (by omega)
 ·rintro σ kvs H2 ⟨_,i2⟩ p hp
  rw[show us.length=kl.length by omega,List.take_length]at i2
  have s3:=same_new hp (.dK kvs)
  fail "R"
  exact k p _ kvs (i2.s.trans s3) (i2.s.free hp) upd_same (Paired.imp' (fun x e h=>TgE.same h s3) i2.p)
end
inductive Th|num (n:Int)|row (l:List Th)|tag (t:Str) (l:List Th)
mutual
def thT:Th->T
 |.num n=>.t [.s "num",.i n]
 |.row l=>.t [.s "row",.t (thTs l)]
 |.tag t l=>.t [.s "tag",.s t,.t (thTs l)]
def thTs:List Th->List T
 | []=>[]
 |x::r=>thT x::thTs r
end
mutual
def Th.sz:Th->Nat
 |.num _=>1
 |.row l=>szs l+1
 |.tag _ l=>szs l+1
def szs:List Th->Nat
 | []=>0
 |x::r=>x.sz+szs r
end
mutual
def Th.dp:Th->Nat
 |.num _=>0
 |.row l=>dps' l+1
 |.tag _ l=>dps' l+1
def dps':List Th->Nat
 | []=>0
 |x::r=>max x.dp (dps' r)
end
theorem thTs_eq:∀l:List Th,thTs l=l.map thT
 | []=>rfl
 |x::r=>by rw[thTs,List.map_cons,thTs_eq r]
theorem Th.sz1:∀t:Th,1<=t.sz
 |.num _=>by simp[Th.sz]
 |.row l=>by simp[Th.sz]
 |.tag _ l=>by simp[Th.sz]
theorem szs_app:∀(l r:List Th),szs (l++r)=szs l+szs r
 | [],r=>by simp[szs]
 |x::l,r=>by simp[szs,szs_app l r];omega
theorem szs_len:∀l:List Th,l.length<=szs l
 | []=>Nat.zero_le _
 |x::r=>by simp only[szs,List.length_cons];have:=Th.sz1 x;have:=szs_len r;omega
theorem szs_mem{x:Th}:∀{l:List Th},x∈l->x.sz<=szs l
 |y::r,h=>by
  rcases List.mem_cons.mp h with rfl|h
  ·simp only[szs];omega
  ·have:=szs_mem h;simp only[szs];omega
theorem dps_le{b:Nat}:∀{l:List Th},(∀x∈l,x.dp<=b)->dps' l<=b
 | [],_=>Nat.zero_le _
 |x::r,h=>by
  simp only[dps']
  exact Nat.max_le.mpr ⟨h x (.head _),dps_le fun y hy=>h y (.tail _ hy)⟩
theorem dps_mem{x:Th}:∀{l:List Th},x∈l->x.dp<=dps' l
 |y::r,h=>by
  simp only[dps']
  rcases List.mem_cons.mp h with rfl|h
  ·exact Nat.le_max_left _ _
  ·exact Nat.le_trans (dps_mem h) (Nat.le_max_right _ _)
def rk(ns:List Str):Kk->Nat
 |.num=>0
 |.kd x=>3*ns.idxOf x+3
 |.op _=>0
 |.row k=>rk ns k+1
theorem idx_take{x:Str}:∀{ns:List Str}{i:Nat},x∈ns.take i->ns.idxOf x<i
 | [],i,h=>by simp at h
 |y::r,0,h=>by simp at h
 |y::r,i+1,h=>by
  rw[List.take_succ_cons]at h
  by_cases e:y=x
  ·rw[e,List.idxOf_cons_self];omega
  ·rcases List.mem_cons.mp h with z|z
   ·exact absurd z.symm e
   ·rw[List.idxOf_cons,cond_eq_ite,if_neg (by simpa using e)]
    have:=idx_take z
    omega
theorem rk_ok{ns:List Str}{i:Nat}:∀{k:Kk},k.ok (ns.take i)->rk ns k<=3*i+k.dep
 |.num,_=>by simp[rk]
 |.kd x,h=>by have:=idx_take (show x∈ns.take i from h);simp only[rk];omega
 |.op _,h=>False.elim h
 |.row k,h=>by have:=rk_ok (k:=k) h;simp only[rk,Kk.dep];omega
structure KG(kl:List (Str×List (Str×List Kk))):Prop where
 len:kl.length<=3
 nd:(kl.map (·.1)).Nodup
 tnd:(tgNm kl).Nodup
 pt:∀(i:Nat) (k:Str×List (Str×List Kk)),kl[i]?=some k->1<=k.2.length/\k.2.length<=3/\∀t∈k.2,t.2.length<=2/\∀c∈t.2,c.ok ((kl.map (·.1)).take i)/\c.dep<=2
theorem pow3(r:Nat):3 ^ (r+1+1)=3*3 ^ (r+1):=by rw[Nat.pow_succ 3 (r+1),Nat.mul_comm]
theorem merge_nd:∀{kvs acc:List (Key×V)},((acc++kvs).map (·.1)).Nodup->mergeK acc kvs=acc++kvs
 | [],acc,_=>(List.append_nil acc).symm
 |kv::r,acc,h=>by
  have hn:∀q∈acc,q.1≠kv.1:=by
   intro q hq e
   rw[List.map_append,List.nodup_append]at h
   exact h.2.2 q.1 (List.mem_map_of_mem hq) kv.1 (List.mem_map_of_mem (.head _)) e
  show mergeK (putK acc kv.1 kv.2) r=_
  rw[put_new hn,merge_nd (by rw[List.append_assoc];exact h),List.append_assoc]
  rfl
theorem val_at:∀{kvs:List (Key×V)}{i:Nat}{k:Key}{v:V},(kvs.map (·.1)).Nodup->kvs[i]?=some (k,v)->valV kvs k=some v
 | [],i,k,v,_,h=>by simp at h
 |p::r,0,k,v,_,h=>by
  cases Option.some.inj h
  unfold valV
  simp
 |p::r,i+1,k,v,n,h=>by
  have n2:=List.nodup_cons.mp n
  have ih:=val_at (kvs:=r) (i:=i) (k:=k) (v:=v) n2.2 h
  have ne:p.1≠k:=fun e=>n2.1 (List.mem_map.mpr ⟨(k,v),List.mem_of_getElem? (l:=r) h,e.symm⟩)
  unfold valV at ih⊢
  simp[ne,ih]
end G24
namespace L2
open PySem PySem.Spec PyProof.Rows
open PySem.AutoSeq1 (wpAny_loadPart')
theorem drawsQ{prog:Program}{w:World}{A:Around}{b:Bool}(hh:A.handled=none)(it l:Addr)(hne:l≠it)(items:Array Value) :
  Draws prog w A it [it,l] items.size (fun i v=>items[i]?=some v) (fun i h=>Itq b h it l i/\Isq b h l items) where
 live:=fun _ _ st=>st.1.got
 frame:=fun _ _ _ st hk=>⟨st.1.at fun o e=>hk it (by simp) o e,st.2.at fun o e=>hk l (by simp) o e⟩
 item:=fun i s Q E hi st hQ=>by
  refine nxq_item st.1 st.2 (x:=items[i]) (by simp[hi]) fun h' hit' hs'=>?_
  exact hQ _ h' s.toks (by simp[hi]) ⟨hit',st.2.extBut hs'.extBut hne⟩ hs'
 done:=fun s Q E st hE=>nxq_end hh st.1 st.2 (by simp) hE
set_option maxRecDepth 100000 in
theorem enq_new(b:Bool)(l:Addr)(items:Array Value) :
  Meets (Builtin.«enumerate.__new__» ⟨[.type "enumerate",.ref l],[]⟩) (fun _ R s=>Isq b s.heap l items /\
   R (.ok (.ret (.ref (s.heap.push (itObj b l)).objs.size)))
    {s with heap:=(s.heap.push (itObj b l)).push {cls:=.type "enumerate",data:=.fields #[.none,.bool false,.ref s.heap.objs.size,rawInt 0,.none,.none]}}) :=
 .of_wp fun prog w A R s h=>by
  obtain⟨hp,g,d,tk,os⟩:=s
  obtain⟨hl0,h⟩:=h
  have hsub:=sub_enumerate
  have hL:Isq b (Shared.heap ⟨hp,g,d,tk,os⟩) l items:=hl0
  obtain⟨o,hl⟩:=hl0.got
  obtain⟨oc,od,odt,osl⟩:=o
  wp_walk using wpAny_loadPart' hl
  refine wpAny_stack_any fun st=>wpAny_pure ?_
  split
  ·rename_i c _ _ _ _ _
   cases(c == Value.type "enumerate")
   ·wp_walk using wpAny_loadPart' hl,iterQ hL
    exact⟨_,rfl,h⟩
   ·wp_walk using wpAny_loadPart' hl,iterQ hL
    exact⟨_,rfl,h⟩
  ·wp_walk using wpAny_loadPart' hl,iterQ hL
   exact⟨_,rfl,h⟩
end L2
namespace L2
open PySem PySem.Spec PyProof.Rows
section
variable {prog:Program}{w:World}{A:Around}{E:Value->Shared->Prop}{s:Shared}{b:Bool}
theorem enq_call{l:Addr}{items:Array Value}{Q:Value->Shared->Prop}(hl:Isq b s.heap l items)
  (h:∀h',IsEnum h' (s.heap.objs.size+1) s.heap.objs.size 0 .none->Itq b h' s.heap.objs.size l 0->h'.objs.size=s.heap.objs.size+2 ->
   (∀b o,s.heap.get? b=some o->h'.get? b=some o)->Q (.ref (s.heap.objs.size+1)) {s with heap:=h'}) :
  wpAny (model prog w) A (call (.type "enumerate") [.ref l]) Q E s:=by
 refine callType_new PySem.F.called_enumerate (by decide) (PySem.F.typeCall_enumerate_1 _) (PySem.F.newCall_enumerate_1 _) (fun obj=>PySem.F.args_object_init_2 obj _) PySem.F.entry_enumerate_new (enq_new b l items) ⟨hl,?_⟩
 have hz:(s.heap.push (itObj b l)).objs.size=s.heap.objs.size+1:=Heap.size_push ..
 have he:=Heap.get?_push_size (s.heap.push (itObj b l)) (o:={cls:=.type "enumerate",data:=.fields #[.none,.bool false,.ref s.heap.objs.size,rawInt 0,.none,.none]}) rfl
 show _/\_
 rw[hz]at he⊢
 exact⟨⟨_,he,rfl⟩,h _ he (it_of (Heap.get?_push_of_some _ (Heap.get?_push_size _ rfl))) (by rw[Heap.size_push,hz]) fun b o x=>Heap.get?_push_of_some _ (Heap.get?_push_of_some _ x)⟩
end
def Ite (K : PySem.W.Frag) (b : Bool) (l : Addr) : It :=
  ⟨fun i H => ∃ xs x, SqB K b H l xs ∧ xs[i]? = some x,
   fun i H v H' => ∃ p x, H p = none ∧ v = .ref p ∧ H' = upd H p (.tup [.int i, x]) ∧ ∀ xs, SqB K b H l xs → xs[i]? = some x,
   fun i H => ∃ xs, SqB K b H l xs ∧ xs.length = i⟩
theorem turn_enum{P:Program}{w:World}{K:PySem.W.Frag}{elts:List Expr}{x1:Nat}{pos:Pos}{b:Bool}(e it l:Addr)(d1:e≠it)(d2:l≠it)(d3:l≠e):Turn P w K (.Tuple elts x1 pos) (Ite K b l) [e,it] e
  (fun i h=>(∃old,IsEnum h e it i old)/\Itq b h it l i) where
 mem:=by simp
 obj:=fun i h st c hc=>by
  obtain⟨⟨old,he⟩,h1⟩:=st
  simp only[List.mem_cons,List.not_mem_nil,or_false]at hc
  rcases hc with rfl|rfl
  ·exact⟨_,he,fun v z=>by cases z⟩
  ·cases b with
   |false=>obtain⟨o,e,_,d⟩:=(show h.IsListIter _ l i from h1);exact⟨o,e,fun v z=>by rw[d]at z;cases z⟩
   |true=>obtain⟨o,e,_,d⟩:=(show h.IsTupleIter _ l i from h1);exact⟨o,e,fun v z=>by rw[d]at z;cases z⟩
 keep:=fun i h h' st k=>by
  obtain⟨⟨old,he⟩,h1⟩:=st
  exact⟨⟨old,k e (by simp) _ he⟩,h1.at fun o q=>k it (by simp) o q⟩
 item:=by
  intro X hP hw hK hc i pins s σ H E I hf st hg
  subst hP hw hK
  obtain⟨xs,x,hq,hx⟩:=hg
  obtain⟨⟨old,he⟩,h1⟩:=st
  obtain⟨its,rv,p1,_⟩:=isq_of I hq
  obtain⟨u,hu,ru⟩:=rv.get hx
  have hlt:i<its.toArray.size:=by
   have:=(List.getElem?_eq_some_iff.mp hu).1
   simpa using this
  refine wpAny_pyNext_enum_itemD (drawsQ (A:=X.A.in1) (b:=b) (I.ok.hd hc) it l d2 its.toArray) he ⟨h1,p1⟩ hlt d1 (by simp[d1,Ne.symm d3]) fun y h' tk hy ho hst hT hsz hk=>?_
  have hyu:y=u:=by
   have hy':its[i]?=some y:=by simpa using hy
   rw[hu]at hy'
   exact(Option.some.inj hy').symm
  subst hyu
  refine⟨.ref s.heap.objs.size,rfl,wpAny_letOwnedTupleGo_enum (s:={s with heap:=h',toks:=tk+1}) ho fun h2' he' hs'=>?_⟩
  have ne:∀c∈[e,it],c≠s.heap.objs.size:=fun c hc z=>by
   obtain⟨o,e2⟩:∃o,s.heap.get? c=some o:=by
    simp only[List.mem_cons,List.not_mem_nil,or_false]at hc
    rcases hc with rfl|rfl
    ·exact⟨_,he⟩
    ·exact h1.got
   have:=Heap.lt_size e2
   rw[z]at this
   exact Nat.lt_irrefl _ this
  have kk:∀c o,c∉[e,it]->s.heap.get? c=some o->h2'.get? c=some o:=fun c o hc q=>by
   simp only[List.mem_cons,List.not_mem_nil,or_false,not_or]at hc
   exact(hs'.2 c hc.1).trans (hk c o hc.1 hc.2 q)
  have hT':h2'.get? s.heap.objs.size=some {cls:=.type "tuple",data:=.seq #[.int i tk,y]}:=(hs'.2 _ (ne e (by simp)).symm).trans hT
  refine⟨.ref s.heap.objs.size,upd H s.heap.objs.size (.tup [.int i,x]),I.turnedN (t':=tk+1) hf kk (Nat.le_refl _) ⟨(by show 2<=sizeLine;decide),_,.cons ⟨tk,rfl⟩ (.cons ru .nil),⟨_,hT',rfl,_,rfl⟩,_,hT',rfl⟩,rfl,
   ⟨_,x,I.hok.fresh (Nat.le_refl _),rfl,rfl,fun zs hz2=>by rw[SqB.inj I hz2 hq];exact hx⟩,?_,fun c hc=>?_⟩
  ·exact⟨⟨_,by simpa using he'⟩,hst.1.at fun o q=>(hs'.2 it (Ne.symm d1)).trans q⟩
  ·rw[upd_ne (ne c hc)];exact(hf c hc).1
 done:=by
  intro X hP hw hK hc i pins s σ H E I hf st hg
  subst hP hw hK
  obtain⟨xs,hq,hl⟩:=hg
  obtain⟨⟨old,he⟩,h1⟩:=st
  obtain⟨its,rv,p1,_⟩:=isq_of I hq
  have e1:=rv.length
  have ei:i=its.toArray.size:=by simp;omega
  rw[ei]at h1
  refine wpAny_pyNext_enum_endD (drawsQ (A:=X.A.in1) (b:=b) (I.ok.hd hc) it l d2 its.toArray) he ⟨h1,p1⟩ fun h' hk=>⟨rfl,I.turnedL (t':=s.toks) hf fun c o hc q=>?_⟩
  simp only[List.mem_cons,List.not_mem_nil,or_false,not_or]at hc
  exact hk c o hc.2 q
 self:=fun _ _ _ _ _ st h=>let⟨_,he⟩:=st.1;wpAny_pyIter_enum he h
def iEnum(K:PySem.W.Frag)(t:TA):TI:=fun σ H R=>t σ H fun vs H2=>∃b p xs,vs=[.ref p]/\SqB K b H2 p xs/\R (Ite K b p) H2
theorem pi_enum{X:Cx}{a:Expr}{t:TA}{p1 p2 pos:Pos}{elts:List Expr}{x1:Nat}(K:PySem.W.Frag)(hK:X.K=K)(hg:Gl X "enumerate")(hm:X.mg "enumerate"=none)(ha:PA X [a] t)
  (he:starEach [a] X.env=(false,eval a X.env)::starEach [] X.env:=by rfl) (hpl:(backTo p2 (starEach [] X.env)).any (·.1)=false:=by rfl):PI X (.Tuple elts x1 pos) (.Call (.Name "enumerate" p1) [a] [] p2) (iEnum K t):=by
 subst hK
 intro pins s σ H R I h
 refine wpAny_Call_Name_kw (ld_blt I hg hm (u:=.type "enumerate") (by decide +kernel) ?_ (by decide) (by decide))
 refine PyProof.Rows.callWith_type1 ?_ he hpl
 refine thn (ha p2 pins s σ H _ I h) fun us s1 ⟨vs,H1,I1,r1,q1⟩=>?_
 obtain⟨c,p,xs,rfl,hx,hq⟩:=q1
 obtain⟨u,rfl,ru⟩:=vals1 r1
 obtain rfl:u=Value.ref p:=ru
 obtain⟨its,rv,pl,_⟩:=isq_of I1 hx
 have lt1:@LT.lt Nat _ p s1.heap.objs.size:=by obtain⟨_,e⟩:=pl.got;exact Heap.lt_size e
 refine enq_call pl fun g hz h1 hsz hk=>?_
 refine wpAny_pyIter_enum (s:={s1 with heap:=g}) hz ?_
 refine⟨s1.heap.objs.size+1,[s1.heap.objs.size+1,s1.heap.objs.size],_,_,H1,rfl,I1.kept (t':=s1.toks) hk,turn_enum _ _ p (by show @Ne Nat _ _;omega) (by show @Ne Nat _ _;omega) (by show @Ne Nat _ _;omega),⟨⟨_,hz⟩,h1⟩,fun b hb=>?_,hq⟩
 have hb':s1.heap.objs.size<=b:=by
  simp only[List.mem_cons,List.not_mem_nil,or_false]at hb
  rcases hb with rfl|rfl
  ·exact Nat.le_add_right _ 1
  ·exact Nat.le_refl _
 exact I1.fpOk hb' (I1.hok.fresh hb')
theorem for_enum{K:PySem.W.Frag}{b:Bool}{a:Addr}{xs:List V}{g:TG}{tb:TS}{D:Ends}{σ:St}{H:Hp}(Pv:Nat->St->Hp->Prop)(h0:Pv 0 σ H)(hl:∀i σ H,i<=xs.length->Pv i σ H->SqB K b H a xs)
  (hs:∀i x σ H p,xs[i]?=some x->Pv i σ H->H p=none->g (.ref p) σ (upd H p (.tup [.int i,x])) fun σ2 H2=>tb {D with nx:=Pv (i+1),ct:=Pv (i+1),bk:=D.nx} σ2 H2) (hd:∀σ H,Pv xs.length σ H->D.nx σ H) :
  ∃W:Nat->Nat->St->Hp->Prop,(∃m,W 0 m σ H)/\∀i m σ H,W i m σ H ->
   ((Ite K b a).stop i H/\D.nx σ H)\/((Ite K b a).go i H/\∃N:St->Hp->Prop,(∀σ' H',N σ' H'->∃m',m' < m/\W (i+1) m' σ' H')/\∀x H',(Ite K b a).yld i H x H'->g x σ H' fun σ2 H2=>tb {D with nx:=N,ct:=N,bk:=D.nx} σ2 H2):=by
 refine⟨fun i m σ H=>m=xs.length-i/\i<=xs.length/\Pv i σ H,⟨xs.length,by simp,Nat.zero_le _,h0⟩,?_⟩
 rintro i m σ H ⟨rfl,hi,p⟩
 have q1:=hl i σ H hi p
 by_cases hlt:i<xs.length
 ·refine .inr ⟨⟨xs,xs[i],q1,by simp[hlt]⟩,Pv (i+1),fun σ' H' p'=>⟨xs.length - (i+1),by omega,rfl,hlt,p'⟩,fun x H' y=>?_⟩
  obtain⟨pp,x',hp,rfl,rfl,e1⟩:=y
  exact hs i x' σ H pp (e1 xs q1) p hp
 ·have e:i=xs.length:=by omega
  subst e
  exact .inl ⟨⟨xs,q1,rfl⟩,hd σ H p⟩
section
variable {K:PySem.W.Frag}{σ0:St}{H0:Hp}{g:TG}{tt:TT}{te:TE}{Q:VK}
theorem comp_enum{b:Bool}{a:Addr}{xs:List V}(Pv:Nat->St->List V->Hp->Prop)(h0:Pv 0 σ0 [] H0)(hlen:∀i σ vs H,i<=xs.length->Pv i σ vs H->vs.length<=i)(hn:xs.length<=sizeLine)
  (hl:∀i σ vs H,i<=xs.length->Pv i σ vs H->SqB K b H a xs)
  (hs:∀i x σ vs H p,xs[i]?=some x->Pv i σ vs H->H p=none->g (.ref p) σ (upd H p (.tup [.int i,x])) fun σ2 H2=>tt σ2 H2 fun ok H3=>if ok=true then te σ2 H3 fun v H4=>Pv (i+1) σ2 (vs++[v]) H4 else Pv (i+1) σ2 vs H3)
  (hd:∀σ vs H,Pv xs.length σ vs H->∀p,H p=none->Q (.ref p) (upd H p (.lst vs))):CompW (Ite K b a) g tt te Q σ0 H0:=by
 refine comp_by xs.length Pv h0 hlen hn (fun i σ vs H hi p=>?_) (fun σ vs H p=>⟨xs,hl _ σ vs H (Nat.le_refl _) p,rfl⟩) (fun i σ vs H x H' hi p y=>?_) hd
 ·exact⟨xs,xs[i],hl i σ vs H (Nat.le_of_lt hi) p,by simp[hi]⟩
 ·obtain⟨pp,x',hp,rfl,rfl,e1⟩:=y
  exact hs i x' σ vs H pp (e1 xs (hl _ σ vs H (Nat.le_of_lt hi) p)) p hp
end
end L2
namespace G24
open PySem L2
def SgOk(d:Int)(j:Nat)(x:Str):Prop:=∃c,atI lets ((d+7*(j:Int)) % 26)=some c/\c∈lets/\x=⟨#[c]⟩
structure EnI(H9:Hp) (pre:List Nat) (d1:Int) (i:Nat) (vs:List V) (Hc:Hp):Prop where
 s:Same H9 Hc
 e:∃ys:List Str,vs=ys.map V.str/\ys.length=i/\∀j x,ys[j]?=some x->x.length<=20/\Lo x/\Nmd pre d1 j x
theorem Lo.z1:Lo "z":=by
 have h:((Str.ofString "z").cps.toList.all (· < 1000))=true:=by decide +kernel
 intro c hc
 have:=List.all_eq_true.mp h c hc
 simpa using this
section
variable {P:Program}{w:World}{K:PySem.W.Frag}{mg:Str->Option Value}{base:Heap}{gT:Addr}{tfd:FuncData}
theorem nm_L_names:Nm ["_law_feed_here","_law_many","_law_letters","_law_stem","_law_first","_law_at","_law_turn","_law_signs"] (defScope s_L_names):=by decide +kernel
theorem lm_L_names:Lm ["_law_feed_here","_law_many","_law_letters","_law_stem","_law_first","_law_at","_law_turn","_law_signs"] (defScope s_L_names):=by decide +kernel
theorem sc_L_names:FnScope ["_law_feed_here","_law_many","_law_letters","_law_stem","_law_first","_law_at","_law_turn","_law_signs"] ["_law_feed_here","_law_many"] (defScope s_L_names):=⟨rfl,rfl,rfl,by decide +kernel,rfl,by decide +kernel,by decide +kernel⟩
theorem ok_names{f:Addr}{fd:FuncData}(F:Fun K "_law_names" "_law_names" s_L_names f fd)(TK:Has P w K mg base "_law_take" 1 ["_law_feed_here","_law_many"] spTake gT tfd)(z_range:mg "range"=none)(z_len:mg "len"=none)(z_enumerate:mg "enumerate"=none) :
  FnOk P w K mg base CX0 2 f fd ["_law_feed_here","_law_many"] spNames:=by
 refine F.ok sc_L_names (fun vs H Q E h=>?_) (fun cdv A outer s H vs Q E hr h=>?_)
 ·obtain⟨v,tm,rfl,_⟩:=h
  rfl
 obtain⟨r,m,rfl,m1,m2,hf,k⟩:=h
 refine⟨_,(@pss_cons _ _ _ _ _ (sa sc_L_names.nd lm_L_names 2 pe_str) (@pss_cons _ _ _ _ _ (@sa _ _ _ _ _ _ sc_L_names.nd lm_L_names 3 (@pe_bm _ _ _ _ _ _ _ _ _ _ _ _ PySem.F.plainAttrs_str PySem.F.slot_str_join PySem.F.type_str_join mt_join pe_str (@pa_c _ _ _ _ _ (@pe_compC _ _ _ _ _ _ _ _ _ _ _ (defScope s_L_names) ["_law_feed_here","_law_many","_law_letters","_law_stem","_law_first","_law_at","_law_turn","_law_signs"] ["_law_k"] [0,2] rfl rfl rfl (by decide +kernel) (@pi_range1 _ _ _ _ _ _ (by show _=_;kernel_rfl) z_range (@pa_c _ _ _ _ _ (@pe_call _ _ _ _ _ _ _ _ _ _ _ _ _ _ _ _ TK.ok (hr.mono (by omega)) (by show _=_;kernel_rfl) TK.at' TK.kp TK.bd .nil pass0 (pa_c (va nm_L_names 0) (pa_c pe_int pa_nil)) (by decide) (by rfl) (by rfl)) pa_nil (by rfl)) (by rfl)) (fun _ _ _ _=>(pg_name (i:=0) (show(["_law_k","_law_feed_here","_law_letters"]:List Str).Nodup by decide +kernel) rfl (Or.inl (by kernel_rfl)) (by first|exact .inl rfl|exact .inr (by kernel_rfl)))) (fun _ _ _ _=>pifs_nil) (fun _ _ _ _=>(@pe_ix _ _ _ _ _ _ _ ix_str (va (show Nm ["_law_k","_law_feed_here","_law_letters"] _ by show _=_;kernel_rfl) 2) (@pe_call _ _ _ _ _ _ _ _ _ _ _ _ _ _ _ _ TK.ok (hr.mono (by omega)) (by show _=_;kernel_rfl) TK.at' TK.kp TK.bd .nil pass0 (pa_c (va (show Nm ["_law_k","_law_feed_here","_law_letters"] _ by show _=_;kernel_rfl) 1) (pa_c pe_int pa_nil)) (by decide) (by rfl) (by rfl)) (fun _ _=>rfl))) (by intro _;rfl)) pa_nil (by rfl)) (by kernel_rfl) (by kernel_rfl) (by kernel_rfl) (by kernel_rfl) (by kernel_rfl)) (by rfl) (by kernel_rfl) (by exact .inl rfl)) (@pss_cons _ _ _ _ _ (@ps_asg _ _ _ _ _ _ (@pe_tup _ _ _ _ _ (@pa_c _ _ _ _ _ (@pe_call _ _ _ _ _ _ _ _ _ _ _ _ _ _ _ _ TK.ok (hr.mono (by omega)) (by show _=_;kernel_rfl) TK.at' TK.kp TK.bd .nil pass0 (pa_c (va nm_L_names 0) (pa_c pe_int pa_nil)) (by decide) (by rfl) (by rfl)) (@pa_c _ _ _ _ _ (@pe_call _ _ _ _ _ _ _ _ _ _ _ _ _ _ _ _ TK.ok (hr.mono (by omega)) (by show _=_;kernel_rfl) TK.at' TK.kp TK.bd .nil pass0 (@pa_c _ _ _ _ _ (va nm_L_names 0) (@pa_c _ _ _ _ _ (@pe_op _ _ _ _ _ _ _ _ op_add (@pe_callB _ _ _ _ _ _ _ _ _ call_len_str (by show _=_;kernel_rfl) z_len PySem.boot_len (pa_c (va nm_L_names 3) pa_nil) (by decide) (by decide) (by rfl) (by rfl)) pe_int) pa_nil (by rfl)) (by rfl)) (by decide) (by rfl) (by rfl)) pa_nil (by rfl)) (by rfl))) (@pg_tupK _ _ _ _ _ (2) K rfl rfl (@pgs_cons _ _ _ _ _ (ga sc_L_names.nd lm_L_names 4) (pgs_cons (ga sc_L_names.nd lm_L_names 5) pgs_nil) (by rfl)) (by rfl) (by rfl)) (by rfl) (by rfl) (by rfl)) (@pss_cons _ _ _ _ _ (@sa _ _ _ _ _ _ sc_L_names.nd lm_L_names 6 (@pe_call _ _ _ _ _ _ _ _ _ _ _ _ _ _ _ _ TK.ok (hr.mono (by omega)) (by show _=_;kernel_rfl) TK.at' TK.kp TK.bd .nil pass0 (pa_c (va nm_L_names 0) (pa_c pe_int pa_nil)) (by decide) (by rfl) (by rfl)) (by rfl) (by kernel_rfl) (by exact .inl rfl)) (@pss_cons _ _ _ _ _ (@ps_compC _ _ _ _ _ _ _ _ _ _ _ _ _ _ _ (defScope s_L_names) ["_law_feed_here","_law_many","_law_letters","_law_stem","_law_first","_law_at","_law_turn","_law_signs"] ["_law_k"] [2,4] rfl rfl rfl (by decide +kernel) (@pi_range1 _ _ _ _ _ _ (by show _=_;kernel_rfl) z_range (pa_c (va nm_L_names 1) pa_nil) (by rfl)) (fun _ _ _ _=>(pg_name (i:=0) (show(["_law_k","_law_letters","_law_first"]:List Str).Nodup by decide +kernel) rfl (Or.inl (by kernel_rfl)) (by first|exact .inl rfl|exact .inr (by kernel_rfl)))) (fun _ _ _ _=>pifs_nil) (fun _ _ _ _=>(@pe_ix _ _ _ _ _ _ _ ix_str (va (show Nm ["_law_k","_law_letters","_law_first"] _ by show _=_;kernel_rfl) 1) (@pe_op _ _ _ _ _ _ _ _ op_mod (@pe_op _ _ _ _ _ _ _ _ op_add (va (show Nm ["_law_k","_law_letters","_law_first"] _ by show _=_;kernel_rfl) 2) (pe_op op_mul pe_int (va (show Nm ["_law_k","_law_letters","_law_first"] _ by show _=_;kernel_rfl) 0))) pe_int) (fun _ _=>rfl))) (ga sc_L_names.nd lm_L_names 7) (by kernel_rfl) (by intro _;rfl)) (@pss_one _ _ _ (@ps_ret _ _ _ _ (@pe_compC _ _ _ _ _ _ _ _ _ _ _ (defScope s_L_names) ["_law_feed_here","_law_many","_law_letters","_law_stem","_law_first","_law_at","_law_turn","_law_signs"] ["_law_k","_law_sign"] [3,5,6] rfl rfl rfl (by decide +kernel) (pi_enum K rfl (by show _=_;kernel_rfl) z_enumerate (pa_c (va nm_L_names 7) pa_nil)) (fun _ _ _ _=>(@pg_tupK _ _ _ _ _ (2) K rfl rfl (@pgs_cons _ _ _ _ _ (pg_name (i:=0) (show(["_law_k","_law_sign","_law_stem","_law_at","_law_turn"]:List Str).Nodup by decide +kernel) rfl (Or.inl (by kernel_rfl)) (by first|exact .inl rfl|exact .inr (by kernel_rfl))) (pgs_cons (pg_name (i:=1) (show(["_law_k","_law_sign","_law_stem","_law_at","_law_turn"]:List Str).Nodup by decide +kernel) rfl (Or.inl (by kernel_rfl)) (by first|exact .inl rfl|exact .inr (by kernel_rfl))) pgs_nil) (by rfl)) (by rfl) (by rfl))) (fun _ _ _ _=>pifs_nil) (fun _ _ _ _=>(@pe_op _ _ _ _ _ _ _ _ op_add_str (@pe_op _ _ _ _ _ _ _ _ op_add_str (@pe_op _ _ _ _ _ _ _ _ op_add_str (@pe_slice _ _ _ _ _ _ _ _ _ _ sl_str (va (show Nm ["_law_k","_law_sign","_law_stem","_law_at","_law_turn"] _ by show _=_;kernel_rfl) 2) po_none (po_some (va (show Nm ["_law_k","_law_sign","_law_stem","_law_at","_law_turn"] _ by show _=_;kernel_rfl) 3))) (va (show Nm ["_law_k","_law_sign","_law_stem","_law_at","_law_turn"] _ by show _=_;kernel_rfl) 1)) (@pe_slice _ _ _ _ _ _ _ _ _ _ sl_str (va (show Nm ["_law_k","_law_sign","_law_stem","_law_at","_law_turn"] _ by show _=_;kernel_rfl) 2) (po_some (va (show Nm ["_law_k","_law_sign","_law_stem","_law_at","_law_turn"] _ by show _=_;kernel_rfl) 3)) (@po_some _ _ _ (@pe_op _ _ _ _ _ _ _ _ op_mod (pe_op op_add (va (show Nm ["_law_k","_law_sign","_law_stem","_law_at","_law_turn"] _ by show _=_;kernel_rfl) 4) (va (show Nm ["_law_k","_law_sign","_law_stem","_law_at","_law_turn"] _ by show _=_;kernel_rfl) 0)) pe_int)))) pe_str)) (by intro _;rfl))))))))),?_⟩
 try dsimp only[cx_K]
 try dsimp only[cx_K]
 fail "R"
 intro q H2 q0 q6 e2
 fail "R"
 have n7:(q:Int).toNat<=4:=by omega
 refine comp_range (n:=q.toNat) (fun i σ vs Hc=>(∃v,σ=[v,some (.ref r),some (.str "abcdefghijklmnopqrstuvwxyz")])/\Ext r H2 Hc/\∃cs:List Nat,vs=(cs.map fun c=>(⟨#[c]⟩:Str)).map V.str/\cs.length=i/\∀c∈cs,c<1000)
  ⟨⟨none,rfl⟩,Ext.refl e2.2,[],rfl,rfl,fun _ h=>nomatch h⟩ (fun i σ vs Hc _ ⟨_,_,cs,e,el,_⟩=>by rw[e,List.length_map,List.length_map];omega) (small (by omega)) ?_ ?_
 ·rintro i' σ vs Hc hi' ⟨⟨v,rfl⟩,ext,cs,rfl,hcl,hlo⟩
  refine⟨_,rfl,_,rfl,r,26,rfl,by decide,by decide,ext.2,fun d H3 d0 d1 ext2=>?_⟩
  obtain⟨c,hc1,hc2⟩:=atS (z:="abcdefghijklmnopqrstuvwxyz") d0 d1
  refine⟨_,d,c,rfl,rfl,(by decide +kernel),hc1,?_⟩
  exact⟨⟨_,rfl⟩,ext.trans ext2,cs++[c],by rw[List.map_append,List.map_append];rfl,by rw[List.length_append,hcl];rfl,fun c' h=>by rcases List.mem_append.mp h with h|h;exact hlo c' h;rw[List.mem_singleton.mp h];exact lets_lo c hc2⟩
 rintro σ vs Hc ⟨⟨v,rfl⟩,ext,cs,rfl,hcl,hlo⟩ p hp
 refine⟨_,p,_,rfl,rfl,SqL.of upd_same,?_,?_⟩
 ·have z:(Str.ofString "").length=0:=by decide
  rw[sum_ones,z]
  omega
 rw[join_cs]
 have kp1:Ext r H (upd Hc p (.lst ((cs.map fun c=>(⟨#[c]⟩:Str)).map V.str))):=(e2.trans ext).new hp _
 have ly:(⟨cs.toArray⟩:Str).length<=4:=by rw[len_cs];omega
 have hy:Lo ⟨cs.toArray⟩:=fun c h=>hlo c (by simpa using h)
 generalize upd Hc p (.lst ((cs.map fun c=>(⟨#[c]⟩:Str)).map V.str))=H4 at kp1⊢
 generalize(⟨cs.toArray⟩:Str)=y at ly hy⊢
 have hf4:=kp1.2
 have sy:y.length<=sizeLine:=small (by omega)
 fail "R"
 intro d1 H5 b1 c1 e5
 have hf5:=e5.2
 fail "R"
 intro d2 H6 b2 c2 e6
 fail "R"
 intro p6 hp6
 have x6:Ext r H (upd H6 p6 (.tup [.int d1,.int d2])):=(kp1.trans (e5.trans e6)).new hp6 _
 have h6:upd H6 p6 (.tup [.int d1,.int d2]) p6=some (.tup [.int d1,.int d2]):=upd_same
 generalize upd H6 p6 (.tup [.int d1,.int d2])=H7 at x6 h6⊢
 have hf7:=x6.2
 fail "R"
 intro d3 H8 b3 c3 e8
 have x8:=x6.trans e8
 fail "R"
 have em:((m:Int)).toNat=m:=Int.toNat_natCast m
 refine comp_range (n:=((m:Int)).toNat) (fun i σ vs Hc=>(∃v,σ=[v,some (.str "abcdefghijklmnopqrstuvwxyz"),some (.int d1)])/\Ext r H8 Hc/\∃xs:List Str,vs=xs.map V.str/\xs.length=i/\∀j x,xs[j]?=some x->SgOk d1 j x)
  ⟨⟨none,rfl⟩,Ext.refl e8.2,[],rfl,rfl,fun j x h=>by simp at h⟩ (fun i σ vs Hc _ ⟨_,_,cs,e,el,_⟩=>by rw[e,List.length_map];omega) (small (by omega)) ?_ ?_
 ·rintro i' σ vs Hc hi' ⟨⟨v,rfl⟩,ext,xs,rfl,hxl,hxs⟩
  have hm:0<=(d1+7*(0+(i':Int))) % 26/\(d1+7*(0+(i':Int))) % 26<26:=by omega
  obtain⟨c,hc1,hc2⟩:=atS (z:="abcdefghijklmnopqrstuvwxyz") (r:=(d1+7*(0+(i':Int))) % 26) hm.1 hm.2
  refine⟨_,rfl,_,rfl,_,rfl,_,_,rfl,rfl,.inl ⟨by decide,by decide⟩,_,_,rfl,rfl,_,_,rfl,rfl,(by show(0:Int)<26;decide),_,_,c,rfl,rfl,(by decide +kernel),hc1,?_⟩
  refine⟨⟨_,rfl⟩,ext,xs++[⟨#[c]⟩],by rw[List.map_append];rfl,by rw[List.length_append,hxl];rfl,fun j x hx=>?_⟩
  by_cases cj:j<xs.length
  ·rw[List.getElem?_append_left cj]at hx;exact hxs j x hx
  ·have hj:j=i':=by have:=(List.getElem?_eq_some_iff.mp hx).1;rw[List.length_append]at this;simp at this;omega
   subst hj
   rw[List.getElem?_append_right (by omega),hxl,Nat.sub_self]at hx
   simp at hx
   refine⟨c,?_,hc2,hx.symm⟩
   rw[Int.zero_add]at hc1;exact hc1
 rintro σ vs Hc ⟨⟨v,rfl⟩,ext,xs,rfl,hxl,hxs⟩ p9 hp9
 have x9:Ext r H (upd Hc p9 (.lst (xs.map V.str))):=(x8.trans ext).new hp9 _
 have h9:upd Hc p9 (.lst (xs.map V.str)) p9=some (.lst (xs.map V.str)):=upd_same
 have n9:p9≠r:=fun z=>by obtain⟨a,b,e⟩:=(x8.trans ext).2;rw[←z,hp9]at e;cases e
 generalize upd Hc p9 (.lst (xs.map V.str))=H9 at x9 h9⊢
 have hf9:=x9.2
 rw[em]at hxl
 have sb:SqB K false H9 p9 (xs.map V.str):=SqL.of h9
 fail "R"
 refine comp_enum (K:=K) (b:=false) (xs:=xs.map V.str) (fun i σ vs Hc=>(∃v1 v2,σ=[v1,v2,some (.str y),some (.int d2),some (.int d3)])/\EnI H9 (Txt.slice y none (some d2)).cps.toList d1 i vs Hc)
  ⟨⟨none,none,rfl⟩,Same.refl _,[],rfl,rfl,fun j x h=>by simp at h⟩ (fun i σ vs Hc _ ⟨_,_,cs,e,el,_⟩=>by rw[e,List.length_map];omega) (by rw[List.length_map];exact small (by omega)) ?_ ?_ ?_
 ·rintro i σ vs Hc hi ⟨_,⟨sm,_⟩⟩
  exact SqL.of (sm _ _ h9)
 ·rintro i xv σ vs Hc p hxv ⟨⟨v1,v2,rfl⟩,⟨sm,ys,rfl,hyl,hys⟩⟩ hp
  rw[List.getElem?_map]at hxv
  obtain⟨sg,hsg,rfl⟩:=Option.map_eq_some_iff.mp hxv
  obtain⟨c,hc1,hc2,rfl⟩:=hxs i sg hsg
  have s1:=same_new hp (.tup [.int (i:Int),.str ⟨#[c]⟩])
  have h1:upd Hc p (.tup [.int (i:Int),.str ⟨#[c]⟩]) p=some (.tup [.int (i:Int),.str ⟨#[c]⟩]):=upd_same
  generalize upd Hc p (.tup [.int (i:Int),.str ⟨#[c]⟩])=H10 at s1 h1⊢
  have la:=PySem.Txt.slice_le y none (some d2)
  have lb:=PySem.Txt.slice_le y (some d2) (some ((d3+(i:Int)) % 5))
  have lc:(⟨#[c]⟩:Str).length=1:=rfl
  have lc2:(Txt.slice y none (some d2)++(⟨#[c]⟩:Str)).length=(Txt.slice y none (some d2)).length+1:=by rw[strLen_append];rfl
  have ln:(Txt.slice y none (some d2)++(⟨#[c]⟩:Str)++Txt.slice y (some d2) (some ((d3+(i:Int)) % 5))).length<=9:=by rw[strLen_append];omega
  have lz:(Str.ofString "z").length=1:=by decide
  have z0:(Txt.slice y none (some d2)).length+(⟨#[c]⟩:Str).length<=sizeLine:=small (by omega)
  have z1:(Txt.slice y none (some d2)++(⟨#[c]⟩:Str)).length+(Txt.slice y (some d2) (some ((d3+(i:Int)) % 5))).length<=sizeLine:=small (by omega)
  have z2:(Txt.slice y none (some d2)++(⟨#[c]⟩:Str)++Txt.slice y (some d2) (some ((d3+(i:Int)) % 5))).length+(Str.ofString "z").length<=sizeLine:=small (by omega)
  have p5:(0:Int)<5:=by decide
  fail "R"
  refine⟨sm.trans s1,ys++[Txt.slice y none (some d2)++(⟨#[c]⟩:Str)++Txt.slice y (some d2) (some ((d3+(i:Int)) % 5))++Str.ofString "z"],by rw[List.map_append];rfl,by rw[List.length_append,hyl];rfl,fun j x hx=>?_⟩
  by_cases cj:j<ys.length
  ·rw[List.getElem?_append_left cj]at hx;exact hys j x hx
  ·have hj:j=i:=by have:=(List.getElem?_eq_some_iff.mp hx).1;rw[List.length_append]at this;simp at this;omega
   subst hj
   rw[List.getElem?_append_right (by omega),hyl,Nat.sub_self]at hx
   simp only[List.getElem?_cons_zero,Option.some.injEq]at hx
   subst hx
   refine⟨by rw[strLen_append];omega,(((hy.slice _ _).append (Lo.one hc2)).append (hy.slice _ _)).append Lo.z1,Nmd.snoc (Nmd.snoc ⟨c,[],hc1,?_⟩ _) _⟩
   show((Txt.slice y none (some d2)).cps++#[c]).toList=_
   rw[Array.toList_append]
 ·rintro σ vs Hc ⟨_,⟨sm,ys,rfl,hyl,hys⟩⟩ p hp
  rw[List.length_map]at hyl
  have s1:=same_new hp (.lst (ys.map V.str))
  have x11:Ext r H (upd Hc p (.lst (ys.map V.str))):=(x9.same sm).new hp _
  exact k p _ ys x11 (Ext.free (x9.same sm) hp) upd_same (hyl.trans hxl) (fun x hx=>by
   obtain⟨j,hj⟩:=List.getElem?_of_mem hx
   exact⟨(hys j x hj).1,(hys j x hj).2.1⟩) (Nmd.uns (by omega) fun j x hj=>(hys j x hj).2.2)
end
def spThing(K:PySem.W.Frag)(n:Nat):Sp:=fun vs H Q _=>∃(f:Addr) (kv v:V) (d:Int) (kl:Kl) (c:Kk),vs=[.ref f,kv,v,.int d]/\FeedAt H f/\Rp K H (kindsT kl) kv/\KG kl/\Rp K H (kkT c) v/\c.ok (kl.map (·.1))/\rk (kl.map (·.1)) c<n/\(n:Int)<=d+100/\d<=1000 /\
 ∀(v':V) (H':Hp) (t:Th),Ext f H H'->Rp K H' (thT t) v'->2*t.sz+1<=3 ^ (rk (kl.map (·.1)) c+1)->t.dp<=rk (kl.map (·.1)) c+1->Q v' H'
structure TsI(K:PySem.W.Frag) (f:Addr) (H:Hp) (b e:Nat) (i:Nat) (us:List V) (Hc:Hp):Prop where
 x:Ext f H Hc
 t:∃ts:List Th,Rps K Hc (ts.map thT) us/\ts.length=i/\∀t∈ts,2*t.sz+1<=b/\t.dp<=e
theorem TsI.snoc{K:PySem.W.Frag}{f:Addr}{H Hc Hd:Hp}{b e i:Nat}{us:List V}{t:Th}{v:V}(h:TsI K f H b e i us Hc)(x:Ext f Hc Hd)(r:Rp K Hd (thT t) v)(h1:2*t.sz+1<=b)(h2:t.dp<=e):TsI K f H b e (i+1) (us++[v]) Hd:=by
 obtain⟨x0,ts,rs,el,ht⟩:=h
 refine⟨x0.trans x,ts++[t],?_,by rw[List.length_append,el];rfl,fun y hy=>?_⟩
 ·rw[List.map_append];exact(rs.kt (x.kt x0.2)).snoc r
 ·rcases List.mem_append.mp hy with hy|hy
  ·exact ht y hy
  ·rw[List.mem_singleton.mp hy];exact⟨h1,h2⟩
theorem szs2{b:Nat}:∀{l:List Th},(∀x∈l,2*x.sz+1<=b)->2*szs l+l.length<=l.length*b
 | [],_=>Nat.zero_le _
 |x::r,h=>by
  have h1:=h x (.head _)
  have h2:=szs2 (l:=r) fun y hy=>h y (.tail _ hy)
  simp only[szs,List.length_cons,Nat.succ_mul]
  omega
theorem sz_row{B s l:Nat}(hB:0<B)(hl:l<=3)(h:2*s+l<=l*B):2*(s+1)+1<=3*B:=by
 have:l=0\/l=1\/l=2\/l=3:=by omega
 rcases this with rfl|rfl|rfl|rfl<;>omega
theorem kl_pairs{K:PySem.W.Frag}{H:Hp}:∀{kl:Kl}{us:List V},Rps K H (kl.map kinT) us->∃kvs:List (Key×V),DPairs K H kvs us/\kvs.map (·.1)=kl.map (fun k=>(Sum.inr k.1:Key))/\∀(i:Nat) (k:Str×List (Str×List Kk)),kl[i]?=some k->∃v,kvs[i]?=some (Sum.inr k.1,v)/\Rp K H (.t (k.2.map tagT)) v
 | [],us,h=>by
  obtain rfl:=h.inv0
  exact⟨[],.nil,rfl,fun i k e=>by simp at e⟩
 |k::r,us,h=>by
  obtain⟨u,q,rfl,g,rs⟩:=h.inv
  obtain⟨kvs,d,e,hh⟩:=kl_pairs rs
  obtain⟨a,u1,u2,rfl,sq,g1,g2⟩:=(show Rp K H (.t [.s k.1,.t (k.2.map tagT)]) u from g).t2
  obtain rfl:=g1.inv_s
  refine⟨(Sum.inr k.1,u2)::kvs,.cons ⟨a,rfl,sq⟩ d,by rw[List.map_cons,e];rfl,fun i k' ek=>?_⟩
  cases i with
  |zero=>cases Option.some.inj ek;exact⟨u2,rfl,g2⟩
  |succ i=>exact hh i k' ek
theorem kok_take{ns:List Str}{i:Nat}:∀{c:Kk},c.ok (ns.take i)->c.ok ns
 |.num,_=>True.intro
 |.kd _,h=>List.mem_of_mem_take h
 |.op _,h=>h
 |.row k,h=>kok_take (c:=k) h
theorem dep_rk(ns:List Str):∀c:Kk,c.dep<=rk ns c
 |.num=>Nat.zero_le _
 |.kd _=>Nat.zero_le _
 |.op _=>Nat.zero_le _
 |.row k=>Nat.succ_le_succ (dep_rk ns k)
section
variable {P:Program}{w:World}{K:PySem.W.Frag}{mg:Str->Option Value}{base:Heap}{gT gH:Addr}{tfd hfd:FuncData}
theorem nm_L_thing:Nm ["_law_feed_here","_law_kinds_here","_law_kind","_law_down","_law_many","_law_tags","_law_t","_law_inner"] (defScope s_L_thing):=by decide +kernel
theorem lm_L_thing:Lm ["_law_feed_here","_law_kinds_here","_law_kind","_law_down","_law_many","_law_tags","_law_t","_law_inner"] (defScope s_L_thing):=by decide +kernel
theorem sc_L_thing:FnScope ["_law_feed_here","_law_kinds_here","_law_kind","_law_down","_law_many","_law_tags","_law_t","_law_inner"] ["_law_feed_here","_law_kinds_here","_law_kind","_law_down"] (defScope s_L_thing):=⟨rfl,rfl,rfl,by decide +kernel,rfl,by decide +kernel,by decide +kernel⟩
theorem ok_thing{f:Addr}{fd:FuncData}{n j:Nat}(hj:1<=j)(hn:n<=50)(F:Fun K "_law_thing" "_law_thing" s_L_thing f fd)(TK:Has P w K mg base "_law_take" 1 ["_law_feed_here","_law_many"] spTake gT tfd)(TH:Has P w K mg base "_law_thing" j ["_law_feed_here","_law_kinds_here","_law_kind","_law_down"] (spThing K n) gH hfd)(z_range:mg "range"=none)(z_len:mg "len"=none)(z_int:mg "int"=none)(z_dict:mg "dict"=none)(z_tuple:mg "tuple"=none) :
  FnOk P w K mg base CX0 (j+1) f fd ["_law_feed_here","_law_kinds_here","_law_kind","_law_down"] (spThing K (n+1)):=by
 refine F.ok sc_L_thing (fun vs H Q E h=>?_) (fun cdv A outer s H vs Q E hr h=>?_)
 ·obtain⟨_,_,_,_,_,_,rfl,_⟩:=h
  rfl
 obtain⟨fe,kv,v,d,kl,c,rfl,hf,rk0,hk,rv,hok,hrk,hd0,hd1,k⟩:=h
 refine⟨_,(@pss_cons _ _ _ _ _ (@ps_if _ _ _ _ _ _ _ _ (pt_cmpR (op_eqT hr.u150) (va nm_L_thing 2) pe_str (nomark _)) (@pss_one _ _ _ (@ps_ret _ _ _ _ (@pe_tup _ _ _ _ _ (@pa_c _ _ _ _ _ pe_str (@pa_c _ _ _ _ _ (@pe_call _ _ _ _ _ _ _ _ _ _ _ _ _ _ _ _ TK.ok (hr.mono (by omega)) (by show _=_;kernel_rfl) TK.at' TK.kp TK.bd .nil pass0 (@pa_c _ _ _ _ _ (va nm_L_thing 0) (@pa_c _ _ _ _ _ (@pe_ix _ _ _ _ _ _ _ ix_list (@pe_lst _ _ _ _ (pa_c pe_int (pa_c pe_int pa_nil))) (@pe_call _ _ _ _ _ _ _ _ _ _ _ _ _ _ _ _ TK.ok (hr.mono (by omega)) (by show _=_;kernel_rfl) TK.at' TK.kp TK.bd .nil pass0 (pa_c (va nm_L_thing 0) (pa_c pe_int pa_nil)) (by decide) (by rfl) (by rfl)) (fun _ _=>rfl)) pa_nil (by rfl)) (by rfl)) (by decide) (by rfl) (by rfl)) pa_nil (by rfl)) (by rfl))))) pss_nil) (@pss_cons _ _ _ _ _ (@ps_if _ _ _ _ _ _ _ _ (@pt_cmpR _ _ _ _ _ _ _ _ op_eq (pe_ix ix_tup (va nm_L_thing 2) pe_int (fun _ _=>rfl)) pe_str (nomark _)) (@pss_cons _ _ _ _ _ (@sa _ _ _ _ _ _ sc_L_thing.nd lm_L_thing 4 (@pe_call _ _ _ _ _ _ _ _ _ _ _ _ _ _ _ _ TK.ok (hr.mono (by omega)) (by show _=_;kernel_rfl) TK.at' TK.kp TK.bd .nil pass0 (@pa_c _ _ _ _ _ (va nm_L_thing 0) (@pa_c _ _ _ _ _ (@pe_ix _ _ _ _ _ _ _ ix_list (@pe_lst _ _ _ _ (pa_c pe_int (pa_c pe_int pa_nil))) (@pe_callTy _ _ _ _ _ _ _ _ _ call_int1 (by show _=_;kernel_rfl) z_int PyProof.Rows.boot_int (@pa_c _ _ _ _ _ (pe_cmpR op_lt (va nm_L_thing 3) pe_int (nomark _)) pa_nil (by rfl)) (by decide) (by decide) (by rfl) (by rfl)) (fun _ _=>rfl)) pa_nil (by rfl)) (by rfl)) (by decide) (by rfl) (by rfl)) (by rfl) (by kernel_rfl) (by exact .inl rfl)) (@pss_one _ _ _ (@ps_ret _ _ _ _ (@pe_tup _ _ _ _ _ (@pa_c _ _ _ _ _ pe_str (@pa_c _ _ _ _ _ (@pe_callTy _ _ _ _ _ _ _ _ _ call_tuple_of (by show _=_;kernel_rfl) z_tuple PyProof.Rows.boot_tuple (@pa_c _ _ _ _ _ (@pe_compC _ _ _ _ _ _ _ _ _ _ _ (defScope s_L_thing) ["_law_feed_here","_law_kinds_here","_law_kind","_law_down","_law_many","_law_tags","_law_t","_law_inner"] ["_law_k"] [0,1,2,3] rfl rfl rfl (by decide +kernel) (@pi_range1 _ _ _ _ _ _ (by show _=_;kernel_rfl) z_range (pa_c (va nm_L_thing 4) pa_nil) (by rfl)) (fun _ _ _ _=>(pg_name (i:=0) (show(["_law_k","_law_feed_here","_law_kinds_here","_law_kind","_law_down"]:List Str).Nodup by decide +kernel) rfl (Or.inl (by kernel_rfl)) (by first|exact .inl rfl|exact .inr (by kernel_rfl)))) (fun _ _ _ _=>pifs_nil) (fun _ _ _ _=>(@pe_call _ _ _ _ _ _ _ _ _ _ _ _ _ _ _ _ TH.ok (hr.mono (by omega)) (by show _=_;kernel_rfl) TH.at' TH.kp TH.bd .nil pass0 (@pa_c _ _ _ _ _ (va (show Nm ["_law_k","_law_feed_here","_law_kinds_here","_law_kind","_law_down"] _ by show _=_;kernel_rfl) 1) (@pa_c _ _ _ _ _ (va (show Nm ["_law_k","_law_feed_here","_law_kinds_here","_law_kind","_law_down"] _ by show _=_;kernel_rfl) 2) (@pa_c _ _ _ _ _ (pe_ix (ix_tupK K rfl) (va (show Nm ["_law_k","_law_feed_here","_law_kinds_here","_law_kind","_law_down"] _ by show _=_;kernel_rfl) 3) pe_int (fun _ _=>rfl)) (@pa_c _ _ _ _ _ (pe_op op_sub (va (show Nm ["_law_k","_law_feed_here","_law_kinds_here","_law_kind","_law_down"] _ by show _=_;kernel_rfl) 4) pe_int) pa_nil (by rfl)) (by rfl)) (by rfl)) (by rfl)) (by decide) (by rfl) (by rfl))) (by intro _;rfl)) pa_nil (by rfl)) (by decide) (by decide) (by rfl) (by rfl)) pa_nil (by rfl)) (by rfl)))))) pss_nil) (@pss_cons _ _ _ _ _ (@sa _ _ _ _ _ _ sc_L_thing.nd lm_L_thing 5 (@pe_dget _ _ _ _ _ _ (hu_of hr) (@pe_callTy _ _ _ _ _ _ _ _ _ (call_dictP rfl) (by show _=_;kernel_rfl) z_dict PyProof.Rows.boot_dict (pa_c (va nm_L_thing 1) pa_nil) (by decide) (by decide) (by rfl) (by rfl)) (pe_ix (ix_tupK K rfl) (va nm_L_thing 2) pe_int (fun _ _=>rfl)) (fun _ _=>rfl)) (by rfl) (by kernel_rfl) (by exact .inl rfl)) (@pss_cons _ _ _ _ _ (@ps_asg _ _ _ _ _ _ (@pe_ix _ _ _ _ _ _ _ ix_tup (va nm_L_thing 5) (@pe_call _ _ _ _ _ _ _ _ _ _ _ _ _ _ _ _ TK.ok (hr.mono (by omega)) (by show _=_;kernel_rfl) TK.at' TK.kp TK.bd .nil pass0 (@pa_c _ _ _ _ _ (va nm_L_thing 0) (@pa_c _ _ _ _ _ (@pe_callB _ _ _ _ _ _ _ _ _ call_len_seq (by show _=_;kernel_rfl) z_len PySem.boot_len (pa_c (va nm_L_thing 5) pa_nil) (by decide) (by decide) (by rfl) (by rfl)) pa_nil (by rfl)) (by rfl)) (by decide) (by rfl) (by rfl)) (fun _ _=>rfl)) (@pg_tupK _ _ _ _ _ (2) K rfl rfl (@pgs_cons _ _ _ _ _ (ga sc_L_thing.nd lm_L_thing 6) (pgs_cons (ga sc_L_thing.nd lm_L_thing 7) pgs_nil) (by rfl)) (by rfl) (by rfl)) (by rfl) (by rfl) (by rfl)) (@pss_one _ _ _ (@ps_ret _ _ _ _ (@pe_tup _ _ _ _ _ (@pa_c _ _ _ _ _ pe_str (@pa_c _ _ _ _ _ (va nm_L_thing 6) (@pa_c _ _ _ _ _ (@pe_callTy _ _ _ _ _ _ _ _ _ call_tuple_of (by show _=_;kernel_rfl) z_tuple PyProof.Rows.boot_tuple (@pa_c _ _ _ _ _ (@pe_compC _ _ _ _ _ _ _ _ _ _ _ (defScope s_L_thing) ["_law_feed_here","_law_kinds_here","_law_kind","_law_down","_law_many","_law_tags","_law_t","_law_inner"] ["_law_one"] [0,1,3] rfl rfl rfl (by decide +kernel) (pi_tup (va nm_L_thing 7)) (fun _ _ _ _=>(pg_name (i:=0) (show(["_law_one","_law_feed_here","_law_kinds_here","_law_down"]:List Str).Nodup by decide +kernel) rfl (Or.inl (by kernel_rfl)) (by first|exact .inl rfl|exact .inr (by kernel_rfl)))) (fun _ _ _ _=>pifs_nil) (fun _ _ _ _=>(@pe_call _ _ _ _ _ _ _ _ _ _ _ _ _ _ _ _ TH.ok (hr.mono (by omega)) (by show _=_;kernel_rfl) TH.at' TH.kp TH.bd .nil pass0 (@pa_c _ _ _ _ _ (va (show Nm ["_law_one","_law_feed_here","_law_kinds_here","_law_down"] _ by show _=_;kernel_rfl) 1) (@pa_c _ _ _ _ _ (va (show Nm ["_law_one","_law_feed_here","_law_kinds_here","_law_down"] _ by show _=_;kernel_rfl) 2) (@pa_c _ _ _ _ _ (va (show Nm ["_law_one","_law_feed_here","_law_kinds_here","_law_down"] _ by show _=_;kernel_rfl) 0) (@pa_c _ _ _ _ _ (pe_op op_sub (va (show Nm ["_law_one","_law_feed_here","_law_kinds_here","_law_down"] _ by show _=_;kernel_rfl) 3) pe_int) pa_nil (by rfl)) (by rfl)) (by rfl)) (by rfl)) (by decide) (by rfl) (by rfl))) (by intro _;rfl)) pa_nil (by rfl)) (by decide) (by decide) (by rfl) (by rfl)) pa_nil (by rfl)) (by rfl)) (by rfl))))))))),?_⟩
 try dsimp only[cx_K]
 try dsimp only[cx_K]
 have rnum:Rp K H (.s "num") (.str "num"):=.s
 have rd0:=dep_rk (kl.map (·.1)) c
 have dk:(kkT c).dep<=150:=Nat.le_trans (kkT_dep c) (by omega)
 refine seq_cut3 ?_
 intro N1 N2 N3 c1 c2 c3
 cases c with
 |num =>
  clear c1 c2 c3
  fail "R"
  intro p1 hp1
  have s1:=same_new hp1 (.lst [.int 10,.int 1000000])
  have h1:upd H p1 (.lst [.int 10,.int 1000000]) p1=some (.lst [.int 10,.int 1000000]):=upd_same
  have x1:Ext fe H (upd H p1 (.lst [.int 10,.int 1000000])):=(Ext.refl hf).new hp1 _
  have n1:=lst_ne_feed hf hp1
  generalize upd H p1 (.lst [.int 10,.int 1000000])=H1 at s1 h1 x1⊢
  have hf1:=x1.2
  fail "R"
  intro a2 H2 a0 a1 x2
  have h2:=x2.1 _ _ n1 h1
  have hf2:=x2.2
  obtain⟨m,hm,hm0,hm1⟩:∃m:Int,atI [V.int 10,V.int 1000000] a2=some (.int m)/\1<=m/\m<=1000000:=by
   have:a2=0\/a2=1:=by omega
   rcases this with rfl|rfl
   ·exact⟨10,rfl,by decide,by decide⟩
   ·exact⟨1000000,rfl,by decide,by decide⟩
  fail "R"
  intro m3 H3 m0 m1 x3
  fail "R"
  intro p4 hp4
  exact k _ _ (.num m3) (((x1.trans x2).trans x3).new hp4 _) (Rp.t (SqT.of upd_same) (.cons .s (.one .i))) (by simp[Th.sz,rk]) (Nat.zero_le _)
 |op m=>exact False.elim hok
 |kd x =>
  obtain⟨va,v1,v2,rfl,vsq,g1,g2⟩:=(show Rp K H (.t [.s "kind",.s x]) v from rv).t2
  obtain rfl:=g1.inv_s
  obtain rfl:=g2.inv_s
  obtain⟨ka,us,rfl,ksq,rs⟩:=(show Rp K H (.t (kl.map kinT)) kv from rk0).inv_t
  obtain⟨kvs,dp,ek,hkv⟩:=kl_pairs rs
  have ndk:(kvs.map (·.1)).Nodup:=by
   rw[ek]
   have:=hk.nd
   refine List.pairwise_map.mpr (List.Pairwise.imp (fun h z=>h (Sum.inr.inj z)) (List.pairwise_map.mp this))
  obtain⟨kd,hkd,rfl⟩:=List.mem_map.mp (show x∈kl.map (·.1)from hok)
  obtain⟨i0,hi0⟩:=List.getElem?_of_mem hkd
  obtain⟨tv,htv,rtv⟩:=hkv i0 kd hi0
  have emg:mergeK [] kvs=kvs:=merge_nd ndk
  have evl:valV kvs (Sum.inr kd.1)=some tv:=val_at ndk htv
  fail "R"
  intro p1 hp1
  rw[emg]
  have x1:Ext fe H (upd H p1 (.dK kvs)):=(Ext.refl hf).new hp1 _
  have h1:upd H p1 (.dK kvs) p1=some (.dK kvs):=upd_same
  generalize upd H p1 (.dK kvs)=H1 at h1 x1⊢
  have vsq1:=vsq.kt (x1.kt hf)
  have dg:DGet H1 p1 (.str kd.1) (some tv):=evl▸DGet.k (k:=Sum.inr kd.1) h1
  have rtv1:=rtv.kt (x1.kt hf)
  obtain⟨ta,tus,rfl,tsq,trs⟩:=rtv1.inv_t
  have ltu:=trs.length
  rw[List.length_map]at ltu
  obtain⟨pt1,pt2,pt3⟩:=hk.pt i0 kd hi0
  have hf1:=x1.2
  have slt:tus.length<=sizeLine:=small (by omega)
  fail "R"
  intro q H2 q0 q1 x2
  have tsq2:=tsq.kt (x2.kt hf1)
  have hql:q.toNat<kd.2.length:=by omega
  obtain⟨y,hy,ry⟩:=(trs.kt (x2.kt hf1)).get (i:=q.toNat) (x:=tagT kd.2[q.toNat]) (by rw[List.getElem?_map,List.getElem?_eq_getElem hql];rfl)
  have aq:atI tus q=some y:=by
   have:=atI_nat hy
   rw[show((q.toNat:Nat):Int)=q by omega]at this
   exact this
  generalize htg:kd.2[q.toNat]=tg at ry
  obtain⟨ha2,pt5⟩:=pt3 tg (htg▸List.getElem_mem hql)
  obtain⟨ya,y1,y2,rfl,ysq,w1,w2⟩:=(show Rp K H2 (.t [.s tg.1,.t (tg.2.map kkT)]) y from ry).t2
  obtain rfl:=w1.inv_s
  obtain⟨ia,ius,rfl,isq,irs⟩:=w2.inv_t
  have liu:=irs.length
  rw[List.length_map]at liu
  have x12:=x1.trans x2
  fail "R"
  have rkp:∀c∈tg.2,rk (kl.map (·.1)) c<=3*i0+2:=fun c hc=>by
   have h1:=rk_ok (pt5 c hc).1
   have h2:=(pt5 c hc).2
   omega
  have eix:(kl.map (·.1)).idxOf kd.1=i0:=by
   have hl:=(List.getElem?_eq_some_iff.mp hi0).1
   have e:=(List.getElem?_eq_some_iff.mp hi0).2
   have:=hk.nd.idxOf_getElem i0 (by rw[List.length_map];exact hl)
   rw[List.getElem_map,e]at this
   exact this
  simp only[rk,eix]at hrk k
  refine comp_tup (K:=K) (xs:=ius) (fun i σ us Hc=>(∃y,σ=[y,some (.ref fe),some (.ref ka),some (.int d)])/\TsI K fe H2 (3 ^ (3*i0+2+1)) (3*i0+2+1) i us Hc)
   ⟨⟨none,rfl⟩,Ext.refl x2.2,[],.nil,rfl,fun _ h=>nomatch h⟩ (fun i σ us Hc _ ⟨_,i2⟩=>by obtain⟨_,ts,rs,el,_⟩:=i2;have:=rs.length;rw[List.length_map]at this;omega) (small (by omega)) ?_ ?_ ?_
  ·rintro i σ us Hc hi ⟨_,i2⟩
   exact isq.kt (i2.x.kt x2.2)
  ·rintro i xv σ us Hc hxv ⟨⟨y,rfl⟩,i2⟩
   obtain⟨c0,hc0,rc⟩:=irs.get' hxv
   rw[List.getElem?_map]at hc0
   obtain⟨c,hc,rfl⟩:=Option.map_eq_some_iff.mp hc0
   have hcm:=List.mem_of_getElem? hc
   have xc:=x12.trans i2.x
   have hfc:=xc.2
   have rkc:Rp K Hc (kindsT kl) (.ref ka):=rk0.kt (xc.kt hf)
   have rcc:=rc.kt (i2.x.kt x2.2)
   have hle:=rkp c hcm
   have hokc:Kk.ok (kl.map (·.1)) c:=kok_take (pt5 c hcm).1
   have hrkc:rk (kl.map (·.1)) c<n:=by omega
   have db:(n:Int)<=d-1+100:=by omega
   fail "R"
   intro v' H' t x' r' z1 z2
   exact⟨⟨_,rfl⟩,i2.snoc x' r' (Nat.le_trans z1 (Nat.pow_le_pow_right (by decide) (by omega))) (by omega)⟩
  ·rintro σ us Hc ⟨_,i2⟩ p4 hp4
   obtain⟨xc,ts,rs,el,ht⟩:=i2
   have s4:=same_new hp4 (.lst us)
   have h4:upd Hc p4 (.lst us) p4=some (.lst us):=upd_same
   generalize upd Hc p4 (.lst us)=H4 at s4 h4⊢
   have lus:=rs.length
   rw[List.length_map]at lus
   fail "R"
   refine .inl ⟨SqL.of h4,fun p5 hp5=>?_⟩
   have s5:=same_new hp5 (.tup us)
   have h5:upd H4 p5 (.tup us) p5=some (.tup us):=upd_same
   generalize upd H4 p5 (.tup us)=H5 at s5 h5⊢
   fail "R"
   intro p6 hp6
   have s6:=same_new hp6 (.tup [.str "tag",.str tg.1,.ref p5])
   have hts:=szs2 fun x hx=>(ht x hx).1
   refine k _ _ (.tag tg.1 ts) (((x12.trans xc).same ((s4.trans s5).trans s6))) ?_ ?_ ?_
   ·rw[thT,thTs_eq]
    exact Rp.t (SqT.of upd_same) (.cons .s (.cons .s (.one (Rp.t (SqT.of (s6 _ _ h5)) (rs.same ((s4.trans s5).trans s6))))))
   ·simp only[Th.sz]
    rw[show 3*i0+3+1=(3*i0+2)+1+1 by omega,pow3]
    exact sz_row (Nat.pow_pos (by decide)) (by omega) hts
   ·simp only[Th.dp]
    have:=dps_le fun x hx=>(ht x hx).2
    omega
 |row k2 =>
  obtain⟨va,v1,v2,rfl,vsq,g1,g2⟩:=(show Rp K H (.t [.s "row",kkT k2]) v from rv).t2
  obtain rfl:=g1.inv_s
  clear c2 c3
  fail "R"
  intro p1 hp1
  have h1:upd H p1 (.lst [.int 4,.int 2]) p1=some (.lst [.int 4,.int 2]):=upd_same
  have x1:Ext fe H (upd H p1 (.lst [.int 4,.int 2])):=(Ext.refl hf).new hp1 _
  generalize upd H p1 (.lst [.int 4,.int 2])=H1 at h1 x1⊢
  have hf1:=x1.2
  obtain⟨m,hm,hm0,hm1⟩:∃m:Int,atI [V.int 4,V.int 2] (if decide (d<1)=true then 1 else 0)=some (.int m)/\1<=m/\m<=4:=by
   split
   ·exact⟨2,rfl,by decide,by decide⟩
   ·exact⟨4,rfl,by decide,by decide⟩
  fail "O"
  intro q H2 q0 q1 x2
  have x12:=x1.trans x2
  fail "R"
  refine comp_range (n:=q.toNat) (fun i σ us Hc=>(∃y,σ=[y,some (.ref fe),some kv,some (.ref va),some (.int d)])/\TsI K fe H2 (3 ^ (rk (kl.map (·.1)) k2+1)) (rk (kl.map (·.1)) k2+1) i us Hc)
   ⟨⟨none,rfl⟩,Ext.refl x2.2,[],.nil,rfl,fun _ h=>nomatch h⟩ (fun i σ us Hc _ ⟨_,i2⟩=>by obtain⟨_,ts,rs,el,_⟩:=i2;have:=rs.length;rw[List.length_map]at this;omega) (small (by omega)) ?_ ?_
  ·rintro i σ us Hc hi ⟨⟨y,rfl⟩,i2⟩
   have xc:=x12.trans i2.x
   have hfc:=xc.2
   have ktc:=xc.kt hf
   have rkc:=rk0.kt ktc
   have vsqc:=vsq.kt ktc
   have g2c:=g2.kt ktc
   have hokc:Kk.ok (kl.map (·.1)) k2:=hok
   have hrkc:rk (kl.map (·.1)) k2<n:=by simp only[rk]at hrk;omega
   have db:(n:Int)<=d-1+100:=by omega
   fail "R"
   intro v' H' t x' r' z1 z2
   exact⟨⟨_,rfl⟩,i2.snoc x' r' z1 z2⟩
  ·rintro σ us Hc ⟨_,i2⟩ p4 hp4
   obtain⟨xc,ts,rs,el,ht⟩:=i2
   have s4:=same_new hp4 (.lst us)
   have h4:upd Hc p4 (.lst us) p4=some (.lst us):=upd_same
   generalize upd Hc p4 (.lst us)=H4 at s4 h4⊢
   have lus:=rs.length
   rw[List.length_map]at lus
   fail "R"
   refine .inl ⟨SqL.of h4,fun p5 hp5=>?_⟩
   have s5:=same_new hp5 (.tup us)
   have h5:upd H4 p5 (.tup us) p5=some (.tup us):=upd_same
   generalize upd H4 p5 (.tup us)=H5 at s5 h5⊢
   fail "R"
   intro p6 hp6
   have s6:=same_new hp6 (.tup [.str "row",.ref p5])
   have hts:=szs2 fun x hx=>(ht x hx).1
   have h3:ts.length*3 ^ (rk (kl.map (·.1)) k2+1)<=3*3 ^ (rk (kl.map (·.1)) k2+1):=Nat.mul_le_mul_right _ (by omega)
   refine k _ _ (.row ts) (((x12.trans xc).same ((s4.trans s5).trans s6))) ?_ ?_ ?_
   ·rw[thT,thTs_eq]
    exact Rp.t (SqT.of upd_same) (.cons .s (.one (Rp.t (SqT.of (s6 _ _ h5)) (rs.same ((s4.trans s5).trans s6)))))
   ·simp only[rk,Th.sz]
    rw[pow3]
    exact sz_row (Nat.pow_pos (by decide)) (by omega) hts
   ·simp only[rk,Th.dp]
    have:=dps_le fun x hx=>(ht x hx).2
    omega
end
def isNum:Kk->Bool
 |.num=>true
 |_=>false
def tagIn(kl:Kl)(x t:Str):Option (List Kk):=(kl.find? (fun k=>decide (k.1=x))).bind fun k=>(k.2.find? (fun q=>decide (q.1=t))).map (·.2)
mutual
def dueF(kl:Kl):Th->Kk->Bool
 |.num _,k=>isNum k
 |.row l,.row k=>dueA kl l k
 |.row _,_=>false
 |.tag t l,.kd x=>match tagIn kl x t with
  |none=>false
  |some ks=>decide (ks.length=l.length)&&dueZ kl l ks
 |.tag _ _,_=>false
def dueA(kl:Kl):List Th->Kk->Bool
 | [],_=>true
 |x::r,k=>dueF kl x k&&dueA kl r k
def dueZ(kl:Kl):List Th->List Kk->Bool
 |x::r,k::ks=>dueF kl x k&&dueZ kl r ks
 |_,_=>true
end
def spDue(K:PySem.W.Frag)(n:Nat):Sp:=fun vs H Q _=>∃(kv v cv:V) (kl:Kl) (t:Th) (c:Kk),vs=[kv,v,cv]/\Rp K H (kindsT kl) kv/\KG kl/\Rp K H (thT t) v/\Rp K H (kkT c) cv/\c.ok (kl.map (·.1))/\c.dep<=100/\t.dp<n/\t.sz<=900/\∀H',Same H H'->Q (.bl (dueF kl t c)) H'
structure DuI(H:Hp) (bs:List Bool) (i:Nat) (ws:List V) (Hc:Hp):Prop where
 s:Same H Hc
 e:ws=(bs.take i).map V.bl
theorem DuI.snoc{H Hc Hd:Hp}{bs:List Bool}{i:Nat}{ws:List V}{b:Bool}(h:DuI H bs i ws Hc)(s:Same Hc Hd)(e:bs[i]?=some b):DuI H bs (i+1) (ws++[.bl b]) Hd:=by
 refine⟨h.s.trans s,?_⟩
 obtain⟨hl,e⟩:=List.getElem?_eq_some_iff.mp e
 rw[List.take_succ_eq_append_getElem hl,e,List.map_append,h.e]
 rfl
theorem dueA_eq(kl:Kl)(c:Kk):∀l:List Th,dueA kl l c=(l.map fun x=>dueF kl x c).all id
 | []=>by rw[dueA];rfl
 |x::r=>by rw[dueA,dueA_eq kl c r];rfl
theorem tg_pairs{K:PySem.W.Frag}{H:Hp}:∀{ts:List (Str×List Kk)}{us:List V},Rps K H (ts.map tagT) us->∃kvs:List (Key×V),DPairs K H kvs us/\kvs.map (·.1)=ts.map (fun k=>(Sum.inr k.1:Key)) /\
  ∀x:Str,(ts.find? (fun q=>decide (q.1=x))=none/\valV kvs (Sum.inr x)=none)\/∃q v,ts.find? (fun q=>decide (q.1=x))=some q/\valV kvs (Sum.inr x)=some v/\Rp K H (.t (q.2.map kkT)) v
 | [],us,h=>by
  obtain rfl:=h.inv0
  exact⟨[],.nil,rfl,fun x=>.inl ⟨rfl,rfl⟩⟩
 |k::r,us,h=>by
  obtain⟨u,q,rfl,g,rs⟩:=h.inv
  obtain⟨kvs,d,e,hh⟩:=tg_pairs rs
  obtain⟨a,u1,u2,rfl,sq,g1,g2⟩:=(show Rp K H (.t [.s k.1,.t (k.2.map kkT)]) u from g).t2
  obtain rfl:=g1.inv_s
  refine⟨(Sum.inr k.1,u2)::kvs,.cons ⟨a,rfl,sq⟩ d,by rw[List.map_cons,e];rfl,fun x=>?_⟩
  by_cases hx:k.1=x
  ·refine .inr ⟨k,u2,by rw[List.find?_cons_of_pos (by simpa using hx)],?_,g2⟩
   unfold valV
   rw[List.find?_cons_of_pos (by simp[hx])]
   rfl
  ·have e2:valV ((Sum.inr k.1,u2)::kvs) (Sum.inr x)=valV kvs (Sum.inr x):=by
    unfold valV
    rw[List.find?_cons_of_neg (by simp[hx])]
   rw[e2,List.find?_cons_of_neg (by simpa using hx)]
   exact hh x
theorem dueZ_eq(kl:Kl):∀(l:List Th) (ks:List Kk),dueZ kl l ks=(List.zipWith (dueF kl) l ks).all id
 | [],_=>by rw[dueZ];rfl;intro x r k ks h;cases h
 |_::_,[]=>by rw[dueZ];rfl;intro x r k ks _ h;cases h
 |x::r,k::ks=>by rw[dueZ,dueZ_eq kl r ks];rfl
theorem find_nd:∀{kl:Kl}{i:Nat}{k:Str×List (Str×List Kk)},(kl.map (·.1)).Nodup->kl[i]?=some k->kl.find? (fun q=>decide (q.1=k.1))=some k
 |a::r,0,k,_,h=>by cases Option.some.inj h;rw[List.find?_cons_of_pos (by simp)]
 |a::r,i+1,k,n,h=>by
  rw[List.map_cons,List.nodup_cons]at n
  have hm:k∈r:=List.mem_of_getElem? (i:=i) h
  rw[List.find?_cons_of_neg (by simpa using fun z:a.1=k.1=>n.1 (by rw[z];exact List.mem_map.mpr ⟨k,hm,rfl⟩))]
  exact find_nd n.2 h
theorem nd_part:∀{kl:Kl}{k:Str×List (Str×List Kk)},(tgNm kl).Nodup->k∈kl->(k.2.map (·.1)).Nodup
 |a::r,k,n,h=>by
  unfold tgNm at n
  rw[List.flatMap_cons,List.nodup_append]at n
  rcases List.mem_cons.mp h with rfl|h
  ·exact n.1
  ·exact nd_part n.2.1 h
section
variable {P:Program}{w:World}{K:PySem.W.Frag}{mg:Str->Option Value}{base:Heap}{gD:Addr}{dfd:FuncData}
theorem nm_L_due:Nm ["_law_kinds_here","_law_thing_here","_law_kind","_law_inner"] (defScope s_L_due):=by decide +kernel
theorem lm_L_due:Lm ["_law_kinds_here","_law_thing_here","_law_kind","_law_inner"] (defScope s_L_due):=by decide +kernel
theorem sc_L_due:FnScope ["_law_kinds_here","_law_thing_here","_law_kind","_law_inner"] ["_law_kinds_here","_law_thing_here","_law_kind"] (defScope s_L_due):=⟨rfl,rfl,rfl,by decide +kernel,rfl,by decide +kernel,by decide +kernel⟩
theorem ok_due{f:Addr}{fd:FuncData}{n j:Nat}(hj:1<=j)(F:Fun K "_law_due" "_law_due" s_L_due f fd)(DUE:Has P w K mg base "_law_due" j ["_law_kinds_here","_law_thing_here","_law_kind"] (spDue K n) gD dfd)(z_dict:mg "dict"=none)(z_len:mg "len"=none)(z_all:mg "all"=none)(z_zip:mg "zip"=none):FnOk P w K mg base CX0 (j+1) f fd ["_law_kinds_here","_law_thing_here","_law_kind"] (spDue K (n+1)):=by
 refine F.ok sc_L_due (fun vs H Q E h=>?_) (fun cdv A outer s H vs Q E hr h=>?_)
 ·obtain⟨_,_,_,_,_,_,rfl,_⟩:=h
  rfl
 obtain⟨kv,v,cv,kl,t,c,rfl,rkv,hk,rt,rc,hok,hcd,hd,hz,k⟩:=h
 refine⟨_,(@pss_cons _ _ _ _ _ (@ps_if _ _ _ _ _ _ _ _ (PW.pt (@pw_or _ _ _ _ _ _ _ (pt_cmpR (op_eqT hr.u150) (va nm_L_due 2) pe_str (nomark _)) (@pw_or1 _ _ _ _ (@pt_cmpR _ _ _ _ _ _ _ _ op_eq (pe_ix ix_tup (va nm_L_due 1) pe_int (fun _ _=>rfl)) pe_str (nomark _))))) (@pss_one _ _ _ (@ps_ret _ _ _ _ (@pe_and _ _ _ _ _ _ _ (pe_cmpR (op_eqT hr.u150) (va nm_L_due 2) pe_str (nomark _)) (@pe_one _ _ _ _ _ (@pe_cmpR _ _ _ _ _ _ _ _ op_eq (pe_ix ix_tup (va nm_L_due 1) pe_int (fun _ _=>rfl)) pe_str (nomark _)))))) pss_nil) (@pss_cons _ _ _ _ _ (@ps_if _ _ _ _ _ _ _ _ (PW.pt (@pw_or _ _ _ _ _ _ _ (@pt_cmpR _ _ _ _ _ _ _ _ op_eq (pe_ix ix_tup (va nm_L_due 2) pe_int (fun _ _=>rfl)) pe_str (nomark _)) (@pw_or1 _ _ _ _ (@pt_cmpR _ _ _ _ _ _ _ _ op_eq (pe_ix ix_tup (va nm_L_due 1) pe_int (fun _ _=>rfl)) pe_str (nomark _))))) (@pss_one _ _ _ (@ps_ret _ _ _ _ (@pe_and _ _ _ _ _ _ _ (@pe_cmpR _ _ _ _ _ _ _ _ op_eq (pe_ix ix_tup (va nm_L_due 2) pe_int (fun _ _=>rfl)) (pe_ix ix_tup (va nm_L_due 1) pe_int (fun _ _=>rfl)) (nomark _)) (@pe_one _ _ _ _ _ (@pe_callB _ _ _ _ _ _ _ _ _ (call_all rfl) (by show _=_;kernel_rfl) z_all PyProof.Rows.boot_all (@pa_c _ _ _ _ _ (@pe_compC _ _ _ _ _ _ _ _ _ _ _ (defScope s_L_due) ["_law_kinds_here","_law_thing_here","_law_kind","_law_inner"] ["_law_one"] [0,2] rfl rfl rfl (by decide +kernel) (@pi_tup _ _ _ _ (pe_ix ix_tup (va nm_L_due 1) pe_int (fun _ _=>rfl))) (fun _ _ _ _=>(pg_name (i:=0) (show(["_law_one","_law_kinds_here","_law_kind"]:List Str).Nodup by decide +kernel) rfl (Or.inl (by kernel_rfl)) (by first|exact .inl rfl|exact .inr (by kernel_rfl)))) (fun _ _ _ _=>pifs_nil) (fun _ _ _ _=>(@pe_call _ _ _ _ _ _ _ _ _ _ _ _ _ _ _ _ DUE.ok (hr.mono (by omega)) (by show _=_;kernel_rfl) DUE.at' DUE.kp DUE.bd .nil pass0 (@pa_c _ _ _ _ _ (va (show Nm ["_law_one","_law_kinds_here","_law_kind"] _ by show _=_;kernel_rfl) 1) (@pa_c _ _ _ _ _ (va (show Nm ["_law_one","_law_kinds_here","_law_kind"] _ by show _=_;kernel_rfl) 0) (@pa_c _ _ _ _ _ (pe_ix (ix_tupK K rfl) (va (show Nm ["_law_one","_law_kinds_here","_law_kind"] _ by show _=_;kernel_rfl) 2) pe_int (fun _ _=>rfl)) pa_nil (by rfl)) (by rfl)) (by rfl)) (by decide) (by rfl) (by rfl))) (by intro _;rfl)) pa_nil (by rfl)) (by decide) (by decide) (by rfl) (by rfl)))))) pss_nil) (@pss_cons _ _ _ _ _ (@sa _ _ _ _ _ _ sc_L_due.nd lm_L_due 3 (@pe_dget2 _ _ _ _ _ _ _ _ _ (hu_of hr) (@pe_callTy _ _ _ _ _ _ _ _ _ (call_dictP rfl) (by show _=_;kernel_rfl) z_dict PyProof.Rows.boot_dict (@pa_c _ _ _ _ _ (@pe_dget _ _ _ _ _ _ (hu_of hr) (@pe_callTy _ _ _ _ _ _ _ _ _ (call_dictP rfl) (by show _=_;kernel_rfl) z_dict PyProof.Rows.boot_dict (pa_c (va nm_L_due 0) pa_nil) (by decide) (by decide) (by rfl) (by rfl)) (pe_ix ix_tup (va nm_L_due 2) pe_int (fun _ _=>rfl)) (fun _ _=>rfl)) pa_nil (by rfl)) (by decide) (by decide) (by rfl) (by rfl)) (pe_ix ix_tup (va nm_L_due 1) pe_int (fun _ _=>rfl)) pe_non ⟨rfl,rfl,rfl,rfl⟩) (by rfl) (by kernel_rfl) (by exact .inl rfl)) (@pss_cons _ _ _ _ _ (@ps_if _ _ _ _ _ _ _ _ (PW.pt (@pw_or _ _ _ _ _ _ _ (pt_cmpR op_isN (va nm_L_due 3) pe_non (nomark _)) (@pw_or1 _ _ _ _ (@pt_cmpR _ _ _ _ _ _ _ _ op_ne (@pe_callB _ _ _ _ _ _ _ _ _ call_len_seq (by show _=_;kernel_rfl) z_len PySem.boot_len (pa_c (va nm_L_due 3) pa_nil) (by decide) (by decide) (by rfl) (by rfl)) (@pe_callB _ _ _ _ _ _ _ _ _ call_len_seq (by show _=_;kernel_rfl) z_len PySem.boot_len (@pa_c _ _ _ _ _ (pe_ix ix_tup (va nm_L_due 1) pe_int (fun _ _=>rfl)) pa_nil (by rfl)) (by decide) (by decide) (by rfl) (by rfl)) (nomark _))))) (pss_one (ps_ret pe_bl)) pss_nil) (@pss_one _ _ _ (@ps_ret _ _ _ _ (@pe_callB _ _ _ _ _ _ _ _ _ (call_all rfl) (by show _=_;kernel_rfl) z_all PyProof.Rows.boot_all (@pa_c _ _ _ _ _ (@pe_compC _ _ _ _ _ _ _ _ _ _ _ (defScope s_L_due) ["_law_kinds_here","_law_thing_here","_law_kind","_law_inner"] ["_law_one","_law_own"] [0] rfl rfl rfl (by decide +kernel) (pi_zip K rfl (by show _=_;kernel_rfl) z_zip (@pa_c _ _ _ _ _ (pe_ix ix_tup (va nm_L_due 1) pe_int (fun _ _=>rfl)) (pa_c (va nm_L_due 3) pa_nil) (by rfl))) (fun _ _ _ _=>(@pg_tupK _ _ _ _ _ (2) K rfl rfl (@pgs_cons _ _ _ _ _ (pg_name (i:=0) (show(["_law_one","_law_own","_law_kinds_here"]:List Str).Nodup by decide +kernel) rfl (Or.inl (by kernel_rfl)) (by first|exact .inl rfl|exact .inr (by kernel_rfl))) (pgs_cons (pg_name (i:=1) (show(["_law_one","_law_own","_law_kinds_here"]:List Str).Nodup by decide +kernel) rfl (Or.inl (by kernel_rfl)) (by first|exact .inl rfl|exact .inr (by kernel_rfl))) pgs_nil) (by rfl)) (by rfl) (by rfl))) (fun _ _ _ _=>pifs_nil) (fun _ _ _ _=>(@pe_call _ _ _ _ _ _ _ _ _ _ _ _ _ _ _ _ DUE.ok (hr.mono (by omega)) (by show _=_;kernel_rfl) DUE.at' DUE.kp DUE.bd .nil pass0 (@pa_c _ _ _ _ _ (va (show Nm ["_law_one","_law_own","_law_kinds_here"] _ by show _=_;kernel_rfl) 2) (@pa_c _ _ _ _ _ (va (show Nm ["_law_one","_law_own","_law_kinds_here"] _ by show _=_;kernel_rfl) 0) (pa_c (va (show Nm ["_law_one","_law_own","_law_kinds_here"] _ by show _=_;kernel_rfl) 1) pa_nil) (by rfl)) (by rfl)) (by decide) (by rfl) (by rfl))) (by intro _;rfl)) pa_nil (by rfl)) (by decide) (by decide) (by rfl) (by rfl)))))))),?_⟩
 try dsimp only[cx_K]
 try dsimp only[cx_K]
 have rnum:Rp K H (.s "num") (.str "num"):=.s
 have dk:(kkT c).dep<=150:=Nat.le_trans (kkT_dep c) (by omega)
 refine seq_cut4 ?_
 intro N1 N2 N3 N4 c1 c2 c3 c4
 cases t with
 |num m =>
  obtain⟨ta,t1,t2,rfl,tsq,g1,g2⟩:=(show Rp K H (.t [.s "num",.i m]) v from(by rw[thT]at rt;exact rt)).t2
  obtain rfl:=g1.inv_s
  clear c1 c2 c3 c4
  cases c with
  |num=>fail "R";exact k H (Same.refl _)
  |op m=>exact False.elim hok
  |kd x=>fail "R";exact k H (Same.refl _)
  |row k2=>fail "R";exact k H (Same.refl _)
 |row l =>
  obtain⟨ta,t1,t2,rfl,tsq,g1,g2⟩:=(show Rp K H (.t [.s "row",.t (l.map thT)]) v from(by rw[thT,thTs_eq]at rt;exact rt)).t2
  obtain rfl:=g1.inv_s
  obtain⟨la,us,rfl,lsq,rs⟩:=g2.inv_t
  have lus:=rs.length
  rw[List.length_map]at lus
  simp only[Th.sz,Th.dp]at hz hd
  have hll:=szs_len l
  cases c with
  |num =>
   clear c1 c2 c3 c4
   fail "R"
   exact k H (Same.refl _)
  |op m=>exact False.elim hok
  |kd x =>
   obtain⟨ca,c1',c2',rfl,csq,w1,w2⟩:=(show Rp K H (.t [.s "kind",.s x]) cv from rc).t2
   obtain rfl:=w1.inv_s
   clear c2 c3 c4
   fail "R"
   exact k H (Same.refl _)
  |row k2 =>
   obtain⟨ca,c1',c2',rfl,csq,w1,w2⟩:=(show Rp K H (.t [.s "row",kkT k2]) cv from rc).t2
   obtain rfl:=w1.inv_s
   clear c2 c3 c4
   fail "R"
   refine comp_tup (K:=K) (xs:=us) (fun i σ ws Hc=>(∃y,σ=[y,some kv,some (.ref ca)])/\DuI H (l.map fun x=>dueF kl x k2) i ws Hc) ⟨⟨none,rfl⟩,Same.refl _,rfl⟩ (fun i σ ws Hc _ ⟨_,i2⟩=>by rw[i2.e,List.length_map,List.length_take];omega) (small (by omega)) ?_ ?_ ?_
   ·rintro i σ ws Hc hi ⟨_,i2⟩
    exact lsq.same i2.s
   ·rintro i xv σ ws Hc hxv ⟨⟨y,rfl⟩,i2⟩
    obtain⟨t0,ht0,rx⟩:=rs.get' hxv
    rw[List.getElem?_map]at ht0
    obtain⟨x,hx,rfl⟩:=Option.map_eq_some_iff.mp ht0
    have hxm:=List.mem_of_getElem? hx
    have hxd:=dps_mem hxm
    have hxz:=szs_mem hxm
    have rkc:=rkv.same i2.s
    have rxc:=rx.same i2.s
    have csqc:=csq.same i2.s
    have w2c:=w2.same i2.s
    have hokc:Kk.ok (kl.map (·.1)) k2:=hok
    have hcd2:k2.dep<=100:=by simp only[Kk.dep]at hcd;omega
    have b1:x.dp<n:=by omega
    have b2:x.sz<=900:=by omega
    fail "R"
    intro H' s'
    exact⟨⟨_,rfl⟩,i2.snoc s' (by rw[List.getElem?_map,hx];rfl)⟩
   ·rintro σ ws Hc ⟨_,i2⟩ p4 hp4
    have s4:=same_new hp4 (.lst ws)
    have h4:upd Hc p4 (.lst ws) p4=some (.lst ws):=upd_same
    generalize upd Hc p4 (.lst ws)=H4 at s4 h4⊢
    have ew:=i2.e
    rw[lus,←List.length_map (f:=fun x=>dueF kl x k2) (as:=l),List.take_length]at ew
    subst ew
    fail "R"
    have e:=dueA_eq kl k2 l
    have kk:=k H4 (i2.s.trans s4)
    rw[dueF,e]at kk
    exact kk
 |tag x l =>
  obtain⟨ta,t1,t2,t3,rfl,tsq,g1,g2,g3⟩:=(show Rp K H (.t [.s "tag",.s x,.t (l.map thT)]) v from(by rw[thT,thTs_eq]at rt;exact rt)).t3
  obtain rfl:=g1.inv_s
  obtain rfl:=g2.inv_s
  obtain⟨la,us,rfl,lsq,rs⟩:=g3.inv_t
  have lus:=rs.length
  rw[List.length_map]at lus
  simp only[Th.sz,Th.dp]at hz hd
  have hll:=szs_len l
  cases c with
  |num =>
   clear c1 c2 c3 c4
   fail "R"
   exact k H (Same.refl _)
  |op m=>exact False.elim hok
  |row k2 =>
   obtain⟨ca,c1',c2',rfl,csq,w1,w2⟩:=(show Rp K H (.t [.s "row",kkT k2]) cv from rc).t2
   obtain rfl:=w1.inv_s
   clear c2 c3 c4
   fail "R"
   exact k H (Same.refl _)
  |kd y =>
   obtain⟨ca,c1',c2',rfl,csq,w1,w2⟩:=(show Rp K H (.t [.s "kind",.s y]) cv from rc).t2
   obtain rfl:=w1.inv_s
   obtain rfl:=w2.inv_s
   obtain⟨ka,kus,rfl,ksq,krs⟩:=(show Rp K H (.t (kl.map kinT)) kv from rkv).inv_t
   obtain⟨kvs,dp,ek,hkv⟩:=kl_pairs krs
   have ndk:(kvs.map (·.1)).Nodup:=by
    rw[ek]
    exact List.pairwise_map.mpr (List.Pairwise.imp (fun h z=>h (Sum.inr.inj z)) (List.pairwise_map.mp hk.nd))
   obtain⟨kd,hkd,rfl⟩:=List.mem_map.mp (show y∈kl.map (·.1)from hok)
   obtain⟨i0,hi0⟩:=List.getElem?_of_mem hkd
   obtain⟨tv,htv,rtv⟩:=hkv i0 kd hi0
   have emg:mergeK [] kvs=kvs:=merge_nd ndk
   have evl:valV kvs (Sum.inr kd.1)=some tv:=val_at ndk htv
   obtain⟨pt1,pt2,pt3⟩:=hk.pt i0 kd hi0
   have eti:tagIn kl kd.1 x=(kd.2.find? (fun q=>decide (q.1=x))).map (·.2):=by unfold tagIn;rw[find_nd hk.nd hi0];rfl
   have nd2:(kd.2.map (·.1)).Nodup:=nd_part hk.tnd hkd
   fail "R"
   intro p1 hp1
   rw[emg]
   have s1:=same_new hp1 (.dK kvs)
   have h1:upd H p1 (.dK kvs) p1=some (.dK kvs):=upd_same
   generalize upd H p1 (.dK kvs)=H1 at s1 h1⊢
   have csq1:=csq.same s1
   have dg:DGet H1 p1 (.str kd.1) (some tv):=evl▸DGet.k (k:=Sum.inr kd.1) h1
   obtain⟨ta2,tus,rfl,tsq2,trs⟩:=(rtv.same s1).inv_t
   obtain⟨kvs2,dp2,ek2,hh⟩:=tg_pairs trs
   have emg2:mergeK [] kvs2=kvs2:=merge_nd (by
    rw[List.nil_append,ek2]
    exact List.pairwise_map.mpr (List.Pairwise.imp (fun h z=>h (Sum.inr.inj z)) (List.pairwise_map.mp nd2)))
   fail "R"
   intro p2 hp2
   rw[emg2]
   have s2:=same_new hp2 (.dK kvs2)
   have h2:upd H1 p2 (.dK kvs2) p2=some (.dK kvs2):=upd_same
   generalize upd H1 p2 (.dK kvs2)=H2 at s2 h2⊢
   have isd:IsD H2 p2:=.inl ⟨kvs2,.inl h2⟩
   have s12:=s1.trans s2
   have tsq12:=tsq.same s12
   have lsq12:=lsq.same s12
   have dg2:DGet H2 p2 (.str x) (valV kvs2 (Sum.inr x)):=DGet.k (k:=Sum.inr x) h2
   rcases hh x with⟨f0,v0⟩|⟨q,iv,f1,v1,rq⟩
   ·rw[v0]at dg2
    rw[f0]at eti
    fail "R"
    have kk:=k H2 s12
    rw[dueF,eti]at kk
    exact kk
   ·rw[v1]at dg2
    rw[f1]at eti
    obtain⟨ia,ius,rfl,isq,irs⟩:=(rq.same s2).inv_t
    have liu:=irs.length
    rw[List.length_map]at liu
    have hqm:=List.mem_of_find?_eq_some f1
    obtain⟨hq2,hq5⟩:=pt3 q hqm
    have zi:ius.length<=sizeLine:=small (by omega)
    have zu:us.length<=sizeLine:=small (by omega)
    fail "R"
    have ne:∀(a b:Nat),(!decide (V.int (a:Int)=V.int (b:Int)))=true->a≠b:=fun a b h z=>by rw[z]at h;simp at h
    have eq:∀(a b:Nat),¬(!decide (V.int (a:Int)=V.int (b:Int)))=true->a=b:=fun a b h=>by
     simp only[Bool.not_eq_true,Bool.not_eq_false',decide_eq_true_eq]at h
     injection h with h
     omega
    refine ite2 (fun c=>?_) (fun c=>?_)
    ·have hne:=ne _ _ c
     clear c3 c4
     fail "R"
     have kk:=k H2 s12
     rw[dueF,eti]at kk
     have e0:decide (q.2.length=l.length)=false:=decide_eq_false (by omega)
     simp only[Option.map_some,e0,Bool.false_and]at kk
     exact kk
    ·have heq:=eq _ _ (by simpa using c)
     have sba:SqB K true H2 la us:=lsq12
     have sbi:SqB K true H2 ia ius:=isq
     fail "R"
     refine comp_zip (K:=K) (b1:=true) (b2:=true) (xs:=us) (ys:=ius) (fun i σ ws Hc=>(∃y1 y2,σ=[y1,y2,some (.ref ka)])/\DuI H2 (List.zipWith (dueF kl) l q.2) i ws Hc) ⟨⟨_,_,rfl⟩,Same.refl _,rfl⟩ (fun i σ ws Hc _ ⟨_,i2⟩=>by rw[i2.e,List.length_map,List.length_take];omega) (small (by omega)) ?_ ?_ ?_ ?_
     ·rintro i σ ws Hc hi ⟨_,i2⟩
      exact lsq12.same i2.s
     ·rintro i σ ws Hc hi ⟨_,i2⟩
      exact isq.same i2.s
     ·rintro i xv yv σ ws Hc p hxv hyv ⟨⟨y1,y2,rfl⟩,i2⟩ hp
      obtain⟨t0,ht0,rx⟩:=rs.get' hxv
      rw[List.getElem?_map]at ht0
      obtain⟨z,hzx,rfl⟩:=Option.map_eq_some_iff.mp ht0
      obtain⟨t0,ht0,ry⟩:=irs.get' hyv
      rw[List.getElem?_map]at ht0
      obtain⟨cz,hcz,rfl⟩:=Option.map_eq_some_iff.mp ht0
      have hxm:=List.mem_of_getElem? hzx
      have hcm:=List.mem_of_getElem? hcz
      have hxd:=dps_mem hxm
      have hxz:=szs_mem hxm
      have s3:=same_new hp (.tup [xv,yv])
      have h3:upd Hc p (.tup [xv,yv]) p=some (.tup [xv,yv]):=upd_same
      generalize upd Hc p (.tup [xv,yv])=H3 at s3 h3⊢
      have s23:=i2.s.trans s3
      have rkc:Rp K H3 (kindsT kl) (.ref ka):=(rkv.same s12).same s23
      have rxc:=(rx.same s12).same s23
      have ryc:=ry.same s23
      have hokc:Kk.ok (kl.map (·.1)) cz:=kok_take (hq5 cz hcm).1
      have hcd2:cz.dep<=100:=Nat.le_trans (hq5 cz hcm).2 (by decide)
      have b1:z.dp<n:=by omega
      have b2:z.sz<=900:=by omega
      fail "R"
      intro H' s'
      exact⟨⟨_,_,rfl⟩,i2.snoc (s3.trans s') (by rw[List.getElem?_zipWith,hzx,hcz])⟩
     ·rintro σ ws Hc ⟨_,i2⟩ p4 hp4
      have s4:=same_new hp4 (.lst ws)
      have h4:upd Hc p4 (.lst ws) p4=some (.lst ws):=upd_same
      generalize upd Hc p4 (.lst ws)=H4 at s4 h4⊢
      have ew:=i2.e
      rw[List.take_of_length_le (by rw[List.length_zipWith];omega)]at ew
      subst ew
      fail "R"
      have kk:=k H4 (s12.trans (i2.s.trans s4))
      rw[dueF,eti]at kk
      have e0:decide (q.2.length=l.length)=true:=decide_eq_true (by omega)
      simp only[Option.map_some,e0,Bool.true_and,dueZ_eq]at kk
      exact kk
end
end G24
namespace G24
open PySem L2
def kids:Th->List Th
 |.num _=>[]
 |.row l=>l
 |.tag _ l=>l
inductive At:Th->List Int->Prop
 |nil {t:Th}:At t []
 |cons {t x:Th}{i:Nat}{r:List Int}:(kids t)[i]?=some x->At x r->At t ((i:Int)::r)
def pathT(ps:List Int):T:=.t (ps.map T.i)
def spPlaces(K:PySem.W.Frag)(n:Nat):Sp:=fun vs H Q _=>∃(v pv:V) (t:Th) (ps:List Int),vs=[v,pv]/\Rp K H (thT t) v/\Rp K H (pathT ps) pv/\t.dp<n/\t.sz<=4000000/\ps.length+t.dp<=200 /\
 ∀(l:Addr) (H':Hp) (us:List V) (qs:List (List Int)),Same H H'->H l=none->H' l=some (.lst us)->Rps K H' (qs.map pathT) us->qs.length=t.sz->(∀q∈qs,∃r,q=ps++r/\At t r)->Q (.ref l) H'
theorem th_cases:∀t:Th,(∃m,t=.num m)\/∀m,t≠.num m
 |.num m=>.inl ⟨m,rfl⟩
 |.row _=>.inr nofun
 |.tag _ _=>.inr nofun
theorem th_kids:∀{t:Th},(∀m,t≠.num m)->t.sz=szs (kids t)+1/\t.dp=dps' (kids t)+1
 |.num m,h=>absurd rfl (h m)
 |.row _,_=>⟨by rw[Th.sz];rfl,by rw[Th.dp];rfl⟩
 |.tag _ _,_=>⟨by rw[Th.sz];rfl,by rw[Th.dp];rfl⟩
theorem th_open{K:PySem.W.Frag}{H:Hp}{v:V}:∀{t:Th},(∀m,t≠.num m)->Rp K H (thT t) v->∃ta tus la us hd,v=.ref ta/\SqT K H ta tus/\atI tus 0=some (.str hd)/\hd≠"num"/\atI tus (-1)=some (.ref la)/\SqT K H la us/\Rps K H ((kids t).map thT) us
 |.num m,h,_=>absurd rfl (h m)
 |.row l,_,r=>by
  rw[thT,thTs_eq]at r
  obtain⟨a,u1,u2,rfl,sq,g1,g2⟩:=r.t2
  obtain rfl:=g1.inv_s
  obtain⟨la,us,rfl,lsq,rs⟩:=g2.inv_t
  exact⟨a,_,la,us,"row",rfl,sq,rfl,by decide,rfl,lsq,rs⟩
 |.tag x l,_,r=>by
  rw[thT,thTs_eq]at r
  obtain⟨a,u1,u2,u3,rfl,sq,g1,g2,g3⟩:=r.t3
  obtain rfl:=g1.inv_s
  obtain⟨la,us,rfl,lsq,rs⟩:=g3.inv_t
  exact⟨a,_,la,us,"tag",rfl,sq,rfl,by decide,rfl,lsq,rs⟩
structure PlI(K:PySem.W.Frag) (p1:Addr) (H:Hp) (ps:List Int) (t:Th) (i:Nat) (H2:Hp):Prop where
 s:Same H H2
 l:∃(us2:List V) (qs:List (List Int)),H2 p1=some (.lst us2)/\Rps K H2 (qs.map pathT) us2/\qs.length=1+szs ((kids t).take i)/\∀q∈qs,∃r,q=ps++r/\At t r
theorem kt_lst{H:Hp}{l:Addr}{xs ys:List V}(h:H l=some (.lst xs)):Kt H (upd H l (.lst ys)):=fun a zs r=>by
 have ne:a≠l:=fun z=>by
  rcases r with e|⟨o,e⟩<;>(rw[z,h]at e;cases e)
 rcases r with e|⟨o,e⟩
 ·exact .inl (by rw[upd_ne ne];exact e)
 ·exact .inr ⟨o,by rw[upd_ne ne];exact e⟩
section
variable {P:Program}{w:World}{K:PySem.W.Frag}{mg:Str->Option Value}{base:Heap}{gP:Addr}{pfd:FuncData}
theorem nm_L_places:Nm ["_law_thing_here","_law_path","_law_found","_law_k","_law_one"] (defScope s_L_places):=by decide +kernel
theorem lm_L_places:Lm ["_law_thing_here","_law_path","_law_found","_law_k","_law_one"] (defScope s_L_places):=by decide +kernel
theorem sc_L_places:FnScope ["_law_thing_here","_law_path","_law_found","_law_k","_law_one"] ["_law_thing_here","_law_path"] (defScope s_L_places):=⟨rfl,rfl,rfl,by decide +kernel,rfl,by decide +kernel,by decide +kernel⟩
theorem ok_places{f:Addr}{fd:FuncData}{n j:Nat}(hj:1<=j)(F:Fun K "_law_places" "_law_places" s_L_places f fd)(PLS:Has P w K mg base "_law_places" j ["_law_thing_here","_law_path"] (spPlaces K n) gP pfd)(z_enumerate:mg "enumerate"=none) :
  FnOk P w K mg base CX0 (j+1) f fd ["_law_thing_here","_law_path"] (spPlaces K (n+1)):=by
 refine F.ok sc_L_places (fun vs H Q E h=>?_) (fun cdv A outer s H vs Q E hr h=>?_)
 ·obtain⟨_,_,_,_,rfl,_⟩:=h
  rfl
 obtain⟨v,pv,t,ps,rfl,rt,rp,hd,hz,hl,k⟩:=h
 refine⟨_,(@pss_cons _ _ _ _ _ (@sa _ _ _ _ _ _ sc_L_places.nd lm_L_places 2 (@pe_lst _ _ _ _ (pa_c (va nm_L_places 1) pa_nil)) (by rfl) (by kernel_rfl) (by exact .inl rfl)) (@pss_cons _ _ _ _ _ (@ps_if _ _ _ _ _ _ _ _ (@pt_cmpR _ _ _ _ _ _ _ _ op_ne (pe_ix ix_tup (va nm_L_places 0) pe_int (fun _ _=>rfl)) pe_str (nomark _)) (@pss_one _ _ _ (@ps_for _ _ _ _ _ _ _ _ PassesOwn.never rfl (pi_enum K rfl (by show _=_;kernel_rfl) z_enumerate (@pa_c _ _ _ _ _ (pe_ix ix_tup (va nm_L_places 0) (pe_un un_neg pe_int) (fun _ _=>rfl)) pa_nil (by rfl))) (@pg_tupK _ _ _ _ _ (2) K rfl rfl (@pgs_cons _ _ _ _ _ (ga sc_L_places.nd lm_L_places 3) (pgs_cons (ga sc_L_places.nd lm_L_places 4) pgs_nil) (by rfl)) (by rfl) (by rfl)) (@pss_one _ _ _ (@ps_expr _ _ _ _ (@pe_bm _ _ _ _ _ _ _ _ _ _ _ _ PySem.F.plainAttrs_list PySem.F.slot_list_extend PySem.F.type_list_extend mt_extend (va nm_L_places 2) (@pa_c _ _ _ _ _ (@pe_call _ _ _ _ _ _ _ _ _ _ _ _ _ _ _ _ PLS.ok (hr.mono (by omega)) (by show _=_;kernel_rfl) PLS.at' PLS.kp PLS.bd .nil pass0 (@pa_c _ _ _ _ _ (va nm_L_places 4) (@pa_c _ _ _ _ _ (@pe_op _ _ _ _ _ _ _ _ op_catTA (va nm_L_places 1) (@pe_tup _ _ _ _ _ (pa_c (va nm_L_places 3) pa_nil))) pa_nil (by rfl)) (by rfl)) (by decide) (by rfl) (by rfl)) pa_nil (by rfl)) (by rfl) (by rfl) (by rfl) (by rfl) (by rfl)) (by rfl))) (by intro _;rfl))) pss_nil) (@pss_one _ _ _ (ps_ret (va nm_L_places 2))))),?_⟩
 try dsimp only[cx_K]
 try dsimp only[cx_K]
 fail "R"
 intro p1 hp1
 have s1:=same_new hp1 (.lst [pv])
 have h1:upd H p1 (.lst [pv]) p1=some (.lst [pv]):=upd_same
 generalize upd H p1 (.lst [pv])=H1 at s1 h1⊢
 have rp1:=rp.same s1
 rcases th_cases t with⟨m,rfl⟩|hn
 ·obtain⟨ta,t1,t2,rfl,tsq,g1,g2⟩:=(show Rp K H (.t [.s "num",.i m]) v from(by rw[thT]at rt;exact rt)).t2
  obtain rfl:=g1.inv_s
  have tsq1:=tsq.same s1
  fail "R"
  exact k p1 H1 [pv] [ps] s1 hp1 h1 (.one rp1) rfl (fun q hq=>⟨[],by rw[List.mem_singleton.mp hq,List.append_nil],.nil⟩)
 obtain⟨ta,tus,la,us,hd',rfl,tsq,e0,hne,e1,lsq,rs⟩:=th_open hn rt
 obtain⟨esz,edp⟩:=th_kids hn
 have lus:=rs.length
 rw[List.length_map]at lus
 have tsq1:=tsq.same s1
 have sb1:SqB K true H1 la us:=lsq.same s1
 obtain⟨pa,pus,rfl,psq,prs⟩:=(show Rp K H (.t (ps.map T.i)) pv from rp).inv_t
 have hlen:=szs_len (kids t)
 fail "R"
 refine ite2 (fun c=>?_) (fun c=>?_)
 ·fail "R"
  refine for_enum (K:=K) (b:=true) (xs:=us) (fun i σ H2=>(∃y3 y4,σ=[some (.ref ta),some (.ref pa),some (.ref p1),y3,y4])/\PlI K p1 H ps t i H2) ⟨⟨_,_,rfl⟩,s1,[.ref pa],[ps],h1,.one rp1,rfl,fun q hq=>⟨[],by rw[List.mem_singleton.mp hq,List.append_nil],.nil⟩⟩ ?_ ?_ ?_
  ·rintro i σ H2 hi ⟨_,i2⟩
   exact lsq.same i2.s
  ·rintro i xv σ H2 p hxv ⟨⟨y3,y4,rfl⟩,i2⟩ hp
   obtain⟨s2,us2,qs,h2,rq,lq,hq⟩:=i2
   obtain⟨t0,ht0,rx⟩:=rs.get' hxv
   rw[List.getElem?_map]at ht0
   obtain⟨x,hx,rfl⟩:=Option.map_eq_some_iff.mp ht0
   have s3:=same_new hp (.tup [.int (i:Int),xv])
   have h3:upd H2 p (.tup [.int (i:Int),xv]) p=some (.tup [.int (i:Int),xv]):=upd_same
   generalize upd H2 p (.tup [.int (i:Int),xv])=H3 at s3 h3⊢
   have hl3:=s3 _ _ h2
   have tl3:tyV K "list" (.ref p1) H3:=.inl ⟨rfl,_,SqL.of hl3⟩
   fail "R"
   intro p4 hp4
   have s4:=same_new hp4 (.tup [.int (i:Int)])
   have h4:upd H3 p4 (.tup [.int (i:Int)]) p4=some (.tup [.int (i:Int)]):=upd_same
   generalize upd H3 p4 (.tup [.int (i:Int)])=H4 at s4 h4⊢
   have s24:=s3.trans s4
   have psq4:=psq.same (s2.trans s24)
   have lpu:=prs.length
   rw[List.length_map]at lpu
   have c4:SqT K H4 p4 [.int (i:Int)]:=SqT.of h4
   have z4:pus.length+1<=sizeLine:=small (by omega)
   fail "R"
   intro p5 H5 s5 sq5
   have s25:=(s2.trans s24).trans s5
   have rx5:=rx.same s25
   have rp5:Rp K H5 (pathT (ps++[(i:Int)])) (.ref p5):=by
    unfold pathT
    rw[List.map_append]
    exact Rp.t sq5 ((prs.same s25).append (.one .i))
   have hxm:=List.mem_of_getElem? hx
   have hxd:=dps_mem hxm
   have hxz:=szs_mem hxm
   have b1:x.dp<n:=by omega
   have b2:x.sz<=4000000:=by omega
   have b3:(ps++[(i:Int)]).length+x.dp<=200:=by rw[List.length_append];simp;omega
   have hil:i<(kids t).length:=(List.getElem?_eq_some_iff.mp hx).1
   have etk:(kids t).take (i+1)=(kids t).take i++[x]:=by rw[List.take_succ_eq_append_getElem hil,(List.getElem?_eq_some_iff.mp hx).2]
   have hz2:szs ((kids t).take (i+1))<=szs (kids t):=by
    have:=szs_app ((kids t).take (i+1)) ((kids t).drop (i+1))
    rw[List.take_append_drop]at this
    omega
   rw[etk,szs_app]at hz2
   simp only[szs]at hz2
   have lu2:=rq.length
   rw[List.length_map]at lu2
   fail "R"
   intro l6 H6 us6 qs6 s6 hl6 h6 r6 lq6 hq6
   have lu6:=r6.length
   rw[List.length_map]at lu6
   have hl7:H6 p1=some (.lst us2):=s6 _ _ (s5 _ _ (s4 _ _ hl3))
   have z7:us2.length+us6.length<=sizeLine:=Nat.le_trans (by omega) (show 4000001<=sizeLine by decide)
   fail "R"
   have sH:Same H (upd H6 p1 (.lst (us2++us6))):=fun b o e=>by
    rw[upd_ne (ne_of_none e hp1)]
    exact s6 _ _ (s25 _ _ e)
   have kt7:Kt H6 (upd H6 p1 (.lst (us2++us6))):=kt_lst hl7
   refine⟨sH,us2++us6,qs++qs6,upd_same,?_,?_,fun q hqm=>?_⟩
   ·rw[List.map_append]
    exact(((rq.same (s24.trans s5)).same s6).kt kt7).append (r6.kt kt7)
   ·rw[List.length_append,etk,szs_app]
    simp only[szs]
    omega
   ·rcases List.mem_append.mp hqm with hm|hm
    ·exact hq q hm
    ·obtain⟨r,rfl,ha⟩:=hq6 q hm
     exact⟨(i:Int)::r,by rw[List.append_assoc];rfl,.cons hx ha⟩
  ·rintro σ H2 ⟨⟨y3,y4,rfl⟩,i2⟩
   obtain⟨s2,us2,qs,h2,rq,lq,hq⟩:=i2
   rw[lus,List.take_length]at lq
   fail "R"
   exact k p1 H2 us2 qs s2 hp1 h2 rq (by omega) hq
 ·exact absurd (by simpa using c) hne
end
theorem find_tag:∀{ts:List (Str×List Kk)}{q:Str×List Kk},(ts.map (·.1)).Nodup->q∈ts->ts.find? (fun e=>decide (e.1=q.1))=some q
 |a::r,q,n,h=>by
  rw[List.map_cons,List.nodup_cons]at n
  rcases List.mem_cons.mp h with rfl|h
  ·rw[List.find?_cons_of_pos (by simp)]
  ·rw[List.find?_cons_of_neg (by simpa using fun z:a.1=q.1=>n.1 (by rw[z];exact List.mem_map.mpr ⟨q,h,rfl⟩))]
   exact find_tag n.2 h
theorem tag_apart:∀{kl:Kl}{k k':Str×List (Str×List Kk)}{t:Str},(tgNm kl).Nodup->k∈kl->k'∈kl->t∈k.2.map (·.1)->t∈k'.2.map (·.1)->k=k'
 |a::r,k,k',t,n,h,h',m,m'=>by
  unfold tgNm at n
  rw[List.flatMap_cons,List.nodup_append]at n
  have inr:∀x:Str×List (Str×List Kk),x∈r->t∈x.2.map (·.1)->t∈r.flatMap fun k=>k.2.map (·.1):=fun x hx ht=>List.mem_flatMap.mpr ⟨x,hx,ht⟩
  rcases List.mem_cons.mp h with e|h
  ·rcases List.mem_cons.mp h' with e'|h'
   ·rw[e,e']
   ·rw[e]at m
    exact absurd rfl (n.2.2 t m t (inr k' h' m'))
  ·rcases List.mem_cons.mp h' with e'|h'
   ·rw[e']at m'
    exact absurd rfl (n.2.2 t m' t (inr k h m))
   ·exact tag_apart n.2.1 h h' m m'
theorem tl_find{kl:Kl}(hk:KG kl){y:Str}(hy:y∈kl.map (·.1))(t:Str) :
  ((tl kl).find? (fun e=>decide (e.1=t))=none/\tagIn kl y t=none)\/∃e,(tl kl).find? (fun e=>decide (e.1=t))=some e/\e.1=t/\((e.2.1=y/\tagIn kl y t=some e.2.2)\/(e.2.1≠y/\tagIn kl y t=none)):=by
 obtain⟨kd,hkd,rfl⟩:=List.mem_map.mp hy
 obtain⟨i0,hi0⟩:=List.getElem?_of_mem hkd
 have eti:tagIn kl kd.1 t=(kd.2.find? (fun q=>decide (q.1=t))).map (·.2):=by unfold tagIn;rw[find_nd hk.nd hi0];rfl
 cases hf:(tl kl).find? (fun e=>decide (e.1=t))with
 |none =>
  refine .inl ⟨rfl,?_⟩
  rw[eti]
  have:kd.2.find? (fun q=>decide (q.1=t))=none:=by
   rw[List.find?_eq_none]
   intro q hq hd
   have hm:(q.1,kd.1,q.2)∈tl kl:=List.mem_flatMap.mpr ⟨kd,hkd,List.mem_map.mpr ⟨q,hq,rfl⟩⟩
   exact(List.find?_eq_none.mp hf) _ hm hd
  rw[this];rfl
 |some e =>
  have he1:e.1=t:=by simpa using List.find?_some hf
  obtain⟨k,hk1,hk2⟩:=List.mem_flatMap.mp (List.mem_of_find?_eq_some hf)
  obtain⟨q,hq,rfl⟩:=List.mem_map.mp hk2
  refine .inr ⟨_,rfl,he1,?_⟩
  by_cases c:k.1=kd.1
  ·refine .inl ⟨c,?_⟩
   obtain⟨i1,hi1⟩:=List.getElem?_of_mem hk1
   have ek:k=kd:=by
    have h1:=find_nd hk.nd hi1
    rw[c,find_nd hk.nd hi0]at h1
    exact(Option.some.inj h1).symm
   subst ek
   rw[eti,←he1,find_tag (nd_part hk.tnd hk1) hq]
   rfl
  ·refine .inr ⟨c,?_⟩
   rw[eti]
   have:kd.2.find? (fun q=>decide (q.1=t))=none:=by
    rw[List.find?_eq_none]
    intro q' hq' hd
    have e':q'.1=t:=by simpa using hd
    have:=tag_apart hk.tnd hk1 hkd (t:=t) (List.mem_map.mpr ⟨q,hq,he1⟩) (List.mem_map.mpr ⟨q',hq',e'⟩)
    exact c (by rw[this])
   rw[this];rfl
end G24
namespace L2
open PySem PySem.Spec PyProof.Rows
section
variable {X:Cx}
end
section
variable {X:Cx}
theorem op_inD(hu:X.A.units+1<cLine):OpR X (compareOp .In) (fun y x H Q=>∃a o,x=.ref a/\DGet H a y o/\Q (.bl o.isSome) H):=by
 intro pins s σ H y x iv u Q I ry rx h
 obtain⟨a,o,rfl,g,q⟩:=h
 obtain rfl:u=Value.ref a:=rx
 exact d_in hu I g ry fun s3 I3=>⟨.bl o.isSome,H,I3,rfl,q⟩
end
end L2
namespace HT
open PySem PyProof.Rows
section
open PySem.SeqAt
open PySem.AutoSeq1 (wpAny_loadPart')
open PySem.MeetsSeq PySem.MeetsSeq2 PySem.MeetsSeq3
variable {prog:Program}{w:World}{A:Around}{E:Value->Shared->Prop}{s:Shared}
theorem getItem_tuple_whole{t sl:Addr}{items:Array Value}{vl vu:Value}{lo hi:Option Int}{Q:Value->Shared->Prop}(ht:IsTup s.heap t items)(hs:s.heap.IsSliceOf sl vl vu .none)(pl:IsPart vl lo)(pu:IsPart vu hi)
  (h0:sIx items.size 0 lo=0) (h1:sIx items.size items.size hi=items.size) (h:Q (.ref t) s):wpAny (model prog w) A (getItem (.ref t) (.ref sl)) Q E s:=by
 obtain⟨os,hos,hcs,hds⟩:=id hs
 have hTs:s.TypeIs (.ref sl) "slice":=⟨os,hos,hcs⟩
 unfold getItem
 try with_reducible refine wpAny_holding ?_
 first|refine wpAny_bind (wpAny_pure ?_)|skip
 refine wpAny_bind (wpAny_sequenceKey ht.typeIs (by decide) ?_)
 refine wpAny_bind (wpAny_callSpecial?_slot (name:=Str.ofString "__getitem__") ht.typeIs PyProof.Rows.slot_tuple_getitem
  (wpAny_call_entry PyProof.Rows.slot_tuple_getitem ht.typeIs entry_tuple_getitem ?_ (args_tuple_getitem _ _)))
 show wpAny _ _ (Builtin.Tuple.tupleItemsOf (.ref t)>>=_) _ _ s
 refine wpAny_bind (tupleItemsOf_ ht ?_)
 refine wpAny_bind (wpAny_typeOf hTs ?_)
 rw[if_pos (by decide)]
 refine wpAny_bind (sliceApplied_gen hs pl pu ?_)
 rw[h0,h1]
 show wpAny _ _ (if(((0:Nat):Int) == 0&&(1:Int) == 1&&(items.size-0) == items.size)=true then _ else _) _ _ s
 rw[if_pos (by simp)]
 show wpAny _ _ ((typeOf (.ref t)>>=_)>>=_) _ _ s
 refine wpAny_bind (wpAny_bind (wpAny_typeOf ht.typeIs (wpAny_pure ?_)))
 show wpAny _ _ (if(_:Bool)=true then _ else _) _ _ s
 rw[if_pos (by decide)]
 refine wpAny_bind (wpAny_rule ?_)
 exact wpAny_pure ⟨_,rfl,wpAny_pure h⟩
end
end HT
namespace L2
open PySem PySem.Spec PyProof.Rows
section
variable {X:Cx}{e st:Expr}{lo hi:Option Expr}{te:TE}{tl th tk:TO}{p2 pos:Pos}
def rSlA(K:PySem.W.Frag):V->Option Int->Option Int->Hp->VK->Prop:=fun x lo hi H Q=>∃a xs,x=.ref a/\SqT K H a xs/\∀p H',Same H H'->SqT K H' p (cutV xs lo hi)->Q (.ref p) H'
theorem sl_tupA:SlR X (rSlA X.K):=by
 intro pins s σ H x v vl vu lo hi sl Q I rx hs pl pu h
 obtain⟨a,xs,rfl,hx,q⟩:=h
 by_cases hw:HT.sIx xs.length 0 lo=0/\HT.sIx xs.length xs.length hi=xs.length
 ·cases rx
  obtain⟨its,r,ht,hz⟩:=I.tuple hx
  have hlen:its.toArray.size=xs.length:=by rw[List.size_toArray];exact r.length.symm
  refine⟨"tuple",_,PyProof.Rows.slot_tuple_getitem.lookup,ht.typeIs,?_⟩
  refine HT.getItem_tuple_whole ht hs pl pu (by rw[hlen];exact hw.1) (by rw[hlen];exact hw.2) ⟨.ref a,H,I,rfl,q a H (fun _ _ e=>e) ?_⟩
  have:cutV xs lo hi=xs:=by
   unfold cutV
   rw[hw.1,hw.2,List.drop_zero,Nat.sub_zero,List.take_length]
  rw[this]
  exact hx
 ·exact sl_tup pins s σ H (.ref a) v vl vu lo hi sl Q I rx hs pl pu ⟨a,xs,rfl,hx,hw,fun p hp=>q p _ (fun b u q=>by rw[upd_ne (ne_of_none q hp)];exact q) (SqT.of upd_same)⟩
end
end L2
namespace G24
open PySem L2
def spIsOf(K:PySem.W.Frag):Sp:=fun vs H Q _=>∃(pv v cv:V) (kl:Kl) (dt:T) (t:Th) (c:Kk),vs=[pv,v,cv]/\Rp K H (.t [.t (kl.map kinT),dt]) pv/\KG kl/\Rp K H (thT t) v/\Rp K H (kkT c) cv/\c.ok (kl.map (·.1))/\c.dep<=100/\t.sz<=900/\∀H',Same H H'->Q (.bl (dueF kl t c)) H'
def pkT(p:Th×Kk):T:=.t [thT p.1,kkT p.2]
def duesF(kl:Kl)(ws:List (Th×Kk)):Bool:=ws.all fun p=>dueF kl p.1 p.2
def szW:List (Th×Kk)->Nat
 | []=>0
 |p::r=>p.1.sz+szW r
structure WtI(K:PySem.W.Frag) (H0:Hp) (lw:Addr) (kl:Kl) (b:Bool) (m:Nat) (H:Hp):Prop where
 s:Same H0 H
 w:∃(us:List V) (ws:List (Th×Kk)),H lw=some (.lst us)/\Rps K H (ws.map pkT) us/\duesF kl ws=b/\szW ws=m/\m<=900/\∀p∈ws,p.2.ok (kl.map (·.1))/\p.2.dep<=100
structure WtN(K:PySem.W.Frag) (H0:Hp) (lw:Addr) (kl:Kl) (b:Bool) (m:Nat) (pv v cv:V) (d1:Addr) (σ:St) (H:Hp):Prop where
 ex:∃m',m' < m/\(∃y5 y6 y7,σ=[some pv,some v,some cv,some (.ref d1),some (.ref lw),y5,y6,y7])/\WtI K H0 lw kl b m' H
theorem kg_b{kl:Kl}(h:KG kl):KlB kl:=⟨Nat.le_trans h.len (by decide),fun k hk=>by
 obtain⟨i,hi⟩:=List.getElem?_of_mem hk
 obtain⟨_,h2,h3⟩:=h.pt i k hi
 exact⟨Nat.le_trans h2 (by decide),fun t ht=>Nat.le_trans (h3 t ht).1 (by decide)⟩⟩
theorem rps_snoc{K:PySem.W.Frag}{H:Hp}{t:T}:∀{ts:List T}{us:List V},Rps K H (ts++[t]) us->∃us' u,us=us'++[u]/\Rps K H ts us'/\Rp K H t u
 | [],us,h=>by
  obtain⟨u,q,rfl,g,r⟩:=h.inv
  obtain rfl:=r.inv0
  exact⟨[],u,rfl,.nil,g⟩
 |a::ts,us,h=>by
  obtain⟨u,q,rfl,g,r⟩:=h.inv
  obtain⟨us',u',rfl,r1,r2⟩:=rps_snoc r
  exact⟨u::us',u',rfl,.cons g r1,r2⟩
theorem dues_app(kl:Kl)(a b:List (Th×Kk)):duesF kl (a++b)=(duesF kl a&&duesF kl b):=by simp[duesF,List.all_append]
theorem szW_app:∀(a b:List (Th×Kk)),szW (a++b)=szW a+szW b
 | [],b=>by simp[szW]
 |x::a,b=>by simp[szW,szW_app a b];omega
theorem dues_row(kl:Kl)(k:Kk):∀l:List Th,duesF kl (l.map fun x=>(x,k))=dueA kl l k
 | []=>by rw[dueA];rfl
 |x::r=>by rw[dueA,←dues_row kl k r];simp[duesF]
theorem szW_row(k:Kk):∀l:List Th,szW (l.map fun x=>(x,k))=szs l
 | []=>by simp[szW,szs]
 |x::r=>by simp only[List.map_cons,szW,szs,szW_row k r]
theorem dues_zip(kl:Kl):∀(l:List Th) (ks:List Kk),duesF kl (l.zip ks)=dueZ kl l ks
 | [],_=>by rw[dueZ];rfl;intro x r k ks h;cases h
 |_::_,[]=>by rw[dueZ];rfl;intro x r k ks _ h;cases h
 |x::r,k::ks=>by rw[dueZ,←dues_zip kl r ks];simp[duesF]
theorem sz_zip:∀(l:List Th) (ks:List Kk),szW (l.zip ks)<=szs l
 | [],_=>by simp[szW]
 |_::_,[]=>by simp[szW]
 |x::r,k::ks=>by simp only[List.zip_cons_cons,szW,szs];have:=sz_zip r ks;omega
theorem rps_zip{K:PySem.W.Frag}{H:Hp}:∀{l:List Th}{ks:List Kk}{us vs:List V}{ts:List Addr},Rps K H (l.map thT) us->Rps K H (ks.map kkT) vs->ts.length=min us.length vs.length->(∀(j u:Nat),ts[j]?=some u->∃x y,us[j]?=some x/\vs[j]?=some y/\H u=some (.tup [x,y]))->Rps K H ((l.zip ks).map pkT) (ts.map V.ref)
 | [],ks,us,vs,ts,h1,h2,hl,_=>by
  obtain rfl:=h1.inv0
  obtain rfl:ts=[]:=List.length_eq_zero_iff.mp (by simpa using hl)
  exact .nil
 |x::l,[],us,vs,ts,h1,h2,hl,_=>by
  obtain rfl:=h2.inv0
  obtain rfl:ts=[]:=List.length_eq_zero_iff.mp (by simpa using hl)
  exact .nil
 |x::l,k::ks,us,vs,ts,h1,h2,hl,hh=>by
  obtain⟨u,us,rfl,g1,r1⟩:=h1.inv
  obtain⟨v,vs,rfl,g2,r2⟩:=h2.inv
  cases ts with
  |nil=>simp at hl
  |cons a ts =>
   obtain⟨x0,y0,e1,e2,e3⟩:=hh 0 a rfl
   cases Option.some.inj e1
   cases Option.some.inj e2
   refine .cons (Rp.t (SqT.of e3) (.cons g1 (.one g2))) (rps_zip r1 r2 (by simp at hl;omega) fun j u h=>hh (j+1) u h)
theorem tab_get{K:PySem.W.Frag}{H:Hp}{t:Str}:∀{l:List (Str×Str×List Kk)}{kvs:List (Key×V)},Paired (TgE K H) l kvs->(l.find? (fun e=>decide (e.1=t))=none/\valV kvs (Sum.inr t)=none)\/∃e q iv,l.find? (fun e=>decide (e.1=t))=some e/\valV kvs (Sum.inr t)=some (.ref q)/\H q=some (.tup [.str e.2.1,iv])/\Rp K H (.t (e.2.2.map kkT)) iv
 |_,_,.nil=>.inl ⟨rfl,rfl⟩
 |_,_,.cons (a:=a) (b:=b) h r=>by
  obtain⟨q,iv,rfl,h1,h2⟩:=h
  by_cases c:a.1=t
  ·refine .inr ⟨a,q,iv,List.find?_cons_of_pos (by simpa using c),?_,h1,h2⟩
   unfold valV
   rw[List.find?_cons_of_pos (by simp[c])]
   rfl
  ·have e2:∀r:List (Key×V),valV ((Sum.inr a.1,V.ref q)::r) (Sum.inr t)=valV r (Sum.inr t):=fun r=>by
    unfold valV
    rw[List.find?_cons_of_neg (by simp[c])]
   rw[e2,List.find?_cons_of_neg (by simpa using c)]
   exact tab_get r
section
variable {P:Program}{w:World}{K:PySem.W.Frag}{mg:Str->Option Value}{base:Heap}{gG:Addr}{gfd:FuncData}
theorem nm_is_of:Nm ["program","thing","kind","tags","waiting","here","wanted","kinds"] (defScope s_is_of):=by decide +kernel
theorem lm_is_of:Lm ["program","thing","kind","tags","waiting","here","wanted","kinds"] (defScope s_is_of):=by decide +kernel
theorem sc_is_of:FnScope ["program","thing","kind","tags","waiting","here","wanted","kinds"] ["program","thing","kind"] (defScope s_is_of):=⟨rfl,rfl,rfl,by decide +kernel,rfl,by decide +kernel,by decide +kernel⟩
theorem ok_is_of{f:Addr}{fd:FuncData}(F:Fun K "is_of" "is_of" s_is_of f fd)(TGO:Has P w K mg base "tags_of" 1 ["program"] (spTagsOf K) gG gfd)(z_len:mg "len"=none)(z_list:mg "list"=none)(z_zip:mg "zip"=none):FnOk P w K mg base CX0 3 f fd ["program","thing","kind"] (spIsOf K):=by
 refine F.ok sc_is_of (fun vs H Q E h=>?_) (fun cdv A outer s H vs Q E hr h=>?_)
 ·obtain⟨_,_,_,_,_,_,_,rfl,_⟩:=h
  rfl
 obtain⟨pv,v,cv,kl,dt,t,c,rfl,rp,hk,rt,rc,hok,hcd,hz,k⟩:=h
 refine⟨_,(@pss_cons _ _ _ _ _ (@sa _ _ _ _ _ _ sc_is_of.nd lm_is_of 3 (@pe_call _ _ _ _ _ _ _ _ _ _ _ _ _ _ _ _ TGO.ok (hr.mono (by omega)) (by show _=_;kernel_rfl) TGO.at' TGO.kp TGO.bd .nil pass0 (pa_c (va nm_is_of 0) pa_nil) (by decide) (by rfl) (by rfl)) (by rfl) (by kernel_rfl) (by exact .inl rfl)) (@pss_cons _ _ _ _ _ (@sa _ _ _ _ _ _ sc_is_of.nd lm_is_of 4 (@pe_lst _ _ _ _ (@pa_c _ _ _ _ _ (@pe_tup _ _ _ _ _ (@pa_c _ _ _ _ _ (va nm_is_of 1) (pa_c (va nm_is_of 2) pa_nil) (by rfl))) pa_nil (by rfl))) (by rfl) (by kernel_rfl) (by exact .inl rfl)) (@pss_cons _ _ _ _ _ (@ps_while _ _ _ _ _ _ PassesOwn.never (pt_truth (va nm_is_of 4) (fun _=>rfl)) (@pss_cons _ _ _ _ _ (@ps_asg _ _ _ _ _ _ (pe_bm0 PySem.F.plainAttrs_list PySem.F.slot_list_pop PySem.F.type_list_pop mt_pop (va nm_is_of 4)) (@pg_tupK _ _ _ _ _ (2) K rfl rfl (@pgs_cons _ _ _ _ _ (ga sc_is_of.nd lm_is_of 5) (pgs_cons (ga sc_is_of.nd lm_is_of 6) pgs_nil) (by rfl)) (by rfl) (by rfl)) (by rfl) (by rfl) (by rfl)) (@pss_cons _ _ _ _ _ (@ps_if _ _ _ _ _ _ _ _ (PW.pt (@pw_and _ _ _ _ _ _ _ (@pt_cmpR _ _ _ _ _ _ _ _ op_eq (pe_ix ix_tup (va nm_is_of 5) pe_int (fun _ _=>rfl)) pe_str (nomark _)) (@pw_and1 _ _ _ _ (pt_cmpR (op_eqT hr.u150) (va nm_is_of 6) pe_str (nomark _))))) (pss_one ps_continue) pss_nil) (@pss_one _ _ _ (@ps_if _ _ _ _ _ _ _ _ (PW.pt (@pw_and _ _ _ _ _ _ _ (@pt_cmpR _ _ _ _ _ _ _ _ op_eq (pe_ix ix_tup (va nm_is_of 5) pe_int (fun _ _=>rfl)) pe_str (nomark _)) (@pw_and1 _ _ _ _ (@pt_cmpR _ _ _ _ _ _ _ _ op_eq (pe_ix ix_seq (va nm_is_of 6) pe_int (fun _ _=>rfl)) pe_str (nomark _))))) (@pss_one _ _ _ (@ps_expr _ _ _ _ (@pe_bm _ _ _ _ _ _ _ _ _ _ _ _ PySem.F.plainAttrs_list PySem.F.slot_list_extend PySem.F.type_list_extend mt_extend (va nm_is_of 4) (@pa_c _ _ _ _ _ (@pe_compC _ _ _ _ _ _ _ _ _ _ _ (defScope s_is_of) ["program","thing","kind","tags","waiting","here","wanted","kinds"] ["inner"] [6] rfl rfl rfl (by decide +kernel) (@pi_tup _ _ _ _ (pe_ix ix_tup (va nm_is_of 5) pe_int (fun _ _=>rfl))) (fun _ _ _ _=>(pg_name (i:=0) (show(["inner","wanted"]:List Str).Nodup by decide +kernel) rfl (Or.inl (by kernel_rfl)) (by first|exact .inl rfl|exact .inr (by kernel_rfl)))) (fun _ _ _ _=>pifs_nil) (fun _ _ _ _=>(@pe_tup _ _ _ _ _ (@pa_c _ _ _ _ _ (va (show Nm ["inner","wanted"] _ by show _=_;kernel_rfl) 0) (@pa_c _ _ _ _ _ (pe_ix (ix_tupK K rfl) (va (show Nm ["inner","wanted"] _ by show _=_;kernel_rfl) 1) pe_int (fun _ _=>rfl)) pa_nil (by rfl)) (by rfl)))) (by intro _;rfl)) pa_nil (by rfl)) (by rfl) (by rfl) (by rfl) (by rfl) (by rfl)) (by rfl))) (@pss_one _ _ _ (@ps_if _ _ _ _ _ _ _ _ (PW.pt (@pw_and _ _ _ _ _ _ _ (@pt_cmpR _ _ _ _ _ _ _ _ op_eq (pe_ix ix_tup (va nm_is_of 5) pe_int (fun _ _=>rfl)) pe_str (nomark _)) (@pw_and _ _ _ _ _ _ _ (@pt_cmpR _ _ _ _ _ _ _ _ (op_inD (hu_of hr)) (pe_ix ix_tup (va nm_is_of 5) pe_int (fun _ _=>rfl)) (va nm_is_of 3) (by with_unfolding_all rfl)) (@pw_and1 _ _ _ _ (@pt_cmpR _ _ _ _ _ _ _ _ (op_eqT hr.u150) (va nm_is_of 6) (@pe_tup _ _ _ _ _ (@pa_c _ _ _ _ _ pe_str (@pa_c _ _ _ _ _ (@pe_ix _ _ _ _ _ _ _ ix_tup (@pe_dget _ _ _ _ _ _ (hu_of hr) (va nm_is_of 3) (pe_ix ix_tup (va nm_is_of 5) pe_int (fun _ _=>rfl)) (fun _ _=>rfl)) pe_int (fun _ _=>rfl)) pa_nil (by rfl)) (by rfl))) (nomark _)))))) (@pss_cons _ _ _ _ _ (@sa _ _ _ _ _ _ sc_is_of.nd lm_is_of 7 (@pe_ix _ _ _ _ _ _ _ ix_tup (@pe_dget _ _ _ _ _ _ (hu_of hr) (va nm_is_of 3) (pe_ix ix_tup (va nm_is_of 5) pe_int (fun _ _=>rfl)) (fun _ _=>rfl)) pe_int (fun _ _=>rfl)) (by rfl) (by kernel_rfl) (by exact .inl rfl)) (@pss_cons _ _ _ _ _ (@ps_if _ _ _ _ _ _ _ _ (@pt_cmpR _ _ _ _ _ _ _ _ op_ne (@pe_callB _ _ _ _ _ _ _ _ _ call_len_seq (by show _=_;kernel_rfl) z_len PySem.boot_len (pa_c (va nm_is_of 7) pa_nil) (by decide) (by decide) (by rfl) (by rfl)) (@pe_callB _ _ _ _ _ _ _ _ _ call_len_seq (by show _=_;kernel_rfl) z_len PySem.boot_len (@pa_c _ _ _ _ _ (pe_ix ix_tup (va nm_is_of 5) pe_int (fun _ _=>rfl)) pa_nil (by rfl)) (by decide) (by decide) (by rfl) (by rfl)) (nomark _)) (pss_one (ps_ret pe_bl)) pss_nil) (@pss_one _ _ _ (@ps_expr _ _ _ _ (@pe_bm _ _ _ _ _ _ _ _ _ _ _ _ PySem.F.plainAttrs_list PySem.F.slot_list_extend PySem.F.type_list_extend mt_extend (va nm_is_of 4) (@pa_c _ _ _ _ _ (pe_listzipQ rfl (by show _=_;kernel_rfl) z_list (by show _=_;kernel_rfl) z_zip (@pa_c _ _ _ _ _ (pe_ix ix_tup (va nm_is_of 5) pe_int (fun _ _=>rfl)) (pa_c (va nm_is_of 7) pa_nil) (by rfl))) pa_nil (by rfl)) (by rfl) (by rfl) (by rfl) (by rfl) (by rfl)) (by rfl))))) (pss_one (ps_ret pe_bl))))))))) (pss_one (ps_ret pe_bl))))),?_⟩
 try dsimp only[cx_K]
 try dsimp only[cx_K]
 have hB:KlB kl:=kg_b hk
 have hnd:(tgs kl).Nodup:=hk.tnd
 fail "R"
 intro d1 H1 kvs s1 hd1 h1 pr
 fail "R"
 intro p2 hp2
 have s2:=same_new hp2 (.tup [v,cv])
 have h2:upd H1 p2 (.tup [v,cv]) p2=some (.tup [v,cv]):=upd_same
 generalize upd H1 p2 (.tup [v,cv])=H2 at s2 h2⊢
 fail "R"
 intro lw hlw
 have s3:=same_new hlw (.lst [.ref p2])
 have h3:upd H2 lw (.lst [.ref p2]) lw=some (.lst [.ref p2]):=upd_same
 generalize upd H2 lw (.lst [.ref p2])=H3 at s3 h3⊢
 fail "R"
 refine⟨fun m σ H4=>(∃y5 y6 y7,σ=[some pv,some v,some cv,some (.ref d1),some (.ref lw),y5,y6,y7])/\WtI K H2 lw kl (dueF kl t c) m H4,⟨_,⟨_,_,_,rfl⟩,s3,[.ref p2],[(t,c)],h3,?_,?_,rfl,?_,?_⟩,?_⟩
 ·exact .one (Rp.t (SqT.of (s3 _ _ h2)) (.cons (rt.same ((s1.trans s2).trans s3)) (.one (rc.same ((s1.trans s2).trans s3)))))
 ·simp[duesF]
 ·simp[szW];exact hz
 ·intro p hp
  rw[List.mem_singleton.mp hp]
  exact⟨hok,hcd⟩
 rintro m σ H4 ⟨⟨y5,y6,y7,rfl⟩,i4⟩
 obtain⟨s4,us,ws,h4,rw4,eb,em,hm,hws⟩:=i4
 rcases List.eq_nil_or_concat ws with rfl|⟨wr,p,rfl⟩
 ·obtain rfl:=rw4.inv0
  have tr:TruV K (.ref lw) H4 false:=.inl ⟨[],SqL.of h4,rfl⟩
  fail "R"
  have kk:=k H4 ((s1.trans s2).trans s4)
  rw[←eb]at kk
  exact kk
 ·rw[List.concat_eq_append]at rw4 eb em hws
  obtain⟨us',u,rfl,rw',ru⟩:=rps_snoc (by rw[List.map_append]at rw4;exact rw4)
  have tr:TruV K (.ref lw) H4 true:=.inl ⟨_,SqL.of h4,by simp⟩
  have pl:(us'++[u])[(us'++[u]).length-1]?=some u:=by simp
  have pd:(us'++[u]).dropLast=us':=by simp
  fail "R"
  refine ifT rfl ?_
  refine⟨WtN K H2 lw kl (dueF kl t c) m pv v cv d1,fun σ' H' h=>h.ex,?_⟩
  obtain⟨x,kx⟩:=p
  obtain⟨pa,u1,u2,rfl,psq,rx,rk0⟩:=(show Rp K H4 (.t [thT x,kkT kx]) u from ru).t2
  have kt5:Kt H4 (upd H4 lw (.lst (us'++[V.ref pa]).dropLast)):=kt_lst h4
  have h5:upd H4 lw (.lst (us'++[V.ref pa]).dropLast) lw=some (.lst us'):=by rw[pd];exact upd_same
  have s5:Same H2 (upd H4 lw (.lst (us'++[V.ref pa]).dropLast)):=fun b o e=>by rw[upd_ne (ne_of_none e hlw)];exact s4 _ _ e
  have psq5:=psq.kt kt5
  have rx5:=rx.kt kt5
  have rk5:=rk0.kt kt5
  have rw5:=rw'.kt kt5
  refine seq_cut2 ?_
  intro N1 N2 c1 c2
  rw[dues_app]at eb
  rw[szW_app]at em
  have e0:szW [(x,kx)]=x.sz:=by simp[szW]
  have e1:duesF kl [(x,kx)]=dueF kl x kx:=by simp[duesF]
  rw[e0]at em
  rw[e1]at eb
  obtain⟨xok,xdp⟩:=hws (x,kx) (by simp)
  have hwr:∀p∈wr,p.2.ok (kl.map (·.1))/\p.2.dep<=100:=fun p hp=>hws p (List.mem_append.mpr (.inl hp))
  have bad:∀H',Same H2 H'->dueF kl x kx=false->Q (.bl false) H':=fun H' s' e=>by
   have kk:=k H' ((s1.trans s2).trans s')
   rw[←eb,e,Bool.and_false]at kk
   exact kk
  have lwr:=rw'.length
  rw[List.length_map]at lwr
  have hlw1:wr.length<=szW wr:=by
   have:∀l:List (Th×Kk),l.length<=szW l:=fun l=>by
    induction l with
    |nil=>exact Nat.zero_le _
    |cons y r ih=>simp only[szW,List.length_cons];have:=Th.sz1 y.1;omega
   have:=this wr
   omega
  have good:∀(H':Hp) (us2:List V) (ws2:List (Th×Kk)) (y5 y6 y7:Option V),Same H2 H'->H' lw=some (.lst (us'++us2))->Rps K H' ((wr++ws2).map pkT) (us'++us2)->duesF kl ws2=dueF kl x kx->szW ws2<x.sz->(∀p∈ws2,p.2.ok (kl.map (·.1))/\p.2.dep<=100)->WtN K H2 lw kl (dueF kl t c) m pv v cv d1 [some pv,some v,some cv,some (.ref d1),some (.ref lw),y5,y6,y7] H':=fun H' us2 ws2 y5 y6 y7 s' h' r' e' z' o'=>by
   refine⟨szW (wr++ws2),by rw[szW_app];omega,⟨_,_,_,rfl⟩,s',_,_,h',r',by rw[dues_app,e',eb],rfl,by rw[szW_app];omega,fun p hp=>?_⟩
   rcases List.mem_append.mp hp with h|h
   ·exact hwr p h
   ·exact o' p h
  have xdp:kx.dep<=100:=xdp
  have dk:(kkT kx).dep<=150:=Nat.le_trans (kkT_dep kx) (by omega)
  have rnum:Rp K (upd H4 lw (.lst (us'++[V.ref pa]).dropLast)) (.s "num") (.str "num"):=.s
  have h1':H4 d1=some (.dK kvs):=(s2.trans s4) _ _ h1
  have nd1:d1≠lw:=ne_of_none ((s2) _ _ h1) hlw
  have h15:upd H4 lw (.lst (us'++[V.ref pa]).dropLast) d1=some (.dK kvs):=by rw[upd_ne nd1];exact h1'
  cases x with
  |num i =>
   obtain⟨ta,t1,t2,rfl,tsq,g1,g2⟩:=(show Rp K _ (.t [.s "num",.i i]) u1 from(by rw[thT]at rx5;exact rx5)).t2
   obtain rfl:=g1.inv_s
   cases kx with
   |num =>
    fail "R"
    refine good _ [] [] _ _ _ s5 (by rw[List.append_nil];exact h5) (by rw[List.append_nil,List.append_nil];exact rw5) rfl (by simp[szW,Th.sz]) (fun p hp=>by cases hp)
   |op n=>exact False.elim xok
   |kd y =>
    fail "R"
    exact bad _ s5 rfl
   |row k2 =>
    fail "R"
    exact bad _ s5 rfl
  |row l =>
   obtain⟨ta,t1,t2,rfl,tsq,g1,g2⟩:=(show Rp K _ (.t [.s "row",.t (l.map thT)]) u1 from(by rw[thT,thTs_eq]at rx5;exact rx5)).t2
   obtain rfl:=g1.inv_s
   obtain⟨la,us,rfl,lsq,rs⟩:=g2.inv_t
   have lus:=rs.length
   rw[List.length_map]at lus
   have hll:=szs_len l
   have ez:(Th.row l).sz=szs l+1:=by rw[Th.sz]
   cases kx with
   |num =>
    obtain rfl:=(show Rp K _ (.s "num") u2 from rk5).inv_s
    fail "R"
    refine .inr (.inr ⟨_,0,_,rfl,rfl,by decide,rfl,?_⟩)
    fail "R"
    exact bad _ s5 rfl
   |op n=>exact False.elim xok
   |kd y =>
    obtain⟨ca,c1',c2',rfl,csq,w1,w2⟩:=(show Rp K _ (.t [.s "kind",.s y]) u2 from rk5).t2
    obtain rfl:=w1.inv_s
    fail "R"
    refine .inr (.inl ?_)
    fail "R"
    exact bad _ s5 rfl
   |row k2 =>
    obtain⟨ca,c1',c2',rfl,csq,w1,w2⟩:=(show Rp K _ (.t [.s "row",kkT k2]) u2 from rk5).t2
    obtain rfl:=w1.inv_s
    fail "R"
    refine .inr (.inl ?_)
    fail "R"
    have l1:l.length<=900:=by omega
    refine comp_mapT (K:=K) (e:=thT) (φ:=fun x=>[pkT (x,k2)]) (fun σ=>∃a,σ=[a,some (.ref ca)]) lsq rs l1 (fun _=>Nat.le_refl _) ⟨_,rfl⟩ ?_ ?_
    ·rintro p hp x _ H6 N s6 ⟨_,rfl⟩ rx6 kN
     have csq6:=csq.same s6
     fail "R"
     intro p7 hp7
     have s7:=same_new hp7 (.tup [x,c2'])
     have h7:upd H6 p7 (.tup [x,c2']) p7=some (.tup [x,c2']):=upd_same
     generalize upd H6 p7 (.tup [x,c2'])=H7 at s7 h7⊢
     exact kN _ _ _ ⟨⟨_,rfl⟩,s7,.one (Rp.t (SqT.of h7) (.cons (rx6.same s7) (.one (w2.same (s6.trans s7)))))⟩
    intro l8 H8 ws8 s8 hl8 h8 r8
    have nl8:l8≠lw:=ne_of_none h5 hl8|>.symm
    have h85:H8 lw=some (.lst us'):=s8 _ _ h5
    have lw8:=r8.length
    rw[fm_one,List.length_map]at lw8
    have z8:us'.length+ws8.length<=sizeLine:=small (by omega)
    have kt9:Kt H8 (upd H8 lw (.lst (us'++ws8))):=kt_lst h85
    fail "R"
    refine good _ ws8 (l.map fun x=>(x,k2)) _ _ _ (fun b o e=>by rw[upd_ne (ne_of_none e hlw)];exact s8 _ _ (s5 _ _ e)) upd_same ?_ ?_ ?_ ?_
    ·rw[List.map_append]
     refine Rps.append ((rw5.same s8).kt kt9) ?_
     rw[fm_one]at r8
     rw[List.map_map]
     exact r8.kt kt9
    ·rw[dues_row,dueF]
    ·rw[szW_row,ez];omega
    ·intro p hp
     obtain⟨x,_,rfl⟩:=List.mem_map.mp hp
     refine⟨xok,?_⟩
     simp only[Kk.dep]at xdp
     show k2.dep<=100
     omega
  |tag g l =>
   obtain⟨ta,t1,t2,t3,rfl,tsq,g1,g2,g3⟩:=(show Rp K _ (.t [.s "tag",.s g,.t (l.map thT)]) u1 from(by rw[thT,thTs_eq]at rx5;exact rx5)).t3
   obtain rfl:=g1.inv_s
   obtain rfl:=g2.inv_s
   obtain⟨la,us,rfl,lsq,rs⟩:=g3.inv_t
   have lus:=rs.length
   rw[List.length_map]at lus
   have hll:=szs_len l
   have ez:(Th.tag g l).sz=szs l+1:=by rw[Th.sz]
   have dg:DGet (upd H4 lw (.lst (us'++[V.ref pa]).dropLast)) d1 (.str g) (valV kvs (Sum.inr g)):=DGet.k (k:=Sum.inr g) h15
   have s15:Same H1 (upd H4 lw (.lst (us'++[V.ref pa]).dropLast)):=s2.trans s5
   have hqs:=tab_get (t:=g) pr
   have hnok:∀(e2:Str),(∀y,kx≠.kd y)->kkT kx≠T.t [.s "kind",.s e2]:=fun e2 hn z=>by
    cases kx with
    |kd y=>exact hn y rfl
    |num=>cases z
    |op n=>cases z
    |row k=>cases z
   have fin:(∀y,kx≠.kd y)->dueF kl (.tag g l) kx=false:=fun hn=>by
    cases kx with
    |kd y=>exact absurd rfl (hn y)
    |num=>rfl
    |op n=>rfl
    |row k=>rfl
   rcases hqs with⟨f0,v0⟩|⟨e,q,iv,f1,v1,hq,riv⟩
   ·rw[v0]at dg
    have fb:dueF kl (.tag g l) kx=false:=by
     cases kx with
     |kd y =>
      rcases tl_find hk (show y∈kl.map (·.1)from xok) g with⟨_,h⟩|⟨e,h,_⟩
      ·rw[dueF,h]
      ·rw[f0]at h;cases h
     |num=>rfl
     |op n=>rfl
     |row k=>rfl
    fail "R"
    exact bad _ s5 fb
   ·rw[v1]at dg
    have hq5:=s15 _ _ hq
    have riv5:=riv.same s15
    fail "R"
    intro p6 hp6
    have s6:=same_new hp6 (.tup [.str "kind",.str e.2.1])
    have h6:upd (upd H4 lw (.lst (us'++[V.ref pa]).dropLast)) p6 (.tup [.str "kind",.str e.2.1]) p6=some (.tup [.str "kind",.str e.2.1]):=upd_same
    generalize upd (upd H4 lw (.lst (us'++[V.ref pa]).dropLast)) p6 (.tup [.str "kind",.str e.2.1])=H6 at s6 h6⊢
    have s56:Same H2 H6:=s5.trans s6
    refine⟨kkT kx,.t [.s "kind",.s e.2.1],rk5.same s6,Rp.t (SqT.of h6) (.cons .s (.one .s)),dk,_,rfl,?_⟩
    refine ite2 (fun ce=>?_) (fun ce=>?_)
    ·have ce:kkT kx=.t [.s "kind",.s e.2.1]:=by simpa using ce
     obtain⟨y,rfl⟩:∃y,kx=.kd y:=by
      cases kx with
      |kd y=>exact⟨y,rfl⟩
      |num=>cases ce
      |op n=>cases ce
      |row k=>cases ce
     have ey:y=e.2.1:=by
      have:T.t [.s "kind",.s y]=.t [.s "kind",.s e.2.1]:=ce
      injection this with h
      injection h with _ h
      injection h with h
      injection h
     have hti:tagIn kl y g=some e.2.2:=by
      rcases tl_find hk (show y∈kl.map (·.1)from xok) g with⟨h,_⟩|⟨e',h,_,⟨_,h2⟩|⟨h1,_⟩⟩
      ·rw[f1]at h;cases h
      ·rw[f1]at h;cases Option.some.inj h;exact h2
      ·rw[f1]at h;cases Option.some.inj h;exact absurd ey.symm h1
     obtain⟨ia,ius,rfl,isq,irs⟩:=(riv5.same s6).inv_t
     have liu:=irs.length
     rw[List.length_map]at liu
     have tsq6:=tsq.same s6
     have lsq6:=lsq.same s6
     have hq6:=s6 _ _ hq5
     have dg6:DGet H6 d1 (.str g) (some (.ref q)):=v1▸DGet.k (k:=Sum.inr g) (s6 _ _ h15)
     fail "R"
     have ne:∀(a b:Nat),(!decide (V.int (a:Int)=V.int (b:Int)))=true->a≠b:=fun a b h z=>by rw[z]at h;simp at h
     have eq:∀(a b:Nat),¬(!decide (V.int (a:Int)=V.int (b:Int)))=true->a=b:=fun a b h=>by
      simp only[Bool.not_eq_true,Bool.not_eq_false',decide_eq_true_eq]at h
      injection h with h
      omega
     refine ite2 (fun c0=>?_) (fun c0=>?_)
     ·have hne:=ne _ _ c0
      fail "R"
      refine bad _ s56 ?_
      rw[dueF,hti]
      show(decide (e.2.2.length=l.length)&&_)=false
      rw[decide_eq_false (by omega),Bool.false_and]
     ·have heq:=eq _ _ (by simpa using c0)
      have sba:SqB K true H6 la us:=lsq6
      have sbi:SqB K true H6 ia ius:=isq
      have ty6:tyV K "list" (.ref lw) H6:=.inl ⟨rfl,_,SqL.of (s6 _ _ h5)⟩
      fail "R"
      intro l8 ts H8 zo hl8 h8
      obtain⟨s8,z1,z2⟩:=zo
      have h85:H8 lw=some (.lst us'):=s8 _ _ (s6 _ _ h5)
      have kt9:Kt H8 (upd H8 lw (.lst (us'++ts.map V.ref))):=kt_lst h85
      have z8:us'.length+(ts.map V.ref).length<=sizeLine:=small (by rw[List.length_map];omega)
      fail "R"
      refine good _ (ts.map V.ref) (l.zip e.2.2) _ _ _ (fun b o e=>by rw[upd_ne (ne_of_none e hlw)];exact s8 _ _ (s56 _ _ e)) upd_same ?_ ?_ ?_ ?_
      ·rw[List.map_append]
       exact Rps.append (((rw5.same s6).same s8).kt kt9) ((rps_zip ((rs.same s6).same s8) (irs.same s8) z1 z2).kt kt9)
      ·rw[dues_zip,dueF,hti]
       show _=(decide (e.2.2.length=l.length)&&_)
       rw[decide_eq_true (by omega),Bool.true_and]
      ·have:=sz_zip l e.2.2
       omega
      ·intro p hp
       obtain⟨i0,hi0⟩:=List.getElem?_of_mem (List.of_mem_zip (a:=p.1) (b:=p.2) hp).2
       have hm:=(List.of_mem_zip (a:=p.1) (b:=p.2) hp).2
       obtain⟨kd,hkd1,hkd2⟩:=List.mem_flatMap.mp (List.mem_of_find?_eq_some f1)
       obtain⟨tg,htg,rfl⟩:=List.mem_map.mp hkd2
       obtain⟨i1,hi1⟩:=List.getElem?_of_mem hkd1
       obtain⟨_,_,h3⟩:=hk.pt i1 kd hi1
       obtain⟨h4',h5'⟩:=(h3 tg htg).2 p.2 hm
       exact⟨kok_take h4',Nat.le_trans h5' (by decide)⟩
    ·have ce:kkT kx≠.t [.s "kind",.s e.2.1]:=by simpa using ce
     have fb:dueF kl (.tag g l) kx=false:=by
      cases kx with
      |kd y =>
       rcases tl_find hk (show y∈kl.map (·.1)from xok) g with⟨_,h⟩|⟨e',h,_,⟨h1,_⟩|⟨_,h2⟩⟩
       ·rw[dueF,h]
       ·rw[f1]at h;cases Option.some.inj h;exact absurd (by rw[h1];rfl) ce
       ·rw[dueF,h2]
      |num=>rfl
      |op n=>rfl
      |row k=>rfl
     fail "R"
     exact bad _ s56 fb
end
end G24
namespace L2
open PySem PySem.Spec PyProof.Rows
structure FnScopeC(N P Fr:List Str) (sc:Scope):Prop where
 kind:sc.kind=.function
 co:sc.isCoroutine=false
 gen:sc.isGenerator=false
 nd:N.Nodup
 pre:N.take P.length=P
 suf:N.drop (N.length-Fr.length)=Fr
 fit:P.length+Fr.length<=N.length
 par:∀x∈P,sc.names.lookup x=some .local
 nocell:∀y∈sc.names,y.2≠.cell
 fre:∀x∈Fr,sc.names.lookup x=some .free
 all:∀y∈sc.names,y.2=.free->y.1∈Fr
def startC(N:List Str)(vs fvs:List V):St:=vs.map some++(List.replicate (N.length-vs.length-fvs.length) none++fvs.map some)
def cxOfC(CX:CXT)(P:Program)(w:World)(K:PySem.W.Frag)(mg:Str->Option Value)(base:Heap)(N:List Str)(qual:Str)(scope:Scope)(f:Addr)(cd:Value)(cl:List (Str×Addr))(A:Around)(outer:List Env)(s:Shared)(H:Hp)(E:XK):Cx where
 prog:=P
 w:=w
 K:=K
 mg:=mg
 base:=base
 A:=A.deeper (PySem.W.envX qual scope s.heap.objs.size f cd cl)
 N:=N
 s₀:=s
 H₀:=H
 env:=PySem.W.envX qual scope s.heap.objs.size f cd cl
 outer:=outer
 stack:=PySem.W.envX qual scope s.heap.objs.size f cd cl::outer
 ex:=[]
 calm:=true
 fn:=fun _=>false
 pn:=[]
 xe:=fun e s'=>wpAny (model P w) (A.deeper (PySem.W.envX qual scope s.heap.objs.size f cd cl)) (leaving (PySem.W.envX qual scope s.heap.objs.size f cd cl) e) (fun _ s''=>CX outer H s E e s'') (fun e' s''=>CX outer H s E e' s'') s'
theorem lookup_mem{α:Type}{x:Str}{u:α}:∀{l:List (Str×α)},(l.map (·.1)).Nodup->(x,u)∈l->l.lookup x=some u
 | [],_,h=>by cases h
 |(y,v)::r,nd,h=>by
  rw[List.map_cons,List.nodup_cons]at nd
  rcases List.mem_cons.mp h with h|h
  ·cases h;simp[List.lookup_cons]
  ·have:x≠y:=fun z=>nd.1 (by rw[←z];exact List.mem_map.mpr ⟨_,h,rfl⟩)
   rw[List.lookup_cons,beq_false_of_ne this]
   exact lookup_mem nd.2 h
theorem zip_rev_lookup{P:List Str}{us:List Value}{i:Nat}{x:Str}{u:Value}(nd:P.Nodup)(h1:P[i]?=some x)(h2:us[i]?=some u):(P.zip us).reverse.lookup x=some u:=by
 refine lookup_mem ?_ (List.mem_reverse.mpr (List.mem_of_getElem? (i:=i) ?_))
 ·rw[List.map_reverse]
  refine List.pairwise_reverse.mpr (List.Pairwise.imp (fun h=>Ne.symm h) (nd.sublist ?_))
  have:∀(P:List Str) (us:List Value),List.Sublist ((P.zip us).map (·.1)) P:=by
   intro P
   induction P with
   |nil=>intro us;exact List.Sublist.refl _
   |cons a r ih =>
    intro us
    cases us with
    |nil=>exact List.nil_sublist _
    |cons u us=>exact(ih us).cons_cons a
  exact this P us
 ·rw[List.getElem?_zip_eq_some];exact⟨h1,h2⟩
structure CloAt(base:Heap) (cl:List (Str×Addr)) (Fr:List Str) (fvs:List V):Prop where
 inj:∀x y c,cl.lookup x=some c->cl.lookup y=some c->x=y
 cell:∀x c,cl.lookup x=some c->∃v,base.IsCell c v
 get:∀(i:Nat) (x:Str) (v:V),Fr[i]?=some x->fvs[i]?=some v->∃c u,cl.lookup x=some c/\RelV v u/\base.IsCell c (some u)
 len:fvs.length=Fr.length
 has:∀x∈Fr,∃c,cl.lookup x=some c
section
variable {CX:CXT}{P:Program}{w:World}{K:PySem.W.Frag}{mg:Str->Option Value}{base:Heap}{N ps Fr:List Str}{qual:Str}{scope:Scope}{f:Addr}{cd:Value}{cl:List (Str×Addr)}{A:Around}{outer:List Env}{s:Shared}{H:Hp}{E:XK}
theorem inv_startC{us:List Value}{vs fvs:List V}{h1:Heap}{tk:Nat}(S:FnScopeC N ps Fr scope)(hd:A.handled=none)(e0:Env0 P w K mg base A outer s H)(hl:vs.length=ps.length)(r:Vals vs us)(C:CloAt base cl Fr fvs)
  (hns:h1.Ns s.heap.objs.size (fun x=>(ps.zip us).reverse.lookup x)) (hk:∀b o,s.heap.get? b=some o->h1.get? b=some o) :
  Inv (cxOfC CX P w K mg base N qual scope f cd cl A outer s H E) [] (startC N vs fvs) H {s with heap:=h1,toks:=tk}:=by
 have hlen:=C.len
 have hpl:=S.fit
 have ck:∀c v,base.IsCell c v->h1.IsCell c v:=fun c v ⟨o,ho,hd⟩=>⟨o,hk _ _ (e0.bs _ _ ho).1,hd⟩
 have noA:∀b:Addr,b∉(cxOfC CX P w K mg base N qual scope f cd cl A outer s H E).ex:=fun b z=>absurd (show b∈([]:List Addr)from z) (by simp)
 refine⟨⟨e0.mod,S.kind,rfl,rfl,Nat.le_refl _,C.inj,fun y hy=>?_,(fun x c hx=>nomatch hx),fun _=>hd,Around.frames_deeper e0.frames,.inr ⟨rfl,rfl⟩,fun b z=>absurd z (noA b),e0.bs,e0.bsz,fun b _ _=>noA b,fun b z=>absurd z (noA b),e0.funs,e0.frf⟩,
  rfl,e0.bare,Un.kept hk,⟨_,hns,fun i y v h1 h2 h3=>?_⟩,fun y c h=>?_,e0.hok.fresh (Nat.le_refl _),fun y c h=>?_,fun p hp=>absurd (show p∈([]:List (Addr×Obj))from hp) (by simp),e0.hok.kept hk,?_⟩
 ·have hy:scope.names.lookup y=some .cell\/scope.names.lookup y=some .free:=hy
  rcases hy with hy|hy
  ·exact absurd rfl (S.nocell _ (PySem.mem_of_lookup hy))
  ·exact C.has y (S.all _ (PySem.mem_of_lookup hy) rfl)
 ·have h1:N[i]?=some y:=h1
  by_cases hi:i<vs.length
  ·have ha:vs[i]?=some v:=by
    unfold startC at h2
    rw[List.getElem?_append_left (by simpa using hi),List.getElem?_map]at h2
    cases e:vs[i]? with
    |none=>rw[e]at h2;cases h2
    |some a=>rw[e]at h2;cases h2;rfl
   obtain⟨u,hu,rv⟩:=r.get ha
   have hp:ps[i]?=some y:=by
    rw[←S.pre,List.getElem?_take_of_lt (by omega)];exact h1
   have ndP:ps.Nodup:=by rw[←S.pre];exact S.nd.sublist (List.take_sublist _ _)
   exact⟨u,rv,.inl ⟨S.par y (List.mem_of_getElem? hp),zip_rev_lookup ndP hp hu⟩⟩
  ·unfold startC at h2
   rw[List.getElem?_append_right (by simpa using hi),List.length_map]at h2
   have hg:(N.length-vs.length-fvs.length)<=i-vs.length:=by
    refine Nat.not_lt.mp fun z=>?_
    rw[List.getElem?_append_left (by simpa using z),List.getElem?_replicate]at h2
    split at h2<;>cases h2
   rw[List.getElem?_append_right (by simpa using hg),List.length_replicate,List.getElem?_map]at h2
   have hf:fvs[i-vs.length - (N.length-vs.length-fvs.length)]?=some v:=by
    cases e:fvs[i-vs.length - (N.length-vs.length-fvs.length)]? with
    |none=>rw[e]at h2;cases h2
    |some a=>rw[e]at h2;cases h2;rfl
   have hx:Fr[i-vs.length - (N.length-vs.length-fvs.length)]?=some y:=by
    rw[←S.suf,List.getElem?_drop,←h1]
    congr 1
    omega
   obtain⟨c,u,hc,rv,hcell⟩:=C.get _ _ _ hx hf
   exact⟨u,rv,.inr ⟨.inr (S.fre y (List.mem_of_getElem? hx)),c,hc,ck _ _ hcell⟩⟩
 ·obtain⟨v,hv⟩:=C.cell y c h
  exact⟨v,ck _ _ hv⟩
 ·obtain⟨v,o,ho,_⟩:=C.cell y c h
  exact(e0.bs _ _ ho).2
 ·unfold startC
  show _=N.length
  rw[List.length_append,List.length_append,List.length_map,List.length_map,List.length_replicate]
  omega
theorem fn_ofC{k:Nat}{name:Str}{params:Arguments}{body:List Stmt}{dV kV doc pm ct oc:Value}{an od:Option Addr}{osl:Array (Option Value)}{fvs:List V}{sp:Sp}
  (lk:base.get? f=some ⟨oc,od,.func (PySem.W.fnX name qual params body scope cl dV kV doc pm an cd ct),osl⟩) (S:FnScopeC N ps Fr scope) (C:CloAt base cl Fr fvs)
  (len:∀vs H Q E,sp vs H Q E->vs.length=ps.length) (hcd:∀vs H Q E (h:Heap),sp vs H Q E->HOk P w H h->h.CodeRec cd qual)
  (hbody:∀(A:Around) (outer:List Env) (s:Shared) (H:Hp) (vs:List V) (Q:VK) (E:XK),Room k (A.deeper (PySem.W.envX qual scope s.heap.objs.size f cd cl))->sp vs H Q E ->
   ∃t,PSs (cxOfC CX P w K mg base N qual scope f cd cl A outer s H E) body t/\t {nx:=fun _ H'=>Q .non H',rt:=Q} (startC N vs fvs) H) :
  FnOk P w K mg base CX (k+1) f (PySem.W.fnX name qual params body scope cl dV kV doc pm an cd ct) ps sp:=by
 refine⟨len,fun A outer s H args us vs Q E hr e0 hb r hsp=>?_⟩
 have hl:=len _ _ _ _ hsp
 have lim:s.heap.NoLimit:=e0.mod.nolimit.keeps fun b o e=>(e0.bs b o e).1
 refine codeAny_call_function hr.depth (e0.bs _ _ lk).1 rfl S.co S.gen rfl (hcd _ _ _ _ _ hsp e0.hok) (hb _ _ _ _ ?_)
 refine wpAny_newFunctionEnv S.nocell (fun y hy=>S.par _ (List.of_mem_zip (show(y.1,y.2)∈_ from hy)).1) (fun h1 hns hsb=>?_) S.kind
 have hk:∀b o,s.heap.get? b=some o->h1.get? b=some o:=fun b o e=>by
  have hne:b≠s.heap.objs.size:=Nat.ne_of_lt (Heap.lt_size e)
  rw[hsb.2 b hne]
  exact Heap.get?_push_of_some _ e
 refine⟨lim.keeps hk,codeAny_func ?_⟩
 obtain⟨t,ht,hq⟩:=hbody A outer s H vs Q E (hr.deeper _) hsp
 have I:Inv (cxOfC CX P w K mg base N qual scope f cd cl A outer s H E) [] (startC N vs fvs) H {s with heap:=h1,toks:=s.toks+(ps.zip us).length}:=inv_startC S hr.hd e0 hl r C hns hk
 change wpAny (model P w) (A.deeper (PySem.W.envX qual scope s.heap.objs.size f cd cl)) (execs body (PySem.W.envX qual scope s.heap.objs.size f cd cl)) _ _ _
 refine wpAny_mono (ht [] _ (startC N vs fvs) H _ I hq) (fun fl s' hs=>?_) fun e s' hs=>hs
 have fin:∀{σ':St}{H':Hp}{v:V}{u:Value},Inv (cxOfC CX P w K mg base N qual scope f cd cl A outer s H E) [] σ' H' s'->RelV v u->Q v H'->CE outer P w H s Q u s' :=
  fun{σ' H' v u} J rv q=>⟨v,H',J.os,J.bare,J.base,J.hok,rv,q⟩
 cases fl with
 |ret u =>
  obtain⟨v,σ',H',J,rv,q⟩:=hs
  exact fin J rv q
 |next =>
  obtain⟨σ',H',J,q⟩:=hs
  exact fin (v:=V.non) (u:=Value.none) J rfl q
 |brk =>
  obtain⟨_,_,_,q⟩:=hs
  exact False.elim q
 |cont =>
  obtain⟨_,_,_,q⟩:=hs
  exact False.elim q
end
def tCallF(f:Addr)(sp:Sp)(tf:TE)(t:TA):TE:=fun σ H Q=>tf σ H fun x H0=>x=.ref f/\t σ H0 fun vs H1=>sp vs H1 Q E0
theorem pe_callF{X:Cx}{k:Nat}{f:Addr}{fd:FuncData}{ps:List Str}{sp:Sp}{x:Str}{p pos:Pos}{e:Expr}{es:List Expr}{tf:TE}{t:TA}(F:FnOk X.prog X.w X.K X.mg X.base CX0 k f fd ps sp)(hr:Room k X.A)(hat:PySem.W.FnAt f X.base)(hb:Binds X.K fd ps [])
  (hf:PE X (.Name x p) tf) (ha:PA X (e::es) t) (he:starEach (e::es) X.env=(false,eval e X.env)::starEach es X.env:=by rfl) (hpl:(backTo pos (starEach es X.env)).any (·.1)=false:=by rfl) :
  PE X (.Call (.Name x p) (e::es) [] pos) (tCallF f sp tf t):=by
 intro pins s σ H Q I h
 refine wpAny_Call_Name_kw (thn (hf pins s σ H _ I h) fun u s0 ⟨v,H0,I0,rx,ev,q⟩=>?_)
 subst ev
 obtain rfl:u=Value.ref f:=rx
 have at':∀{s':Shared}{σ':St}{H':Hp},Inv X pins σ' H' s'->PySem.W.FnAt f s'.heap:=fun J=>let⟨oc,od,fd,sl,e⟩:=hat;⟨oc,od,fd,sl,J.bk _ _ e⟩
 refine PySem.W.callWith_F (at' I0) (thn (ha pos pins s0 σ H0 _ I0 q) fun us s1 ⟨vs,H1,I1,r,q⟩=>⟨at' I1,?_⟩) he hpl
 exact run_fn (E:=E0) (dvs:=[]) F hr hb .nil pass0 I1 r (by simpa using q)
def codeX(c:Addr)(q:Str):HO:=.ext fun h=>∃oc vs t,h.get? c=some oc/\oc.data=.fields vs/\vs[1]?=some (.str q t)
theorem codeX_rec{P:Program}{w:World}{H:Hp}{h:Heap}{c:Addr}{q:Str}(hok:HOk P w H h)(e:H c=some (codeX c q)):h.CodeRec (.ref c) q:=by
 obtain⟨⟨oc,vs,t,e1,e2,e3⟩,_⟩:=hok c _ e
 exact⟨c,oc,vs,t,rfl,e1,e2,e3⟩
def TbOne(H:Hp)(P:Addr)(pos:Pos)(q:Str)(c:Addr):Prop:=H P=some (.tbl #[rawInt pos.line,rawInt pos.col,.ref c])/\H c=some (codeX c q)
def TbAt(H:Hp)(P:Addr)(pos:Pos)(q:Str):Prop:=H P=some (.tbl #[])\/∃c,TbOne H P pos q c
def Grow(P:Addr)(H H':Hp):Prop:=∀b o,b≠P->H b=some o->H' b=some o
structure BltB(base:Heap) (mg:Str->Option Value):Prop where
 ex:∃bm ob,mg "__builtins__"=some (.ref bm)/\bm≠builtinsNs/\base.get? bm=some ob/\ob.cls=.type "module"/\ob.dict=some builtinsNs/\ob.data=.plain
section
variable {X:Cx}{pins:List (Addr×Obj)}{σ:St}{H:Hp}{s:Shared}
theorem Inv.bltAt(I:Inv X pins σ H s)(B:BltB X.base X.mg){P:Addr}{o:HO}(hP:H P=some o):mainGlobals≠P/\s.heap.BuiltinsAt X.mg P:=by
 have ne:∀b ob,X.base.get? b=some ob->b≠P:=fun b ob e z=>by
  have:=(I.bs b ob e).2
  rw[z,hP]at this;cases this
 obtain⟨og,es,ep,eg,dg,_⟩:=id I.mod.glob
 obtain⟨bm,ob,b1,b2,b3,b4,b5,b6⟩:=B.ex
 refine⟨ne _ _ eg,bm,ob,b1,b2,fun z=>?_,ne _ _ b3,I.bk _ _ b3,b4,b5,b6⟩
 rw[z,eg]at b3;cases b3;rw[dg]at b6;cases b6
theorem def_made{P c:Addr}{pos:Pos}{name qual:Str}{params:Arguments}{body:List Stmt}{scope:Scope}{clos:List (Str×Addr)}{Q:Value->Shared->Prop}(I:Inv X pins σ H s)(hcode:X.env.code=.ref c)(hC:PySem.W.CodeHd X.base c P)(B:BltB X.base X.mg)
  (hT:TbAt H P pos qual) (hcl:closureFor scope X.env=pure clos)
  (h:∀f c' doc ctv H1 s1,Inv X ((f,PySem.W.fnMade name qual params body scope clos doc ((X.mg "__name__").getD .none) c' ctv)::pins) σ H1 s1->TbOne H1 P pos qual c'->Grow P H H1->Q (.ref f) s1) :
  wpAny (model X.prog X.w) X.A (makeFunction name qual params (.stmts body) scope X.env [] [] [] pos pos.line) Q X.xe s:=by
 have hC':PySem.W.CodeHd s.heap c P:=hC.keeps I.bk
 have hg:s.heap.Ns mainGlobals X.mg:=I.mod.glob.keeps I.bk
 have pinned:∀{H1:Hp}{h':Heap}{tk:Nat}{fo:Obj},Inv X pins σ H1 {s with heap:=h',toks:=tk}->(∀v,fo.data≠.cell v)->fo.isFreed=false->X.env.locals<h'.objs.size->Inv X ((h'.objs.size,fo)::pins) σ H1 {s with heap:=h'.push fo,toks:=tk}:=by
  intro H1 h' tk fo J hd hfree hlt
  have J2:Inv X pins σ H1 {s with heap:=h'.push fo,toks:=tk}:=J.kept (t':=tk) fun b u e=>Heap.get?_push_of_some _ e
  refine J2.pins_of fun p hp=>?_
  rcases List.mem_cons.mp hp with rfl|hp
  ·exact⟨Heap.get?_push_size _ hfree,J.hok.fresh (Nat.le_refl _),Nat.ne_of_gt hlt,J.nofs (Nat.le_refl _),hd⟩
  ·exact J2.pin p (List.mem_append_right _ hp)
 rcases hT with hT|⟨c',hT,hc'⟩
 ·obtain⟨hgP,hb⟩:=I.bltAt B hT
  have hP:s.heap.get? P=some (PySem.W.tabObj #[]):=I.hok P _ hT
  refine PySem.W.makeFunction_K (mg:=X.mg) hcl I.ok.glob hg hcode hC' hP trivial rfl hgP hb fun c' ctv doc h' tk hx hge hlt hrec htb=>?_
  obtain⟨c2,oc,vs,t,e2,hoc,hd,hv⟩:=hrec
  cases e2
  have fr:H c'=none:=I.hok.fresh hge
  have neP:∀b o,H b=some o->o≠.tbl #[]->b≠P:=fun b o e n z=>by rw[z,hT]at e;exact n (Option.some.inj e).symm
  have neP0:∀b,H b=none->b≠P:=fun b e z=>by rw[z,hT]at e;cases e
  have neC:∀b o,s.heap.get? b=some o->b≠c':=fun b o e=>Nat.ne_of_lt (Nat.lt_of_lt_of_le (Heap.lt_size e) hge)
  have cP:c'≠P:=fun z=>absurd (Heap.lt_size hP) (by rw[←z];exact Nat.not_lt.mpr hge)
  have hH:∀b,b≠P->b≠c'->upd (upd H P (.tbl (#[]++#[rawInt pos.line,rawInt pos.col,.ref c']))) c' (codeX c' qual) b=H b:=fun b h1 h2=>by rw[upd_ne h2,upd_ne h1]
  have hHP:upd (upd H P (.tbl (#[]++#[rawInt pos.line,rawInt pos.col,.ref c']))) c' (codeX c' qual) P=some (.tbl (#[]++#[rawInt pos.line,rawInt pos.col,.ref c'])):=by rw[upd_ne (Ne.symm cP),upd_same]
  have hHC:upd (upd H P (.tbl (#[]++#[rawInt pos.line,rawInt pos.col,.ref c']))) c' (codeX c' qual) c'=some (codeX c' qual):=upd_same
  generalize upd (upd H P (.tbl (#[]++#[rawInt pos.line,rawInt pos.col,.ref c']))) c' (codeX c' qual)=H1 at hH hHP hHC
  have ofH:∀b o,b≠P->H b=some o->H1 b=some o:=fun b o n e=>by rw[hH b n (fun z=>by rw[z,fr]at e;cases e)];exact e
  have J:Inv X pins σ H1 {s with heap:=h',toks:=tk}:=by
   refine I.step (g':=s.gens) (d':=s.drawn) (t':=tk) (ch:=[]) (fun _ z=>nomatch z) (fun b o _ _ _ e n=>hx b o (neP0 b n) e) (fun b o _ _ _ e n=>⟨o.slots,hx b o (neP0 b n) e⟩) (fun b o _ e n=>by rw[hH b (neP0 b n) (neC b o e)];exact n)
    (fun b o _ e=>?_) (fun b xs e=>ofH b _ (neP b _ e (by simp)) e) (fun b o u e=>ofH b _ (neP b _ e (by simp)) e) (fun b ps e=>?_) (fun m hm=>?_) (fun b o e=>?_) I.bare
   ·by_cases z:b=P
    ·subst z;exact⟨_,htb⟩
    ·exact⟨o,hx b o z e⟩
   ·by_cases z:b=P
    ·subst z
     rw[hT]at e;cases e
     exact⟨_,hHP⟩
    ·exact⟨#[],by rw[ofH b _ z e];simp⟩
   ·obtain⟨o,es,ep,ho,r⟩:=hm
    exact⟨o,es,ep,hx _ _ (neP0 _ I.free) ho,r⟩
   ·by_cases z:b=P
    ·subst z
     rw[hHP]at e;cases e
     exact htb
    ·by_cases z2:b=c'
     ·subst z2
      rw[hHC]at e;cases e
      exact⟨⟨oc,vs,t,hoc,hd,hv⟩,⟨oc,hoc⟩,fun h1 h2 ⟨oc,vs,t,e1,r⟩ k=>⟨oc,vs,t,k _ e1,r⟩⟩
     ·have e':H b=some o:=by rw[←hH b z z2];exact e
      refine(I.hok b o e').stay (fun d u hd q=>hx d u ?_ q) (fun d q=>ofH d _ (neP d _ q (by simp)) q) fun d xs q=>ofH d _ (neP d _ q (by simp)) q
      rcases hd with y|y
      ·rw[y];exact z
      ·exact neP d _ y (by simp)
  refine h _ c' doc ctv H1 _ (pinned J (fun v z=>nomatch z) rfl (Nat.lt_of_lt_of_le I.lt (Nat.le_trans hge (Nat.le_of_lt hlt)))) ⟨by rw[hHP];simp,hHC⟩ fun b o n e=>ofH b o n e
 ·obtain⟨hgP,hb⟩:=I.bltAt B hT
  have hP:s.heap.get? P=some (PySem.W.tabObj #[rawInt pos.line,rawInt pos.col,.ref c']):=I.hok P _ hT
  refine PySem.W.makeFunction_hit (mg:=X.mg) (cv:=.ref c') hcl I.ok.glob hg hcode hC' hP (by simp[TriplesOk,rawInt]) (by simp[codeAmong,rawInt]) hb fun ctv doc h' tk hk hsz=>?_
  exact h _ c' doc ctv H _ (pinned (I.kept hk) (fun v z=>nomatch z) rfl (Nat.lt_of_lt_of_le I.lt hsz)) ⟨hT,hc'⟩ fun b o _ e=>e
theorem Inv.wider(I:Inv X pins σ H s):∃base',Env0 X.prog X.w X.K X.mg base' X.A X.stack s H/\∀b o,s.heap.get? b=some o->H b=none->b∉frs X.stack->base'.get? b=some o:=by
 have get:∀b o,s.heap.get? b=some o->H b=none->b∉frs X.stack->(PySem.W.hideAll (hidT s.heap H) (frs X.stack)).get? b=some o:=fun b o e n hb=>PySem.W.hideAll_get _ (hidT_get e n) hb
 have old:∀b o,X.base.get? b=some o->(PySem.W.hideAll (hidT s.heap H) (frs X.stack)).get? b=some o:=fun b o e=>get b o (I.bs b o e).1 (I.bs b o e).2 fun hb=>by
  have:=(I.stack.mem hb).1
  rw[e]at this;cases this
 refine⟨_,⟨I.ok.frames,⟨I.mod.kin.keeps old,I.mod.glob.keeps old,let⟨mb,h1,h2⟩:=I.mod.blt;⟨mb,h1.keeps old,h2⟩,I.mod.nolimit.keeps old⟩,fun b o e=>of_hidT (PySem.W.of_hideAll _ e),by rw[PySem.W.hideAll_size,hidT_size];exact Nat.le_refl _,?_,I.stkFree,I.hok,I.bare⟩,get⟩
 have all:∀(l:List Env),(∀b∈frs l,b∈frs X.stack)->s.heap.FunFrames X.base l->s.heap.FunFrames (PySem.W.hideAll (hidT s.heap H) (frs X.stack)) l:=by
  intro l
  induction l with
  |nil=>intro _ _;trivial
  |cons env r ih =>
   intro hs hl
   obtain⟨hk,⟨L,o,hf,hn,ho,hd⟩,hr⟩:=hl
   have hL:L∈frs X.stack:=hs L (by unfold frs;rw[List.filterMap_cons,hf];exact List.mem_cons_self)
   exact⟨hk,⟨L,o,hf,PySem.W.hideAll_none _ hL,ho,hd⟩,ih (fun b hb=>hs b (by unfold frs;rw[List.filterMap_cons,hf];exact List.mem_cons_of_mem _ hb)) hr⟩
 exact all X.stack (fun _ hb=>hb) I.stack
theorem run_fnB{k:Nat}{g:Addr}{fd:FuncData}{ps:List Str}{sp:Sp}{us:List Value}{vs:List V}{Q:VK}(I:Inv X pins σ H s)
  (hF:∀base',(∀b o,s.heap.get? b=some o->H b=none->b∉frs X.stack->base'.get? b=some o)->FnOk X.prog X.w X.K X.mg base' CX0 k g fd ps sp) (hr:Room k X.A) (hb:Binds X.K fd ps []) (r:Vals vs us) (h:sp vs H Q E0) :
  wpAny (model X.prog X.w) X.A (call (.ref g) us) (EP X pins σ Q) X.xe s:=by
 obtain⟨base',e0,get⟩:=I.wider
 have F:=hF base' get
 have hl:us.length=ps.length:=by rw[←r.length];exact F.len _ _ _ _ h
 have hb':=hb s us I.kIn (by simpa using hl)
 rw[List.append_nil]at hb'
 refine wpAny_call (codeAny_mono (F.run X.A X.stack s H ⟨us,[]⟩ us vs Q E0 hr e0 hb' r h) fun r s' hq=>?_)
 cases r with
 |error e=>exact False.elim hq
 |ok fl =>
  cases fl with
  |ret u=>exact I.after hq
  |next=>exact False.elim hq
  |brk=>exact False.elim hq
  |cont=>exact False.elim hq
end
def tDR(i:Nat)(fr:List Nat)(P:Addr)(pos:Pos)(q:Str)(sp:Addr->Addr->List V->Sp)(t:TA):TS:=fun D σ H=>TbAt H P pos q/\∃fvs:List V,fr.map (fun j=>σ[j]?)=fvs.map (fun v=>some (some v)) /\
 ∀f c H1,TbOne H1 P pos q c->Grow P H H1->t (σ.set i (some (.ref f))) H1 fun vs H2=>sp f c fvs vs H2 D.rt E0
theorem pss_defret{X:Cx}{P c g:Addr}{pos pc pn pr:Pos}{name gx:Str}{params:Arguments}{body:List Stmt}{scope:Scope}{i:Nat}{fr:List Nat}{e:Expr}{es:List Expr}{t:TA}{k:Nat}{fdg:FuncData}{psg:List Str}{sp:Addr->Addr->List V->Sp}
  (hcode:X.env.code=.ref c) (hC:PySem.W.CodeHd X.base c P) (B:BltB X.base X.mg) (hfn:∀x,X.fn x=true) (hN:X.N.Nodup) (hi:X.N[i]?=some name) (hx:X.env.scope.names.lookup name=some .local)
  (hfr:∀x∈scope.names,x.2=.free->X.env.scope.names.lookup x.1=some .cell) (hfi:∀j∈fr,X.env.scope.names.lookup (X.N.getD j Str.empty)=some .cell/\scope.names.lookup (X.N.getD j Str.empty)=some .free)
  (G:∀base' f c' doc ctv fvs,base'.get? f=some (PySem.W.fnMade name (qualnameIn X.env name name) params body scope (cellsFor X.env scope.names []) doc ((X.mg "__name__").getD .none) c' ctv)->CloAt base' (cellsFor X.env scope.names []) (fr.map fun j=>X.N.getD j Str.empty) fvs->FnOk X.prog X.w X.K X.mg base' CX0 k g fdg psg (sp f c' fvs))
  (hr:Room k X.A) (hg:Gl X gx) (hm:X.mg gx=some (.ref g)) (hk:PySem.W.keepIn X.K (.ref g)=true) (hb:Binds X.K fdg psg []) (ha:PA X (e::es) t)
  (hd0:params.defaults=[]:=by rfl) (hk0:params.kw_defaults=[]:=by rfl) (han:annTrees params none X.env=[]:=by rfl)
  (hdb:(gx == ("__debug__":Str))=false:=by decide) (he:starEach (e::es) X.env=(false,eval e X.env)::starEach es X.env:=by rfl) (hpl:(backTo pc (starEach es X.env)).any (·.1)=false:=by rfl) :
  PSs X [.FunctionDef name params body [] none [] scope none name pos,.Return (some (.Call (.Name gx pn) (e::es) [] pc)) pr] (tDR i fr P pos (qualnameIn X.env name name) sp t):=by
 intro pins s σ H D I ⟨hT,fvs,hv,h⟩
 have hfree:∀x∈scope.names,x.2=.free->∃c,X.env.cells.lookup x.1=some c:=fun x hx e=>I.ok.has x.1 (.inl (hfr x hx e))
 refine wpAny_execs_cons (PySem.W.nestDef_K hd0 hk0 han (def_made I hcode hC B hT (closureFor_eq hfree) fun f c' doc ctv H1 s1 J tb gr=>?_))
 refine store_ok J hN hi (.inl hx) (show RelV (.ref f) (.ref f)from rfl) (fun s2 J2=>?_) (.inr hx)
 dsimp only
 refine wpAny_execs_cons (wpAny_Return_some (wpAny_Call_Name_kw (ld_glob J2 hg hm ?_ hdb)))
 refine PySem.W.callWith_K (h₀:=X.base) J2.ok.mod.kin hk (thn (ha pc _ s2 _ H1 _ J2 (h f c' H1 tb gr)) fun us s3 ⟨vs,H2,J3,r,q⟩=>⟨J3.kIn,?_⟩) he hpl
 refine thn (run_fnB J3 (fun base' get=>?_) hr hb r q) fun u s4 ⟨v,H3,J4,rv,q4⟩=>?_
 ·obtain⟨e1,n1,ne1,nf1,_⟩:=J3.pin _ (List.mem_append_right _ (List.mem_cons_self))
  refine G base' f c' doc ctv fvs (get _ _ e1 n1 fun z=>(List.mem_cons.mp (J3.stkSub _ z)).elim ne1 nf1) ?_
  have sub:∀y c,(cellsFor X.env scope.names []).lookup y=some c->X.env.cells.lookup y=some c:=cellsFor_sub _ _ hfree (by intro y c e;simp at e)
  have cellB:∀x c v,X.env.cells.lookup x=some c->s3.heap.IsCell c v->base'.IsCell c v:=fun x c v e ⟨o,ho,hd⟩=>⟨o,get _ _ ho (J3.freeC x c e) (fun z=>by
   rcases List.mem_cons.mp (J3.stkSub _ z)with y|y
   ·exact J3.cne x c e y
   ·obtain⟨_,o',ho',_⟩:=J3.ok.funs.mem y
    exact absurd (Nat.lt_of_lt_of_le (Heap.lt_size ho') (J3.ok.cab x c (hfn x) e)) (Nat.lt_irrefl _)),hd⟩
  have hlen:=congrArg List.length hv
  rw[List.length_map,List.length_map]at hlen
  refine⟨fun x y c h1 h2=>J3.ok.inj x y c (sub x c h1) (sub y c h2),fun x c e=>?_,fun j x v h1 h2=>?_,by rw[List.length_map];exact hlen.symm,fun x hx=>?_⟩
  ·obtain⟨v,z⟩:=J3.cell x c (sub x c e)
   exact⟨v,cellB x c v (sub x c e) z⟩
  ·rw[List.getElem?_map]at h1
   cases ej:fr[j]? with
   |none=>rw[ej]at h1;cases h1
   |some n =>
    rw[ej]at h1
    simp only[Option.map_some,Option.some.injEq]at h1
    obtain⟨q1,q2⟩:=hfi n (List.mem_of_getElem? ej)
    have hs:σ[n]?=some (some v):=by
     have:=congrArg (fun l=>l[j]?) hv
     simp only[List.getElem?_map,ej,h2,Option.map_some]at this
     exact Option.some.inj this
    have hnl:n<X.N.length:=by rw[←I.len];exact(List.getElem?_eq_some_iff.mp hs).1
    have hNn:X.N[n]?=some x:=by rw[←h1,List.getD_eq_getElem?_getD,List.getElem?_eq_getElem hnl];rfl
    rw[h1]at q1 q2
    have hni:n≠i:=fun z=>by rw[z,hi]at hNn;cases hNn;rw[hx]at q1;cases q1
    obtain⟨m,hn,hl⟩:=J3.loc
    obtain⟨u,ru,lk⟩:=hl n x v hNn (by rw[List.getElem?_set_ne (Ne.symm hni)];exact hs) (.inr (.inl q1))
    rcases lk with⟨k1,_⟩|⟨_,c,hc,z⟩
    ·have k1:X.env.scope.names.lookup x=some .local:=k1
     rw[q1]at k1;cases k1
    ·obtain⟨c2,hc2⟩:=cellsFor_has (env:=X.env) scope.names [] x (PySem.mem_of_lookup q2)
     have:=sub x c2 hc2
     rw[hc]at this;cases this
     exact⟨c,u,hc2,ru,cellB x c _ hc z⟩
  ·obtain⟨j,hj,rfl⟩:=List.mem_map.mp hx
   exact cellsFor_has _ _ _ (PySem.mem_of_lookup (hfi j hj).2)
 ·exact⟨v,_,H3,J4.pins_of fun p hp=>J4.pin p (List.mem_append_right _ (List.mem_cons_of_mem _ hp)),rv,q4⟩
structure FunC(K:PySem.W.Frag) (x qual:Str) (st:Stmt) (f:Addr) (fd:FuncData) (c:Addr):Prop where
 ex:∃(oc:Value) (od:Option Addr) (kV doc pm:Value) (an:Option Addr) (ct:Value) (osl:Array (Option Value)),
  fd=PySem.W.fnOf x qual (defArgs st) (defBody st) (defScope st) .none kV doc pm an (.ref c) ct/\K.lookup f=some ⟨oc,od,.func fd,osl⟩/\PySem.W.codeIn K (.ref c) qual=true
 kp:PySem.W.keepIn K (.ref f)=true
section
variable {P:Program}{w:World}{K:PySem.W.Frag}{mg:Str->Option Value}{base:Heap}
theorem FunC.f{x qual:Str}{st:Stmt}{f c:Addr}{fd:FuncData}(F:FunC K x qual st f fd c):Fun K x qual st f fd :=
 let⟨oc,od,kV,doc,pm,an,ct,osl,e,lk,hcd⟩:=F.ex
 ⟨⟨oc,od,kV,doc,pm,an,.ref c,ct,osl,e,lk,hcd⟩,F.kp⟩
theorem FunC.ok{x qual:Str}{st:Stmt}{f c:Addr}{fd:FuncData}{N ps:List Str}{k:Nat}{sp:Sp}(F:FunC K x qual st f fd c)(S:FnScope N ps (defScope st))(len:∀vs H Q E,sp vs H Q E->vs.length=ps.length)
  (hbody:∀(A:Around) (outer:List Env) (s:Shared) (H:Hp) (vs:List V) (Q:VK) (E:XK),Room k (A.deeper (envOfC qual (defScope st) s.heap.objs.size f (.ref c)))->sp vs H Q E ->
   ∃t,PSs (cxOf CX0 P w K mg base N qual (defScope st) f (.ref c) A outer s H E).nox (defBody st) t/\t {nx:=fun _ H'=>Q .non H',rt:=Q} (start N vs) H):FnOk P w K mg base CX0 (k+1) f fd ps sp:=by
 obtain⟨oc,od,kV,doc,pm,an,ct,osl,rfl,lk,hcd⟩:=F.ex
 refine fn_of lk hcd S len fun A outer s H vs Q E hr hsp=>?_
 obtain⟨t,h,q⟩:=hbody A outer s H vs Q E hr hsp
 exact⟨t,h.nox,q⟩
theorem funC_mk{x qual:Str}{st:Stmt}{f c:Addr}{oc:Value}{od an:Option Addr}{osl:Array (Option Value)}{kV doc pm ct:Value}(l:K.lookup f=some ⟨oc,od,.func (PySem.W.fnOf x qual (defArgs st) (defBody st) (defScope st) .none kV doc pm an (.ref c) ct),osl⟩)
  (h:PySem.W.codeIn K (.ref c) qual=true) (k:PySem.W.keepIn K (.ref f)=true):FunC K x qual st f (PySem.W.fnOf x qual (defArgs st) (defBody st) (defScope st) .none kV doc pm an (.ref c) ct) c:=⟨⟨oc,od,kV,doc,pm,an,ct,osl,rfl,l,h⟩,k⟩
end
def OnlyT(Pt:Addr)(H:Hp):Prop:=∀b,H b=none\/b=Pt\/∃o xs,H b=some (.frz o (.lst xs))
theorem law_callT{P:Program}{w:World}{K:PySem.W.Frag}{mg mb:Str->Option Value}{k:Nat}{fa a c Pt:Addr}{fd:FuncData}{x:Str}{sp:Sp}{s₁:Shared}{vs:List Value}{ns:List Int}
  (KX:K.In s₁.heap) (hns:s₁.heap.Ns mainGlobals mg) (hb:s₁.heap.Ns builtinsNs mb) (hbb:∀x:Str,x≠"__name__"->mb x=bootBuiltins x) (hlim:s₁.heap.NoLimit) (hg:s₁.gens=#[])
  (ha:s₁.heap.get? a=some {cls:=.type "list",data:=.seq vs.toArray}) (hi:IntsAre vs ns) (hl:ns.length<=sizeLine) (hr:Room k callerA)
  (hC:PySem.W.CodeHd s₁.heap c Pt) (hPt:s₁.heap.get? Pt=some (PySem.W.tabObj #[])) (hKP:K.lookup Pt=none) (B:BltB s₁.heap mg)
  (F:∀base:Heap,K.In base->base.Ns mainGlobals mg->PySem.W.CodeHd base c Pt->BltB base mg->FnOk P w K mg base CX0 k fa fd [x] sp) (hbind:∀(s:Shared) (u:Value),BindsTo s fd ⟨[u],[]⟩ [(x,u)])
  (hsp:∀H:Hp,OnlyT Pt H->H Pt=some (.tbl #[])->SqL K H a (ns.map V.int)->sp [.ref a] H (fun v _=>v=.bl true) fun _ _ _=>False) :
  codeAny (model P w) callerA (.call (.ref fa) ⟨[.ref a],[]⟩) (fun r s'=>r=.ok (.ret (.bool true))/\OldK s₁.heap s'.heap/\s'.os=s₁.os/\AllBare s'.gens) s₁:=by
 have rv:=vals_ints hi
 have lenV:=hi.length
 have aP:a≠Pt:=fun z=>by rw[z,hPt]at ha;cases ha
 have core:∀H:Hp,OnlyT Pt H->H Pt=some (.tbl #[])->SqL K H a (ns.map V.int)->HOk P w H s₁.heap->(∀b,H b≠none->b=a\/b=Pt)->(H a≠none->K.lookup a=none) ->
   codeAny (model P w) callerA (.call (.ref fa) ⟨[.ref a],[]⟩) (fun r s'=>r=.ok (.ret (.bool true))/\OldK s₁.heap s'.heap/\s'.os=s₁.os/\AllBare s'.gens) s₁:=by
  intro H hO hHP hS hok hA hK
  have base_of:∀{b:Addr}{o:Obj},s₁.heap.get? b=some o->H b=none->(hidT s₁.heap H).get? b=some o:=fun e n=>hidT_get e n
  have not2:∀b,b≠a->b≠Pt->H b=none:=fun b h1 h2=>by
   cases q:H b with
   |none=>rfl
   |some u=>exact absurd (hA b (by rw[q];simp)) (fun z=>z.elim h1 h2)
  have noA:∀{b:Addr}{o:Obj}{es:Array DictEntry}{ep:Nat},s₁.heap.get? b=some o->o.data=.dict es ep->H b=none:=fun{b o es ep} e d=>by
   refine not2 b (fun z=>?_) fun z=>?_
   ·rw[z,ha]at e;cases e;cases d
   ·rw[z,hPt]at e;cases e;cases d
  have nsK:∀{b:Addr}{m:Str->Option Value},s₁.heap.Ns b m->(hidT s₁.heap H).Ns b m:=fun{b m} ⟨o,es,ep,e,d,r⟩=>⟨o,es,ep,base_of e (noA e d),d,r⟩
  have hKb:K.In (hidT s₁.heap H):=fun b o e=>base_of (KX b o e) (by
   cases q:H b with
   |none=>rfl
   |some u =>
    rcases hA b (by rw[q];simp)with z|z
    ·subst z
     rw[hK (by rw[q];simp)]at e;cases e
    ·rw[z,hKP]at e;cases e)
  have hCb:PySem.W.CodeHd (hidT s₁.heap H) c Pt:=by
   obtain⟨o,vs',file,tf,flags,tg,inF,text,tt,e1,e2,e3,r1,r2,r3,r4,r5,r6,r7⟩:=hC
   refine⟨o,vs',file,tf,flags,tg,inF,text,tt,base_of e1 (not2 c (fun z=>?_) r7),e2,e3,r1,r2,r3,r4,r5,r6,r7⟩
   rw[z,ha]at e1;cases e1;cases e3
  have hBb:BltB (hidT s₁.heap H) mg:=by
   obtain⟨bm,ob,b1,b2,b3,b4,b5,b6⟩:=B.ex
   refine⟨bm,ob,b1,b2,base_of b3 (not2 bm (fun z=>?_) fun z=>?_),b4,b5,b6⟩
   ·rw[z,ha]at b3;cases b3;cases b6
   ·rw[z,hPt]at b3;cases b3;cases b6
  have hM:Mod K mg (hidT s₁.heap H):=⟨hKb,nsK hns,⟨mb,nsK hb,hbb⟩,let⟨mc,h1,h2⟩:=hlim;⟨mc,nsK h1,h2⟩⟩
  have e0:Env0 P w K mg (hidT s₁.heap H) callerA [] s₁ H:=⟨rfl,hM,fun b o e=>of_hidT e,Nat.le_of_eq (hidT_size _ _),trivial,fun b hb=>absurd (show b∈([]:List Addr)from hb) (by simp),hok,.of_eq hg⟩
  refine codeAny_mono ((F _ hKb (nsK hns) hCb hBb).run callerA [] s₁ H ⟨[.ref a],[]⟩ [.ref a] [.ref a] _ _ hr e0 (hbind s₁ (.ref a)) (.cons rfl .nil) (hsp H hO hHP hS)) fun r s' h=>?_
  cases r with
  |error e=>exact False.elim h
  |ok fl =>
   cases fl with
   |next=>exact False.elim h
   |brk=>exact False.elim h
   |cont=>exact False.elim h
   |ret u =>
    obtain⟨v,H',os,bare,un,hok',r',q⟩:=h
    have q':v=.bl true:=q
    subst q'
    obtain rfl:u=Value.bool true:=r'
    have tab:∃more,s'.heap.get? Pt=some (PySem.W.tabObj (#[]++more)):=by
     obtain⟨more,e⟩:=un.tbls Pt #[] hHP
     exact⟨more,hok' Pt _ e⟩
    have keep:∀b o,b≠Pt->s₁.heap.get? b=some o->s'.heap.get? b=some o:=fun b o hbP e=>by
     cases q:H b with
     |none=>exact un.keep b o e q (by intro z;exact absurd (show b∈([]:List Addr)from z) (by simp)) (by simp)
     |some u =>
      rcases hO b with z|z|⟨ob,xs,z⟩
      ·rw[q]at z;cases z
      ·exact absurd z hbP
      ·have z2:=un.frzs b ob _ z
       obtain⟨e1,_⟩:=hok b _ z
       obtain⟨e2,_⟩:=hok' b _ z2
       rw[e]at e1;cases e1
       exact e2
    refine⟨rfl,⟨fun b o e=>?_,fun b o e=>?_⟩,os,bare⟩
    ·by_cases hbP:b=Pt
     ·subst hbP
      rw[hPt]at e;cases e
      obtain⟨more,et⟩:=tab
      exact .inr (.inl ⟨(hC.tab hPt).isCodeTable,rfl,#[],more,rfl,et⟩)
     ·exact .inl (keep b o hbP e)
    ·by_cases hbP:b=Pt
     ·subst hbP
      obtain⟨more,et⟩:=tab
      exact⟨_,et⟩
     ·exact⟨o,keep b o hbP e⟩
 cases hk:K.lookup a with
 |some o =>
  have e:=KX a o hk
  rw[ha]at e
  cases e
  refine core (fun b=>if b=Pt then some (.tbl #[])else none) (fun b=>?_) (if_pos rfl) (.inr ⟨_,vs.toArray,_,hk,rfl,rfl,rfl,by rw[List.size_toArray,lenV];exact hl,by simpa using rv⟩) (fun b u z=>?_) (fun b z=>?_) fun z=>absurd (if_neg aP) z
  ·by_cases hb:b=Pt
   ·exact .inr (.inl hb)
   ·exact .inl (if_neg hb)
  ·by_cases hb:b=Pt
   ·have z':=(if_pos hb).symm.trans z
    cases z'
    subst hb
    exact hPt
   ·have z':=(if_neg hb).symm.trans z
    cases z'
  ·by_cases hb:b=Pt
   ·exact .inr hb
   ·exact absurd (if_neg hb) z
 |none =>
  refine core (fun b=>if b=Pt then some (.tbl #[])else if b=a then some (.frz {cls:=.type "list",data:=.seq vs.toArray} (.lst (ns.map V.int)))else none) (fun b=>?_) (if_pos rfl) (.inl (.inr ⟨{cls:=.type "list",data:=.seq vs.toArray},?_⟩)) (fun b u z=>?_) (fun b z=>?_) fun _=>hk
  ·by_cases hb:b=Pt
   ·exact .inr (.inl hb)
   ·by_cases hb2:b=a
    ·exact .inr (.inr ⟨_,_,(if_neg hb).trans (if_pos hb2)⟩)
    ·exact .inl ((if_neg hb).trans (if_neg hb2))
  ·exact(if_neg aP).trans (if_pos rfl)
  ·by_cases hb:b=Pt
   ·have z':=(if_pos hb).symm.trans z
    cases z'
    subst hb
    exact hPt
   ·by_cases hb2:b=a
    ·have z':=((if_neg hb).trans (if_pos hb2)).symm.trans z
     cases z'
     subst hb2
     exact⟨ha,by rw[List.length_map];exact hl,vs,_,rv,ha⟩
    ·have z':=((if_neg hb).trans (if_neg hb2)).symm.trans z
     cases z'
  ·by_cases hb:b=Pt
   ·exact .inr hb
   ·by_cases hb2:b=a
    ·exact .inl hb2
    ·exact absurd ((if_neg hb).trans (if_neg hb2)) z
theorem walk_ofT{l:PySem.W.OpenLaw}{n k:Nat}{q:Program}{loose:List Str}{XP:(Str->Option Value)->Heap->Prop}{YP:World->Heap->Prop}{d dt:DefRec}{K:Params->PySem.W.Frag}{sp:PySem.W.Frag->Sp}{x tn:Str}{c Pt:Addr}
  (hn:l.most=some n) (hn2:n<=sizeLine) (hdf:d.params.defaults=[]) (hr:Room k callerA)
  (hY:∀(w:World) (h:Heap),YP w h->(K w.params).In h)
  (ht1:(recsOf q).find? (fun e=>e.name == tn)=some dt) (ht2:∀w:World,PySem.W.tabIn (K w.params) tn=some (c,Pt)) (ht3:∀w:World,(K w.params).lookup Pt=none)
  (F:∀(w:World) (mg:Str->Option Value) (fa:Addr) (h:Heap),(K w.params).In h->h.Ns mainGlobals mg->mg d.name=some (.ref fa) ->
   ∃fd:FuncData,(∀(s:Shared) (u:Value),BindsTo s fd ⟨[u],[]⟩ [(x,u)]) /\
    ∀base:Heap,(K w.params).In base->base.Ns mainGlobals mg->PySem.W.CodeHd base c Pt->BltB base mg->FnOk l.prog w (K w.params) mg base CX0 k fa fd [x] (sp (K w.params)))
  (hsp:∀(K:PySem.W.Frag) (H:Hp) (a:Addr) (ns:List Int),ns.length<=n->OnlyT Pt H->H Pt=some (.tbl #[])->SqL K H a (ns.map V.int)->sp K [.ref a] H (fun v _=>v=.bl true) fun _ _ _=>False) :
  PySem.W.WalkO q loose XP YP l.row.toRowW d [] (fun f vs=>PySem.call f vs):=by
 refine Att.attach_call hn hdf fun w s₀ s₁ mg mb fa o pm cd doc a vs ns G Y ho hd hcd hmg hobj hints hlen hg=>?_
 have KX:=hY w _ Y
 obtain⟨fd,hb,hF⟩:=F w mg fa _ KX G.T.g hmg
 obtain⟨hC,hP⟩:=PySem.W.tab_of G.T KX ht1 (ht2 w)
 exact law_callT KX G.T.g G.T.b G.T.builtins G.T.nolimit hg hobj hints (Nat.le_trans hlen hn2) hr hC hP (ht3 w) ⟨G.T.bmain⟩ hF hb (fun H hO hP hS=>hsp _ H a ns hlen hO hP hS)
end L2
namespace G24
open PySem L2
structure HasF(P:Program) (w:World) (K:PySem.W.Frag) (mg:Str->Option Value) (base:Heap) (k:Nat) (ps:List Str) (sp:Sp) (f:Addr) (fd:FuncData):Prop where
 ok:FnOk P w K mg base CX0 k f fd ps sp
 fa:PySem.W.FnAt f base
 bd:Binds K fd ps []
def spPut(K:PySem.W.Frag)(c:Addr)(q:Str)(ov:V)(o:Th):Sp:=fun vs H Q _=>∃(v:V) (x:Th),vs=[v]/\Rp K H (thT x) v/\Rp K H (thT o) ov/\H c=some (codeX c q)/\x.sz<=4000000 /\
 ∀(v':V) (H':Hp) (y:Th),Same H H'->Rp K H' (thT y) v'->y.sz<=x.sz+o.sz+2->y.dp<=x.dp+o.dp+2->Q v' H'
def spChg(K:PySem.W.Frag)(n:Nat)(fP c:Addr)(q:Str)(ov:V)(o:Th):Sp:=fun vs H Q _=>∃(v pv:V) (t:Th) (ps:List Int),vs=[v,pv,.ref fP]/\Rp K H (thT t) v/\Rp K H (pathT ps) pv/\At t ps/\ps.length<n/\Rp K H (thT o) ov/\H c=some (codeX c q)/\t.sz<=4000000 /\
 ∀(v':V) (H':Hp) (y:Th),Same H H'->Rp K H' (thT y) v'->y.sz<=t.sz+o.sz+2->y.dp<=t.dp+o.dp+2->Q v' H'
def wk:Th->List Th->Th
 |.num m,_=>.num m
 |.row _,ks=>.row ks
 |.tag x _,ks=>.tag x ks
theorem wk_sz:∀{t:Th}(ks:List Th),(∀m,t≠.num m)->(wk t ks).sz=szs ks+1/\(wk t ks).dp=dps' ks+1
 |.num m,_,h=>absurd rfl (h m)
 |.row _,_,_=>⟨by rw[wk,Th.sz],by rw[wk,Th.dp]⟩
 |.tag _ _,_,_=>⟨by rw[wk,Th.sz],by rw[wk,Th.dp]⟩
theorem th_open2{K:PySem.W.Frag}{H:Hp}{v:V}:∀{t:Th},(∀m,t≠.num m)->Rp K H (thT t) v->∃(ta:Addr) (hs:List V) (la:Addr) (us:List V),v=.ref ta/\SqT K H ta (hs++[.ref la])/\hs.length<=2/\atI (hs++[.ref la]) (-1)=some (.ref la)/\cutV (hs++[.ref la]) none (some (-1))=hs/\SqT K H la us/\Rps K H ((kids t).map thT) us/\(∃hd:Str,atI (hs++[.ref la]) 0=some (.str hd)/\hd≠"num") /\
  ∀(H':Hp) (a l':Addr) (us':List V) (ks:List Th),SqT K H' a (hs++[.ref l'])->SqT K H' l' us'->Rps K H' (ks.map thT) us'->Rp K H' (thT (wk t ks)) (.ref a)
 |.num m,h,_=>absurd rfl (h m)
 |.row l,_,r=>by
  rw[thT,thTs_eq]at r
  obtain⟨a,u1,u2,rfl,sq,g1,g2⟩:=r.t2
  obtain rfl:=g1.inv_s
  obtain⟨la,us,rfl,lsq,rs⟩:=g2.inv_t
  refine⟨a,[.str "row"],la,us,rfl,sq,by decide,rfl,rfl,lsq,rs,⟨"row",rfl,by decide⟩,fun H' a' l' us' ks h1 h2 h3=>?_⟩
  rw[wk,thT,thTs_eq]
  exact Rp.t h1 (.cons .s (.one (Rp.t h2 h3)))
 |.tag x l,_,r=>by
  rw[thT,thTs_eq]at r
  obtain⟨a,u1,u2,u3,rfl,sq,g1,g2,g3⟩:=r.t3
  obtain rfl:=g1.inv_s
  obtain rfl:=g2.inv_s
  obtain⟨la,us,rfl,lsq,rs⟩:=g3.inv_t
  refine⟨a,[.str "tag",.str x],la,us,rfl,sq,Nat.le_refl 2,rfl,rfl,lsq,rs,⟨"tag",rfl,by decide⟩,fun H' a' l' us' ks h1 h2 h3=>?_⟩
  rw[wk,thT,thTs_eq]
  exact Rp.t h1 (.cons .s (.cons .s (.one (Rp.t h2 h3))))
theorem Rps.setT{K:PySem.W.Frag}{H:Hp}{y:Th}{v:V}:∀{l:List Th}{us:List V}(i:Nat),Rps K H (l.map thT) us->Rp K H (thT y) v->Rps K H ((l.set i y).map thT) (us.set i v)
 | [],us,i,h,_=>by obtain rfl:=h.inv0;exact .nil
 |x::r,us,i,h,g=>by
  obtain⟨u,q,rfl,g0,rs⟩:=h.inv
  cases i with
  |zero=>exact .cons g rs
  |succ i=>exact .cons g0 (Rps.setT i rs g)
theorem szs_set{y x:Th}:∀{l:List Th}{i:Nat},l[i]?=some x->szs (l.set i y)+x.sz=szs l+y.sz
 |a::r,0,h=>by cases Option.some.inj h;simp only[List.set_cons_zero,szs];omega
 |a::r,i+1,h=>by
  have:=szs_set (y:=y) (l:=r) (i:=i) h
  simp only[List.set_cons_succ,szs]
  omega
theorem dps_set{y:Th}{b:Nat}{l:List Th}{i:Nat}(h:dps' l<=b)(hy:y.dp<=b):dps' (l.set i y)<=b:=dps_le fun x hx=>by
 rcases List.mem_or_eq_of_mem_set hx with h'|h'
 ·exact Nat.le_trans (dps_mem h') h
 ·rw[h'];exact hy
theorem path_dep(ps:List Int):(pathT ps).dep<=150:=by
 have:∀ps:List Int,T.deps (ps.map T.i)<=0:=by
  intro ps
  induction ps with
  |nil=>exact dpn
  |cons a r ih=>exact dpc dpi ih
 exact Nat.le_trans (dpt (this ps)) (by decide)
section
variable {P:Program}{w:World}{K:PySem.W.Frag}{mg:Str->Option Value}{base:Heap}{gC fP c:Addr}{cfd pfd:FuncData}{q:Str}{ov:V}{o:Th}
theorem nm_L_changed:Nm ["_law_thing_here","_law_path","_law_put","_law_inner"] (defScope s_L_changed):=by decide +kernel
theorem lm_L_changed:Lm ["_law_thing_here","_law_path","_law_put","_law_inner"] (defScope s_L_changed):=by decide +kernel
theorem sc_L_changed:FnScope ["_law_thing_here","_law_path","_law_put","_law_inner"] ["_law_thing_here","_law_path","_law_put"] (defScope s_L_changed):=⟨rfl,rfl,rfl,by decide +kernel,rfl,by decide +kernel,by decide +kernel⟩
theorem ok_changed{f:Addr}{fd:FuncData}{n j:Nat}(hj:1<=j)(hn:n<=500)(F:Fun K "_law_changed" "_law_changed" s_L_changed f fd)(PUT:HasF P w K mg base 1 ["_law_one"] (spPut K c q ov o) fP pfd)(CHG:Has P w K mg base "_law_changed" j ["_law_thing_here","_law_path","_law_put"] (spChg K n fP c q ov o) gC cfd)(z_list:mg "list"=none)(z_tuple:mg "tuple"=none) :
  FnOk P w K mg base CX0 (j+1) f fd ["_law_thing_here","_law_path","_law_put"] (spChg K (n+1) fP c q ov o):=by
 refine F.ok sc_L_changed (fun vs H Q E h=>?_) (fun cdv A outer s H vs Q E hr h=>?_)
 ·obtain⟨_,_,_,_,rfl,_⟩:=h
  rfl
 obtain⟨v,pv,t,ps,rfl,rt,rp,ha,hlen,ro,hc,hz,k⟩:=h
 refine⟨_,(@pss_cons _ _ _ _ _ (@ps_if _ _ _ _ _ _ _ _ (pt_cmpR (op_eqT hr.u150) (va nm_L_changed 1) (pe_tup pa_nil) (nomark _)) (@pss_one _ _ _ (@ps_ret _ _ _ _ (pe_callF PUT.ok (hr.mono (by omega)) PUT.fa PUT.bd (va nm_L_changed 2) (pa_c (va nm_L_changed 0) pa_nil)))) pss_nil) (@pss_cons _ _ _ _ _ (@sa _ _ _ _ _ _ sc_L_changed.nd lm_L_changed 3 (@pe_callTy _ _ _ _ _ _ _ _ _ call_list_of (by show _=_;kernel_rfl) z_list PyProof.Rows.boot_list (@pa_c _ _ _ _ _ (pe_ix ix_tup (va nm_L_changed 0) (pe_un un_neg pe_int) (fun _ _=>rfl)) pa_nil (by rfl)) (by decide) (by decide) (by rfl) (by rfl)) (by rfl) (by kernel_rfl) (by exact .inl rfl)) (@pss_cons _ _ _ _ _ (@ps_asg _ _ _ _ _ _ (@pe_call _ _ _ _ _ _ _ _ _ _ _ _ _ _ _ _ CHG.ok (hr.mono (by omega)) (by show _=_;kernel_rfl) CHG.at' CHG.kp CHG.bd .nil pass0 (@pa_c _ _ _ _ _ (@pe_ix _ _ _ _ _ _ _ ix_list (va nm_L_changed 3) (pe_ix ix_tup (va nm_L_changed 1) pe_int (fun _ _=>rfl)) (fun _ _=>rfl)) (@pa_c _ _ _ _ _ (pe_slice sl_tupA (va nm_L_changed 1) (po_some pe_int) po_none) (pa_c (va nm_L_changed 2) pa_nil) (by rfl)) (by rfl)) (by decide) (by rfl) (by rfl)) (@pg_sub _ _ _ _ _ _ _ (va nm_L_changed 3) (pe_ix ix_tup (va nm_L_changed 1) pe_int (fun _ _=>rfl)) set_list (by intro _;rfl)) (by rfl) (by rfl) (by rfl)) (@pss_one _ _ _ (@ps_ret _ _ _ _ (@pe_op _ _ _ _ _ _ _ _ op_catTA (@pe_slice _ _ _ _ _ _ _ _ _ _ sl_tupA (va nm_L_changed 0) po_none (po_some (pe_un un_neg pe_int))) (@pe_tup _ _ _ _ _ (@pa_c _ _ _ _ _ (@pe_callTy _ _ _ _ _ _ _ _ _ call_tuple_of (by show _=_;kernel_rfl) z_tuple PyProof.Rows.boot_tuple (pa_c (va nm_L_changed 3) pa_nil) (by decide) (by decide) (by rfl) (by rfl)) pa_nil (by rfl))))))))),?_⟩
 try dsimp only[cx_K]
 try dsimp only[cx_K]
 have dpp:(pathT ps).dep<=150:=path_dep ps
 fail "R"
 intro p1 hp1
 have s1:=same_new hp1 (.tup [])
 have re:Rp K (upd H p1 (.tup [])) (.t []) (.ref p1):=Rp.t (SqT.of upd_same) .nil
 generalize upd H p1 (.tup [])=H1 at s1 re⊢
 have rp1:=rp.same s1
 have rt1:=rt.same s1
 have ro1:=ro.same s1
 have hc1:=s1 _ _ hc
 cases ha with
 |nil =>
  have ed:decide (pathT []=.t [])=true:=rfl
  fail "R"
  intro v' H' y s2 r2 z2 d2
  exact k v' H' y (s1.trans s2) r2 z2 d2
 |@cons t x i0 r hx ha =>
  have ed:decide (pathT ((i0:Int)::r)=.t [])=false:=by
   refine decide_eq_false fun z=>?_
   unfold pathT at z
   injection z with z
   cases z
  have hnn:∀m,t≠.num m:=fun m z=>by rw[z]at hx;simp[kids]at hx
  obtain⟨ta,hs,la,us,rfl,tsq,lhs,e1,ecut,lsq,rs,_,mkT⟩:=th_open2 hnn rt1
  obtain⟨esz,edp⟩:=th_kids hnn
  have lus:=rs.length
  rw[List.length_map]at lus
  have hlen2:=szs_len (kids t)
  have slu:us.length<=sizeLine:=Nat.le_trans (by omega) (show 4000001<=sizeLine by decide)
  fail "R"
  intro p2 hp2
  have s2:=same_new hp2 (.lst us)
  have h2:upd H1 p2 (.lst us) p2=some (.lst us):=upd_same
  generalize upd H1 p2 (.lst us)=H2 at s2 h2⊢
  obtain⟨pa,pus,rfl,psq,prs⟩:=(show Rp K H1 (.t ((i0:Int)::r|>.map T.i)) pv from rp1).inv_t
  obtain⟨u0,pr,rfl,gp,prs2⟩:=prs.inv
  obtain rfl:=gp.inv_i
  obtain⟨xv,hxv,rx⟩:=rs.get (i:=i0) (x:=thT x) (by rw[List.getElem?_map,hx];rfl)
  have aq:atI us (i0:Int)=some xv:=atI_nat hxv
  have a0:atI (V.int (i0:Int)::pr) 0=some (.int (i0:Int)):=(atI_nat (j:=0) rfl:atI (V.int (i0:Int)::pr) ((0:Nat):Int)=some (.int (i0:Int)))
  have psq2:=psq.same s2
  have tsq2:=tsq.same s2
  have cut1:cutV (V.int (i0:Int)::pr) (some 1) none=pr:=cut_fromL _ 1
  fail "R"
  intro p3 H3 s3 sq3
  rw[cut1]at sq3
  have s23:=s2.trans s3
  have rx3:=rx.same s23
  have rp3:Rp K H3 (pathT r) (.ref p3):=Rp.t sq3 (prs2.same s23)
  have ro3:=ro1.same s23
  have hc3:=s23 _ _ hc1
  have hxm:=List.mem_of_getElem? hx
  have hxd:=dps_mem hxm
  have hxz:=szs_mem hxm
  have b1:r.length<n:=by simp at hlen;omega
  have b2:x.sz<=4000000:=by omega
  fail "R"
  intro v4 H4 y s4 r4 z4 d4
  have h4:=(s3.trans s4) _ _ h2
  have psq4:=psq2.same (s3.trans s4)
  have hil:i0<us.length:=(List.getElem?_eq_some_iff.mp hxv).1
  have ix0:ixN us.length (i0:Int)=some i0:=by unfold ixN;rw[if_pos (by omega)];simp;omega
  have kt5:Kt H4 (upd H4 p2 (.lst (us.set i0 v4))):=kt_lst h4
  have h5:upd H4 p2 (.lst (us.set i0 v4)) p2=some (.lst (us.set i0 v4)):=upd_same
  have tsq5:=(tsq2.same (s3.trans s4)).kt kt5
  fail "R"
  intro p6 H6 s6 sq6
  rw[ecut]at sq6
  have h6:=s6 _ _ h5
  have lset:(us.set i0 v4).length<=sizeLine:=by rw[List.length_set];exact slu
  fail "R"
  refine .inl ⟨SqL.of h6,fun p7 hp7=>?_⟩
  have s7:=same_new hp7 (.tup (us.set i0 v4))
  have h7:upd H6 p7 (.tup (us.set i0 v4)) p7=some (.tup (us.set i0 v4)):=upd_same
  generalize upd H6 p7 (.tup (us.set i0 v4))=H7 at s7 h7⊢
  fail "R"
  intro p8 hp8
  have s8:=same_new hp8 (.tup [.ref p7])
  have h8:upd H7 p8 (.tup [.ref p7]) p8=some (.tup [.ref p7]):=upd_same
  generalize upd H7 p8 (.tup [.ref p7])=H8 at s8 h8⊢
  have sq8:=sq6.same (s7.trans s8)
  have t8:SqT K H8 p8 [.ref p7]:=SqT.of h8
  have z8:hs.length+1<=sizeLine:=small (by omega)
  fail "R"
  intro p9 H9 s9 sq9
  have s69:=(s6.trans (s7.trans s8)).trans s9
  have sH:Same H (upd H4 p2 (.lst (us.set i0 v4))):=fun b o e=>by
   have e1:=s1 _ _ e
   rw[upd_ne (ne_of_none e1 hp2)]
   exact(s23.trans s4) _ _ e1
  obtain⟨w1,w2⟩:=wk_sz (t:=t) ((kids t).set i0 y) hnn
  have zz:=szs_set (y:=y) hx
  refine k _ H9 (wk t ((kids t).set i0 y)) (sH.trans s69) (mkT H9 p9 p7 (us.set i0 v4) _ sq9 (SqT.of ((s8.trans s9) _ _ h7)) ?_) (by omega) ?_
  ·exact Rps.setT i0 (((rs.same (s23.trans s4)).kt kt5).same s69) ((r4.kt kt5).same s69)
  ·have:=dps_set (i:=i0) (y:=y) (l:=kids t) (b:=dps' (kids t)+o.dp+2) (by omega) (by omega)
   omega
end
abbrev s_L_spoilt_L_put:Stmt:=(defBody s_L_spoilt).getD 7 (.Pass ⟨0,0,0,0⟩)
theorem fn_ofC0{P:Program}{w:World}{K:PySem.W.Frag}{mg:Str->Option Value}{base:Heap}{N ps Fr:List Str}{qual:Str}{scope:Scope}{f:Addr}{cd:Value}{cl:List (Str×Addr)}{k:Nat}{name:Str}{params:Arguments}{body:List Stmt}{dV kV doc pm ct oc:Value}{an od:Option Addr}{osl:Array (Option Value)}{fvs:List V}{sp:Sp}
  (lk:base.get? f=some ⟨oc,od,.func (PySem.W.fnX name qual params body scope cl dV kV doc pm an cd ct),osl⟩) (S:FnScopeC N ps Fr scope) (C:CloAt base cl Fr fvs)
  (len:∀vs H Q E,sp vs H Q E->vs.length=ps.length) (hcd:∀vs H Q E (h:Heap),sp vs H Q E->HOk P w H h->h.CodeRec cd qual)
  (hbody:∀(A:Around) (outer:List Env) (s:Shared) (H:Hp) (vs:List V) (Q:VK) (E:XK),Room k (A.deeper (PySem.W.envX qual scope s.heap.objs.size f cd cl))->sp vs H Q E ->
   ∃t,PSs (cxOfC CX0 P w K mg base N qual scope f cd cl A outer s H E).nox body t/\t {nx:=fun _ H'=>Q .non H',rt:=Q} (startC N vs fvs) H) :
  FnOk P w K mg base CX0 (k+1) f (PySem.W.fnX name qual params body scope cl dV kV doc pm an cd ct) ps sp :=
 fn_ofC lk S C len hcd fun A outer s H vs Q E hr h=>let⟨t,h1,h2⟩:=hbody A outer s H vs Q E hr h;⟨t,h1.nox,h2⟩
theorem cxC_K{X0:CXT}{P:Program}{w:World}{K:PySem.W.Frag}{mg:Str->Option Value}{base:Heap}{N:List Str}{qual:Str}{scope:Scope}{f:Addr}{cd:Value}{cl:List (Str×Addr)}{A:Around}{outer:List Env}{s:Shared}{H:Hp}{E:XK}:(cxOfC X0 P w K mg base N qual scope f cd cl A outer s H E).nox.K=K:=rfl
theorem cxC_K0{X0:CXT}{P:Program}{w:World}{K:PySem.W.Frag}{mg:Str->Option Value}{base:Heap}{N:List Str}{qual:Str}{scope:Scope}{f:Addr}{cd:Value}{cl:List (Str×Addr)}{A:Around}{outer:List Env}{s:Shared}{H:Hp}{E:XK}:(cxOfC X0 P w K mg base N qual scope f cd cl A outer s H E).K=K:=rfl
theorem cut_last(xs:List V):cutV xs none (some (-1))=xs.dropLast:=by
 rcases List.eq_nil_or_concat xs with rfl|⟨ys,y,rfl⟩
 ·rfl
 ·have h:(-1+(((ys.length:Nat):Int)+1)).toNat=ys.length:=by omega
  rw[List.concat_eq_append,List.dropLast_concat]
  unfold cutV HT.sIx
  simp
  rw[h]
  simp
theorem rps_init{K:PySem.W.Frag}{H:Hp}:∀{ts:List T}{us:List V},Rps K H ts us->Rps K H ts.dropLast us.dropLast
 | [],us,h=>by obtain rfl:=h.inv0;exact .nil
 | [t],us,h=>by
  obtain⟨u,q,rfl,g,r⟩:=h.inv
  obtain rfl:=r.inv0
  exact .nil
 |t::t2::r,us,h=>by
  obtain⟨u,q,rfl,g,rs⟩:=h.inv
  obtain⟨u2,q2,rfl,g2,rs2⟩:=id rs.inv
  exact .cons g (rps_init rs)
theorem szs_init:∀l:List Th,szs l.dropLast<=szs l
 | []=>Nat.le_refl _
 | [x]=>Nat.zero_le _
 |x::y::r=>by
  have:=szs_init (y::r)
  simp only[List.dropLast_cons₂,szs]at this⊢
  omega
section
variable {P:Program}{w:World}{K:PySem.W.Frag}{mg:Str->Option Value}{base:Heap}{c:Addr}{q:Str}{ov:V}{o:Th}
theorem nm_L_spoilt_L_put:Nm ["_law_one","_law_made","_law_form","_law_other","_law_t"] (defScope s_L_spoilt_L_put):=by decide +kernel
theorem sc_L_spoilt_L_put:FnScopeC ["_law_one","_law_made","_law_form","_law_other","_law_t"] ["_law_one"] ["_law_form","_law_other","_law_t"] (defScope s_L_spoilt_L_put):=⟨rfl,rfl,rfl,by decide +kernel,rfl,rfl,by decide,by decide +kernel,by decide +kernel,by decide +kernel,by decide +kernel⟩
theorem ok_put{f c:Addr}{cl:List (Str×Addr)}{kV doc pm ct oc:Value}{an od:Option Addr}{osl:Array (Option Value)}{fm:Int}{tn:Str}{qual:Str}(z_min:mg "min"=none)
  (lk:base.get? f=some ⟨oc,od,.func (PySem.W.fnX "_law_put" qual (defArgs s_L_spoilt_L_put) (defBody s_L_spoilt_L_put) (defScope s_L_spoilt_L_put) cl .none kV doc pm an (.ref c) ct),osl⟩) (C:CloAt base cl ["_law_form","_law_other","_law_t"] [.int fm,ov,.str tn]) (f0:0<=fm) (f1:fm<8) (hoz:o.sz<=4000000) :
  FnOk P w K mg base CX0 1 f (PySem.W.fnX "_law_put" qual (defArgs s_L_spoilt_L_put) (defBody s_L_spoilt_L_put) (defScope s_L_spoilt_L_put) cl .none kV doc pm an (.ref c) ct) ["_law_one"] (spPut K c qual ov o):=by
 refine fn_ofC0 lk sc_L_spoilt_L_put C (fun vs H Q E h=>?_) (fun vs H Q E h9 h hok=>?_) (fun A outer s H vs Q E hr h=>?_)
 ·obtain⟨_,_,rfl,_⟩:=h
  rfl
 ·obtain⟨_,_,_,_,_,hc,_⟩:=h
  exact codeX_rec hok hc
 obtain⟨v,x,rfl,rx,ro,hc,hz,k⟩:=h
 refine⟨_,(@pss_cons _ _ _ _ _ (@ps_set _ _ (1) _ _ _ _ sc_L_spoilt_L_put.nd rfl (Or.inl rfl) (@pe_lst _ _ _ _ (@pa_c _ _ _ _ _ (@pe_tup _ _ _ _ _ (pa_c pe_str (pa_c pe_int pa_nil))) (@pa_c _ _ _ _ _ (@pe_tup _ _ _ _ _ (@pa_c _ _ _ _ _ pe_str (pa_c (pe_tup pa_nil) pa_nil) (by rfl))) (@pa_c _ _ _ _ _ (@pe_tup _ _ _ _ _ (@pa_c _ _ _ _ _ pe_str (@pa_c _ _ _ _ _ (@pe_tup _ _ _ _ _ (pa_c (va nm_L_spoilt_L_put 0) pa_nil)) pa_nil (by rfl)) (by rfl))) (@pa_c _ _ _ _ _ (va nm_L_spoilt_L_put 3) (@pa_c _ _ _ _ _ (va nm_L_spoilt_L_put 3) (pa_c (va nm_L_spoilt_L_put 3) pa_nil) (by rfl)) (by rfl)) (by rfl)) (by rfl)) (by rfl))) (by kernel_rfl) (Or.inr rfl)) (@pss_cons _ _ _ _ _ (@ps_if _ _ _ _ _ _ _ _ (PW.pt (@pw_and _ _ _ _ _ _ _ (@pt_cmpR _ _ _ _ _ _ _ _ op_eq (pe_ix ix_tup (va nm_L_spoilt_L_put 0) pe_int (fun _ _=>rfl)) pe_str (nomark _)) (@pw_and1 _ _ _ _ (pt_cmpR op_gt (va nm_L_spoilt_L_put 2) pe_int (nomark _))))) (@pss_one _ _ _ (@ps_set _ _ (1) _ _ _ _ sc_L_spoilt_L_put.nd rfl (Or.inl rfl) (@pe_op _ _ _ _ _ _ _ _ op_cat (@pe_op _ _ _ _ _ _ _ _ op_rep (@pe_lst _ _ _ _ (@pa_c _ _ _ _ _ (@pe_tup _ _ _ _ _ (@pa_c _ _ _ _ _ pe_str (@pa_c _ _ _ _ _ (va nm_L_spoilt_L_put 4) (@pa_c _ _ _ _ _ (pe_ix ix_tup (va nm_L_spoilt_L_put 0) pe_int (fun _ _=>rfl)) pa_nil (by rfl)) (by rfl)) (by rfl))) pa_nil (by rfl))) pe_int) (@pe_lst _ _ _ _ (@pa_c _ _ _ _ _ (@pe_op _ _ _ _ _ _ _ _ op_catTA (pe_slice sl_tupA (va nm_L_spoilt_L_put 0) po_none (po_some pe_int)) (@pe_tup _ _ _ _ _ (@pa_c _ _ _ _ _ (@pe_op _ _ _ _ _ _ _ _ op_catTA (pe_ix ix_tup (va nm_L_spoilt_L_put 0) pe_int (fun _ _=>rfl)) (@pe_tup _ _ _ _ _ (pa_c (va nm_L_spoilt_L_put 3) pa_nil))) pa_nil (by rfl)))) pa_nil (by rfl)))) (by kernel_rfl) (Or.inr rfl))) pss_nil) (@pss_cons _ _ _ _ _ (@ps_if _ _ _ _ _ _ _ _ (PW.pt (@pw_and _ _ _ _ _ _ _ (@pt_cmpR _ _ _ _ _ _ _ _ op_ne (pe_ix ix_tup (va nm_L_spoilt_L_put 0) pe_int (fun _ _=>rfl)) pe_str (nomark _)) (@pw_and1 _ _ _ _ (pt_cmpR op_gt (va nm_L_spoilt_L_put 2) pe_int (nomark _))))) (@pss_one _ _ _ (@ps_ret _ _ _ _ (@pe_op _ _ _ _ _ _ _ _ op_catTA (@pe_slice _ _ _ _ _ _ _ _ _ _ sl_tupA (va nm_L_spoilt_L_put 0) po_none (po_some (pe_un un_neg pe_int))) (@pe_tup _ _ _ _ _ (@pa_c _ _ _ _ _ (@pe_ix _ _ _ _ _ _ _ ix_list (@pe_lst _ _ _ _ (@pa_c _ _ _ _ _ (@pe_slice _ _ _ _ _ _ _ _ _ _ sl_tupA (pe_ix ix_tup (va nm_L_spoilt_L_put 0) (pe_un un_neg pe_int) (fun _ _=>rfl)) po_none (po_some (pe_un un_neg pe_int))) (@pa_c _ _ _ _ _ (@pe_op _ _ _ _ _ _ _ _ op_catTA (pe_ix ix_tup (va nm_L_spoilt_L_put 0) (pe_un un_neg pe_int) (fun _ _=>rfl)) (@pe_tup _ _ _ _ _ (pa_c (va nm_L_spoilt_L_put 3) pa_nil))) pa_nil (by rfl)) (by rfl))) (pe_op op_mod (va nm_L_spoilt_L_put 2) pe_int) (fun _ _=>rfl)) pa_nil (by rfl)))))) pss_nil) (@pss_one _ _ _ (@ps_ret _ _ _ _ (@pe_ix _ _ _ _ _ _ _ ix_list (va nm_L_spoilt_L_put 1) (@pe_callB _ _ _ _ _ _ _ _ _ (call_min2 rfl) (by show _=_;kernel_rfl) z_min PyProof.Rows.boot_min (pa_c (va nm_L_spoilt_L_put 2) (pa_c pe_int pa_nil)) (by decide) (by decide) (by rfl) (by rfl)) (fun _ _=>rfl))))))),?_⟩
 try dsimp only[cx_K]
 try dsimp only[cxC_K,cxC_K0]
 refine seq_cut3 ?_
 intro N1 N2 N3 c1 c2 c3
 have last:∀(l:Addr) (H':Hp) (us:List V) (ys:List Th),Same H H'->H' l=some (.lst us)->Rps K H' (ys.map thT) us->ys.length=6->(∀y∈ys,y.sz<=x.sz+o.sz+2/\y.dp<=x.dp+o.dp+2)->N3 [some v,some (.ref l),some (.int fm),some ov,some (.str tn)] H':=by
  intro l H' us ys s' hl rs ly hy
  have hq:(min fm 5).toNat<ys.length:=by omega
  obtain⟨u,hu,ru⟩:=rs.get (i:=(min fm 5).toNat) (x:=thT ys[(min fm 5).toNat]) (by rw[List.getElem?_map,List.getElem?_eq_getElem hq];rfl)
  have aq:atI us (if 5<fm then 5 else fm)=some u:=by
   have:=atI_nat hu
   rw[show(((min fm 5).toNat:Nat):Int)=(if 5<fm then 5 else fm) by split<;>omega]at this
   exact this
  clear c1 c2
  fail "R"
  obtain⟨y1,y2⟩:=hy _ (List.getElem_mem hq)
  exact k u H' _ s' ru y1 y2
 have sec:∀(l:Addr) (H':Hp) (us:List V) (ys:List Th),Same H H'->H' l=some (.lst us)->Rps K H' (ys.map thT) us->ys.length=6->(∀y∈ys,y.sz<=x.sz+o.sz+2/\y.dp<=x.dp+o.dp+2)->N2 [some v,some (.ref l),some (.int fm),some ov,some (.str tn)] H':=by
  intro l H' us ys s' hl rs ly hy
  have lst:=last l H' us ys s' hl rs ly hy
  clear c1 c3 last
  have rx':=rx.same s'
  rcases th_cases x with⟨m,rfl⟩|hn
  ·obtain⟨ta,t1,t2,rfl,tsq,g1,g2⟩:=(show Rp K H' (.t [.s "num",.i m]) v from(by rw[thT]at rx';exact rx')).t2
   obtain rfl:=g1.inv_s
   fail "R"
   exact lst
  ·obtain⟨ta,hs,la,ks,rfl,tsq,lhs,e1,ecut,lsq,krs,⟨hd',e0,hne⟩,mkT⟩:=th_open2 hn rx'
   obtain⟨esz,edp⟩:=th_kids hn
   fail "R"
   refine ite2 (fun c=>?_) (fun c=>?_)
   ·fail "R"
    refine ite2 (fun c=>?_) (fun c=>?_)
    ·fail "R"
     intro p1 H1 s1 sq1
     rw[ecut]at sq1
     have lsq1:=lsq.same s1
     have tsq1:=tsq.same s1
     fail "R"
     intro p2 H2 s2 sq2
     have lsq2:=lsq1.same s2
     have tsq2:=tsq1.same s2
     fail "R"
     intro p3 hp3
     have s3:=same_new hp3 (.tup [ov])
     have h3:upd H2 p3 (.tup [ov]) p3=some (.tup [ov]):=upd_same
     generalize upd H2 p3 (.tup [ov])=H3 at s3 h3⊢
     have lsq3:=lsq2.same s3
     have o3:SqT K H3 p3 [ov]:=SqT.of h3
     have lks:=krs.length
     rw[List.length_map]at lks
     have hkl:=szs_len (kids x)
     have z3:ks.length+1<=sizeLine:=Nat.le_trans (by omega) (show 4000001<=sizeLine by decide)
     fail "R"
     intro p4 H4 s4 sq4
     fail "R"
     intro p5 hp5
     have s5:=same_new hp5 (.lst [.ref p2,.ref p4])
     have h5:upd H4 p5 (.lst [.ref p2,.ref p4]) p5=some (.lst [.ref p2,.ref p4]):=upd_same
     generalize upd H4 p5 (.lst [.ref p2,.ref p4])=H5 at s5 h5⊢
     have s25:=(s3.trans s4).trans s5
     have s15:=(s1.trans s2).trans s25
     have sq45:=sq4.same s5
     have sq25:=sq2.same s25
     have krs5:=krs.same s15
     have ro5:=ro.same (s'.trans s15)
     obtain⟨lx,us',ks',hlx,sqx,rkx,zx,dx⟩:∃(lx:Addr) (us':List V) (ks':List Th),atI [V.ref p2,V.ref p4] (fm % 2)=some (.ref lx)/\SqT K H5 lx us'/\Rps K H5 (ks'.map thT) us'/\szs ks'<=szs (kids x)+o.sz/\dps' ks'<=dps' (kids x)+o.dp:=by
      have:fm % 2=0\/fm % 2=1:=by omega
      rcases this with e|e
      ·rw[e]
       refine⟨p2,_,(kids x).dropLast,rfl,sq25,?_,?_,?_⟩
       ·rw[cut_last,List.map_dropLast];exact rps_init krs5
       ·exact Nat.le_trans (szs_init _) (by omega)
       ·exact dps_le fun y hy=>Nat.le_trans (dps_mem ((List.dropLast_sublist _).subset hy)) (by omega)
      ·rw[e]
       refine⟨p4,_,kids x++[o],rfl,sq45,?_,?_,?_⟩
       ·rw[List.map_append];exact krs5.snoc ro5
       ·rw[szs_app];simp only[szs];omega
       ·exact dps_le fun y hy=>by
         rcases List.mem_append.mp hy with h|h
         ·exact Nat.le_trans (dps_mem h) (by omega)
         ·rw[List.mem_singleton.mp h];omega
     have hm2:(0:Int)<2:=by decide
     fail "R"
     intro p6 hp6
     have s6:=same_new hp6 (.tup [.ref lx])
     have h6:upd H5 p6 (.tup [.ref lx]) p6=some (.tup [.ref lx]):=upd_same
     generalize upd H5 p6 (.tup [.ref lx])=H6 at s6 h6⊢
     have t6:SqT K H6 p6 [.ref lx]:=SqT.of h6
     have sq16:=sq1.same ((s2.trans s25).trans s6)
     have z6:hs.length+1<=sizeLine:=small (by omega)
     fail "R"
     intro p7 H7 s7 sq7
     obtain⟨w1,w2⟩:=wk_sz (t:=x) ks' hn
     exact k _ H7 (wk x ks') (((s'.trans s15).trans s6).trans s7) (mkT H7 p7 lx us' ks' sq7 (sqx.same (s6.trans s7)) (rkx.same (s6.trans s7))) (by omega) (by omega)
    ·fail "R"
     exact lst
   ·exact absurd (by simpa using c) hne
 clear c2 c3
 fail "R"
 intro p1 hp1
 have s1:=same_new hp1 (.tup [.str "num",.int 7])
 have h1:upd H p1 (.tup [.str "num",.int 7]) p1=some (.tup [.str "num",.int 7]):=upd_same
 generalize upd H p1 (.tup [.str "num",.int 7])=H1 at s1 h1⊢
 fail "R"
 intro p2 hp2
 have s2:=same_new hp2 (.tup [])
 have h2:upd H1 p2 (.tup []) p2=some (.tup []):=upd_same
 generalize upd H1 p2 (.tup [])=H2 at s2 h2⊢
 fail "R"
 intro p3 hp3
 have s3:=same_new hp3 (.tup [.str "row",.ref p2])
 have h3:upd H2 p3 (.tup [.str "row",.ref p2]) p3=some (.tup [.str "row",.ref p2]):=upd_same
 generalize upd H2 p3 (.tup [.str "row",.ref p2])=H3 at s3 h3⊢
 fail "R"
 intro p4 hp4
 have s4:=same_new hp4 (.tup [v])
 have h4:upd H3 p4 (.tup [v]) p4=some (.tup [v]):=upd_same
 generalize upd H3 p4 (.tup [v])=H4 at s4 h4⊢
 fail "R"
 intro p5 hp5
 have s5:=same_new hp5 (.tup [.str "row",.ref p4])
 have h5:upd H4 p5 (.tup [.str "row",.ref p4]) p5=some (.tup [.str "row",.ref p4]):=upd_same
 generalize upd H4 p5 (.tup [.str "row",.ref p4])=H5 at s5 h5⊢
 fail "R"
 intro p6 hp6
 have s6:=same_new hp6 (.lst [.ref p1,.ref p3,.ref p5,ov,ov,ov])
 have h6:upd H5 p6 (.lst [.ref p1,.ref p3,.ref p5,ov,ov,ov]) p6=some (.lst [.ref p1,.ref p3,.ref p5,ov,ov,ov]):=upd_same
 generalize upd H5 p6 (.lst [.ref p1,.ref p3,.ref p5,ov,ov,ov])=H6 at s6 h6⊢
 have s46:=(s5.trans s6)
 have s36:=s4.trans s46
 have s26:=s3.trans s36
 have s16:=s2.trans s26
 have s06:=s1.trans s16
 have rx6:=rx.same s06
 have ro6:=ro.same s06
 have r1:Rp K H6 (thT (.num 7)) (.ref p1):=by rw[thT];exact Rp.t (SqT.of (s16 _ _ h1)) (.cons .s (.one .i))
 have r2:Rp K H6 (thT (.row [])) (.ref p3):=by rw[thT];exact Rp.t (SqT.of (s36 _ _ h3)) (.cons .s (.one (Rp.t (SqT.of (s26 _ _ h2)) .nil)))
 have r3:Rp K H6 (thT (.row [x])) (.ref p5):=by rw[thT];exact Rp.t (SqT.of (s6 _ _ h5)) (.cons .s (.one (Rp.t (SqT.of (s46 _ _ h4)) (.one rx6))))
 have go:=sec p6 H6 _ [.num 7,.row [],.row [x],o,o,o] s06 h6 (.cons r1 (.cons r2 (.cons r3 (.cons ro6 (.cons ro6 (.one ro6)))))) rfl (fun y hy=>by
  have:=x.sz1
  have:=o.sz1
  simp only[List.mem_cons,List.not_mem_nil,or_false]at hy
  rcases hy with e|e|e|e|e|e<;>rw[e]<;>(refine⟨?_,?_⟩<;>(try simp only[Th.sz,Th.dp,szs,dps',Nat.max_zero])<;>omega))
 cases x with
 |num m =>
  clear last sec
  obtain⟨ta,t1,t2,rfl,tsq,g1,g2⟩:=(show Rp K H6 (.t [.s "num",.i m]) v from(by rw[thT]at rx6;exact rx6)).t2
  obtain rfl:=g1.inv_s
  fail "R"
  exact go
 |row l =>
  clear last sec
  obtain⟨ta,t1,t2,rfl,tsq,g1,g2⟩:=(show Rp K H6 (.t [.s "row",.t (thTs l)]) v from(by rw[thT]at rx6;exact rx6)).t2
  obtain rfl:=g1.inv_s
  fail "R"
  exact go
 |tag yn l =>
  obtain⟨ta,t1,t2,t3,rfl,tsq,g1,g2,g3⟩:=(show Rp K H6 (.t [.s "tag",.s yn,.t (l.map thT)]) v from(by rw[thT,thTs_eq]at rx6;exact rx6)).t3
  obtain rfl:=g1.inv_s
  obtain rfl:=g2.inv_s
  obtain⟨la,ks,rfl,lsq,krs⟩:=g3.inv_t
  clear last
  fail "R"
  refine ite2 (fun c=>?_) (fun c=>?_)
  ·clear go
   fail "R"
   intro p7 hp7
   have s7:=same_new hp7 (.tup [.str "tag",.str tn,.ref la])
   have h7:upd H6 p7 (.tup [.str "tag",.str tn,.ref la]) p7=some (.tup [.str "tag",.str tn,.ref la]):=upd_same
   generalize upd H6 p7 (.tup [.str "tag",.str tn,.ref la])=H7 at s7 h7⊢
   fail "R"
   intro p8 hp8
   have s8:=same_new hp8 (.lst [.ref p7])
   have h8:upd H7 p8 (.lst [.ref p7]) p8=some (.lst [.ref p7]):=upd_same
   generalize upd H7 p8 (.lst [.ref p7])=H8 at s8 h8⊢
   have l8:[V.ref p7].length*(5:Int).toNat<=sizeLine:=small (show 5<=1000 by decide)
   fail "R"
   intro p9 hp9
   have s9:=same_new hp9 (.lst (List.replicate (5:Int).toNat [V.ref p7]).flatten)
   have h9:upd H8 p9 (.lst (List.replicate (5:Int).toNat [V.ref p7]).flatten) p9=some (.lst (List.replicate (5:Int).toNat [V.ref p7]).flatten):=upd_same
   generalize upd H8 p9 (.lst (List.replicate (5:Int).toNat [V.ref p7]).flatten)=H9 at s9 h9⊢
   have s79:=s8.trans s9
   have s69:=s7.trans s79
   have tsq9:=tsq.same s69
   fail "R"
   intro p10 H10 s10 sq10
   have s610:=s69.trans s10
   have tsq10:=tsq.same s610
   fail "R"
   intro p11 hp11
   have s11:=same_new hp11 (.tup [ov])
   have h11:upd H10 p11 (.tup [ov]) p11=some (.tup [ov]):=upd_same
   generalize upd H10 p11 (.tup [ov])=H11 at s11 h11⊢
   have s611:=s610.trans s11
   have lsq11:=lsq.same s611
   have o11:SqT K H11 p11 [ov]:=SqT.of h11
   have lks:=krs.length
   rw[List.length_map]at lks
   have hkl:=szs_len l
   simp only[Th.sz]at hz
   have z3:ks.length+1<=sizeLine:=Nat.le_trans (by omega) (show 4000001<=sizeLine by decide)
   fail "R"
   intro p12 H12 s12 sq12
   fail "R"
   intro p13 hp13
   have s13:=same_new hp13 (.tup [.ref p12])
   have h13:upd H12 p13 (.tup [.ref p12]) p13=some (.tup [.ref p12]):=upd_same
   generalize upd H12 p13 (.tup [.ref p12])=H13 at s13 h13⊢
   have t13:SqT K H13 p13 [.ref p12]:=SqT.of h13
   have sq13:SqT K H13 p10 [.str "tag",.str yn]:=sq10.same ((s11.trans s12).trans s13)
   fail "R"
   intro p14 H14 s14 sq14
   fail "R"
   intro p15 hp15
   have s15:=same_new hp15 (.lst [.ref p14])
   have h15:upd H14 p15 (.lst [.ref p14]) p15=some (.lst [.ref p14]):=upd_same
   generalize upd H14 p15 (.lst [.ref p14])=H15 at s15 h15⊢
   have s1015:=((((s11.trans s12).trans s13).trans s14).trans s15)
   have h915:=(s10.trans s1015) _ _ h9
   have z15:(List.replicate (5:Int).toNat [V.ref p7]).flatten.length+[V.ref p14].length<=sizeLine:=small (show 6<=1000 by decide)
   fail "R"
   intro p16 hp16
   have s16:=same_new hp16 (.lst ((List.replicate (5:Int).toNat [V.ref p7]).flatten++[V.ref p14]))
   have h16:upd H15 p16 (.lst ((List.replicate (5:Int).toNat [V.ref p7]).flatten++[V.ref p14])) p16=some (.lst ((List.replicate (5:Int).toNat [V.ref p7]).flatten++[V.ref p14])):=upd_same
   generalize upd H15 p16 (.lst ((List.replicate (5:Int).toNat [V.ref p7]).flatten++[V.ref p14]))=H16 at s16 h16⊢
   have s616:=(s610.trans s1015).trans s16
   have krs16:=krs.same s616
   have r7:Rp K H16 (thT (.tag tn l)) (.ref p7):=by
    rw[thT,thTs_eq]
    exact Rp.t (SqT.of ((((s79.trans s10).trans s1015).trans s16) _ _ h7)) (.cons .s (.cons .s (.one (Rp.t (lsq.same s616) krs16))))
   have r14:Rp K H16 (thT (.tag yn (l++[o]))) (.ref p14):=by
    rw[thT,thTs_eq,List.map_append]
    exact Rp.t (sq14.same (s15.trans s16)) (.cons .s (.cons .s (.one (Rp.t (sq12.same (((s13.trans s14).trans s15).trans s16)) (krs16.snoc (ro6.same s616))))))
   refine sec p16 H16 _ [.tag tn l,.tag tn l,.tag tn l,.tag tn l,.tag tn l,.tag yn (l++[o])] (s06.trans s616) h16 (.cons r7 (.cons r7 (.cons r7 (.cons r7 (.cons r7 (.one r14)))))) rfl (fun y hy=>?_)
   have hd1:=dps_le (l:=l++[o]) (b:=dps' l+o.dp) fun y hy=>by
    rcases List.mem_append.mp hy with h|h
    ·exact Nat.le_trans (dps_mem h) (by omega)
    ·rw[List.mem_singleton.mp h];omega
   have:=szs_app l [o]
   simp only[szs]at this
   simp only[List.mem_cons,List.not_mem_nil,or_false]at hy
   rcases hy with e|e|e|e|e|e<;>rw[e]<;>(refine⟨?_,?_⟩<;>(try simp only[Th.sz,Th.dp])<;>omega)
  ·clear sec
   fail "R"
   exact go
end
end G24
namespace PySem
open PySem PySem.Spec PySem.AutoSeq1
set_option maxRecDepth 8000 in
theorem list_extend_tupS(l:Addr)(items:Array Value)(n:Nat)(b:Addr)(items2:Array Value)(n2:Nat)(od:Option Addr)(sl:Array (Option Value))(hs0:¬(!items.isEmpty&&Builtin.List.listTooLong (items.size+items2.size))=true)(hs1:items.size<=sizeLine)(hs2:items.size+items2.size<=sizeLine+1) :
  Meets (Builtin.«list.extend» ⟨[.ref l,.ref b],[]⟩) (fun _ R s=>s.heap.get? l=some {cls:=.type "list",dict:=none,data:=.seq items n,slots:=#[]}/\s.heap.get? b=some {cls:=.type "tuple",dict:=od,data:=.seq items2 n2,slots:=sl}/\R (.ok (.ret Value.none)) {s with heap:=s.heap.update l (Obj.mapSeq fun x=>x++items2),toks:=s.toks}) :=
 .of_wp fun prog w A R s h=>by
  obtain⟨hp,g,d,tk,os⟩:=s;obtain⟨hl,hb,h⟩:=h;have f1:=idx_int;have f2:=sub_tuple_tuple;have f3:=sub_list_list;have f4:=sub_tuple_list;have f5:=sub_list_tuple;
  have hz':(items++items2).size<=sizeLine+1:=by rw[Array.size_append];exact hs2
  wp_walk using(wpAny_updateSeq hl rfl (hz:=hs1) (_hz':=hz')),wpAny_loadPart' hl,wpAny_loadPart' hb;exact⟨_,rfl,h⟩
end PySem
namespace L2
open PySem PySem.Spec PyProof.Rows
def rExtendT(K:PySem.W.Frag):V->List V->Hp->VK->Prop:=fun x vs H Q=>∃l b xs zs,x=.ref l/\vs=[.ref b]/\H l=some (.lst xs)/\SqT K H b zs/\xs.length+zs.length<=sizeLine/\Q .non (upd H l (.lst (xs++zs)))
theorem mt_extendT{X:Cx}:MtM X "list.extend" (rExtendT X.K):=by
 intro pins s σ H x vs v us Q I rx rv h
 obtain⟨l,b,xs,zs,rfl,rfl,hH,hB,hz,q⟩:=h
 cases rx
 obtain⟨u,rfl,ru⟩:=rv.one
 cases ru
 obtain⟨z,its,n,r,hl,e⟩:=I.lstM hH
 obtain⟨its2,r2,ht,hz2⟩:=I.tuple hB
 have l1:=r.length
 have l2:=r2.length
 have hsz:its.toArray.size+its2.toArray.size<=sizeLine:=by rw[List.size_toArray,List.size_toArray];omega
 have hlong:¬(!its.toArray.isEmpty&&Builtin.List.listTooLong (its.toArray.size+its2.toArray.size))=true:=by
  rw[notLongL hsz,Bool.and_false]
  exact Bool.false_ne_true
 obtain⟨⟨oc,od,odt,osl⟩,e2,hc,n2,hd⟩:=ht
 have hc:oc=.type "tuple":=hc
 have hd:odt=.seq its2.toArray n2:=hd
 subst hc hd
 refine call_meets F.slot_list_extend ⟨_,e,rfl⟩ F.entry_list_extend (F.args_list_extend_2 _ _) (PySem.list_extend_tupS l its.toArray n b its2.toArray n2 od osl hlong (by rw[List.size_toArray];omega) (by omega)) ⟨e,e2,?_⟩
 refine⟨.non,_,I.lset (its':=its++its2) hH e (by simp) (r.append r2) ?_,rfl,q⟩
 rw[List.length_append]
 omega
end L2
namespace G24
open PySem L2 PySem.Spec PyProof.Rows
def pos0:Pos:=match s_L_spoilt_L_put with
 |.FunctionDef _ _ _ _ _ _ _ _ _ p=>p
 |_=>⟨0,0,0,0⟩
def spSpoilt(K:PySem.W.Frag)(Pt:Addr)(pos:Pos):Sp:=fun vs H Q _=>∃(f:Addr) (kv v:V) (kl:Kl) (t:Th),vs=[.ref f,kv,v]/\FeedAt H f/\Rp K H (kindsT kl) kv/\KG kl/\Rp K H (thT t) v/\t.sz<=30/\t.dp<=30/\TbAt H Pt pos "_law_spoilt.<locals>._law_put"/\Pt≠f /\
 ∀(v':V) (H':Hp) (y:Th),(∀b o,b≠f->b≠Pt->H b=some o->H' b=some o)->FeedAt H' f->TbAt H' Pt pos "_law_spoilt.<locals>._law_put"->Rp K H' (thT y) v'->y.sz<=1000000->y.dp<=60->Q v' H'
theorem fn_ex{α:Type}{P:Program}{w:World}{K:PySem.W.Frag}{mg:Str->Option Value}{base:Heap}{CX:CXT}{k:Nat}{f:Addr}{fd:FuncData}{ps:List Str}{p:α->Prop}{sp:α->Sp}(h:∀a,p a->FnOk P w K mg base CX k f fd ps (sp a)):FnOk P w K mg base CX k f fd ps (fun vs H Q E=>∃a,p a/\sp a vs H Q E) :=
 ⟨fun vs H Q E ⟨a,pa,q⟩=>(h a pa).len vs H Q E q,fun A outer s H args us vs Q E hr he hb hv ⟨a,pa,q⟩=>(h a pa).run A outer s H args us vs Q E hr he hb hv q⟩
def posR(i:Nat):Pos:=match(defBody s_L_spoilt).getD 8 (.Pass ⟨0,0,0,0⟩)with
 |.Return (some (.Call (.Name _ a) [.Name _ b,.Name _ c,.Name _ d] [] e)) g=>[a,b,c,d,e,g].getD i a
 |_=>⟨0,0,0,0⟩
theorem rows_put:(defBody s_L_spoilt).drop 7=[.FunctionDef "_law_put" (defArgs s_L_spoilt_L_put) (defBody s_L_spoilt_L_put) [] none [] (defScope s_L_spoilt_L_put) none "_law_put" pos0,.Return (some (.Call (.Name "_law_changed" (posR 0)) [.Name "_law_thing_here" (posR 1),.Name "_law_path" (posR 2),.Name "_law_put" (posR 3)] [] (posR 4))) (posR 5)]:=by kernel_rfl
abbrev qPut:Str:="_law_spoilt.<locals>._law_put"
theorem kt_grow{Pt:Addr}{pos:Pos}{q:Str}{H H':Hp}(tb:TbAt H Pt pos q)(g:Grow Pt H H'):Kt H H':=fun a zs r=>by
 have ne:a≠Pt:=fun z=>by
  rcases tb with t|⟨c,t,_⟩<;>rcases r with e|⟨o,e⟩<;>(rw[z,t]at e;cases e)
 rcases r with e|⟨o,e⟩
 ·exact .inl (g _ _ ne e)
 ·exact .inr ⟨o,g _ _ ne e⟩
section
variable {P:Program}{w:World}{K:PySem.W.Frag}{mg:Str->Option Value}{base:Heap}{gC Pt cd:Addr}{cfd:FuncData}
theorem nm_L_spoilt:Nm ["_law_feed_here","_law_kinds_here","_law_thing_here","_law_form","_law_other","_law_some","_law_name","_law_own","_law_t","_law_inner","_law_spots","_law_path","_law_put"] (defScope s_L_spoilt):=by decide +kernel
theorem lm_L_spoilt:Lm ["_law_feed_here","_law_kinds_here","_law_thing_here","_law_form","_law_other","_law_some","_law_name","_law_own","_law_t","_law_inner","_law_spots","_law_path","_law_put"] (defScope s_L_spoilt):=by decide +kernel
theorem sc_L_spoilt:FnScope ["_law_feed_here","_law_kinds_here","_law_thing_here","_law_form","_law_other","_law_some","_law_name","_law_own","_law_t","_law_inner","_law_spots","_law_path","_law_put"] ["_law_feed_here","_law_kinds_here","_law_thing_here"] (defScope s_L_spoilt):=⟨rfl,rfl,rfl,by decide +kernel,rfl,by decide +kernel,by decide +kernel⟩
theorem fr_1:∀x∈(defScope s_L_spoilt_L_put).names,x.2=.free->(defScope s_L_spoilt).names.lookup x.1=some .cell:=by decide +kernel
theorem fr_2:∀j∈[3,4,8],(defScope s_L_spoilt).names.lookup ((["_law_feed_here","_law_kinds_here","_law_thing_here","_law_form","_law_other","_law_some","_law_name","_law_own","_law_t","_law_inner","_law_spots","_law_path","_law_put"]:List Str).getD j Str.empty)=some .cell/\(defScope s_L_spoilt_L_put).names.lookup ((["_law_feed_here","_law_kinds_here","_law_thing_here","_law_form","_law_other","_law_some","_law_name","_law_own","_law_t","_law_inner","_law_spots","_law_path","_law_put"]:List Str).getD j Str.empty)=some .free:=by decide +kernel
theorem sp_put{f:Addr}{A:Around}{outer:List Env}{s:Shared}{H1 H:Hp}{E:XK}{D:Ends}{fe:Addr}{kv v ov pv:V}{fm:Int}{tn:Str}{o5 o6 o7 o9 o10 o12:Option V}{t o:Th}{ps:List Int}(hr:Room 45 (A.deeper (envOfC "_law_spoilt" (defScope s_L_spoilt) s.heap.objs.size f (.ref cd))))(hC:PySem.W.CodeHd base cd Pt)(B:BltB base mg)(z_min:mg "min"=none)(mC:mg "_law_changed"=some (.ref gC))(kC:PySem.W.keepIn K (.ref gC)=true)(bC:Binds K cfd ["_law_thing_here","_law_path","_law_put"] [])
  (CHG:∀(base':Heap) (fP c:Addr) (pfd:FuncData) (q:Str) (ov:V) (o:Th),HasF P w K mg base' 1 ["_law_one"] (spPut K c q ov o) fP pfd->FnOk P w K mg base' CX0 40 gC cfd ["_law_thing_here","_law_path","_law_put"] (spChg K 31 fP c q ov o))
  (tb:TbAt H Pt pos0 qPut) (rt:Rp K H (thT t) v) (rp:Rp K H (pathT ps) pv) (ha:At t ps) (hl:ps.length<31) (ro:Rp K H (thT o) ov) (hz:t.sz<=4000000) (hoz:o.sz<=4000000) (f0:0<=fm) (f1:fm<8)
  (k:∀(v':V) (H':Hp) (y:Th),Grow Pt H H'->TbAt H' Pt pos0 qPut->Rp K H' (thT y) v'->y.sz<=t.sz+o.sz+2->y.dp<=t.dp+o.dp+2->D.rt v' H') :
  tBlk (cxOf CX0 P w K mg base ["_law_feed_here","_law_kinds_here","_law_thing_here","_law_form","_law_other","_law_some","_law_name","_law_own","_law_t","_law_inner","_law_spots","_law_path","_law_put"] "_law_spoilt" (defScope s_L_spoilt) f (.ref cd) A outer s H1 E).nox ((defBody s_L_spoilt).drop 7) D [some (.ref fe),some kv,some v,some (.int fm),some ov,o5,o6,o7,some (.str tn),o9,o10,some pv,o12] H:=by
 rw[rows_put]
 refine blk_of (pss_defret (P:=Pt) (c:=cd) (g:=gC) (i:=12) (fr:=[3,4,8]) (k:=40) (fdg:=cfd) (psg:=["_law_thing_here","_law_path","_law_put"]) (sp:=fun f c fvs=>fun vs H Q E=>∃a:Int×V×Str×Th,(fvs=[.int a.1,a.2.1,.str a.2.2.1]/\0<=a.1/\a.1<8/\a.2.2.2.sz<=4000000)/\spChg K 31 f c qPut a.2.1 a.2.2.2 vs H Q E)
  rfl hC B (fun _=>rfl) sc_L_spoilt.nd rfl (by kernel_rfl) fr_1 fr_2 ?_ (hr.mono (by omega)) (by show _=_;kernel_rfl) mC kC bC (pa_c (va nm_L_spoilt 2) (pa_c (va nm_L_spoilt 11) (pa_c (va nm_L_spoilt 12) pa_nil)))) ?_
 ·intro base' fn c' doc ctv fvs lk C
  refine fn_ex fun a ⟨e,f0,f1,hz⟩=>?_
  subst e
  have lk':base'.get? fn=some ⟨.type "function",none,.func (PySem.W.fnX "_law_put" qPut (defArgs s_L_spoilt_L_put) (defBody s_L_spoilt_L_put) (defScope s_L_spoilt_L_put) (cellsFor (cxOf CX0 P w K mg base ["_law_feed_here","_law_kinds_here","_law_thing_here","_law_form","_law_other","_law_some","_law_name","_law_own","_law_t","_law_inner","_law_spots","_law_path","_law_put"] "_law_spoilt" (defScope s_L_spoilt) f (.ref cd) A outer s H1 E).nox.env (defScope s_L_spoilt_L_put).names []) .none .none doc ((mg "__name__").getD .none) none (.ref c') ctv),#[]⟩:=lk
  exact CHG base' fn c' _ qPut a.2.1 a.2.2.2 ⟨ok_put z_min lk' C f0 f1 hz,⟨_,_,_,_,lk'⟩,.all fun us hl=>match us,hl with|[_],_=>rfl⟩
 ·refine⟨tb,[.int fm,ov,.str tn],rfl,fun fn c' H2 tb2 gr=>?_⟩
  try dsimp only[cx_K]
  have ktg:Kt H H2:=kt_grow tb gr
  have rt2:=rt.kt ktg
  have rp2:=rp.kt ktg
  have ro2:=ro.kt ktg
  refine⟨_,rfl,_,rfl,_,rfl,(fm,ov,tn,o),⟨rfl,f0,f1,hoz⟩,v,pv,t,ps,rfl,rt2,rp2,ha,hl,ro2,tb2.2,hz,fun v' H' y s' r' z1 z2=>?_⟩
  exact k v' H' y (fun b o hb e=>s' _ _ (gr _ _ hb e)) (.inr ⟨c',s' _ _ tb2.1,s' _ _ tb2.2⟩) r' z1 z2
end
end G24
namespace G24
open PySem L2
structure SmI(K:PySem.W.Frag) (p7:Addr) (H6:Hp) (i:Nat) (H8:Hp):Prop where
 s:Same H6 H8
 l:∃(us:List V) (tg:List (Str×List Kk)),H8 p7=some (.lst us)/\Rps K H8 (tg.map tagT) us/\1<=tg.length/\tg.length<=1+3*i
theorem at_len:∀{t:Th}{r:List Int},At t r->r.length<=t.dp
 |_,_,.nil=>Nat.zero_le _
 |t,_,.cons (x:=x) hx h=>by
  have h1:=at_len h
  have h2:=dps_mem (List.mem_of_getElem? hx)
  have hn:∀m,t≠.num m:=fun m z=>by rw[z]at hx;simp[kids]at hx
  have:=(th_kids hn).2
  simp only[List.length_cons]
  omega
section
variable {P:Program}{w:World}{K:PySem.W.Frag}{mg:Str->Option Value}{base:Heap}{gT gA gH gP gC Pt cd:Addr}{tfd afd hfd pfd cfd:FuncData}
theorem ok_spoilt{f:Addr}{fd:FuncData}(F:FunC K "_law_spoilt" "_law_spoilt" s_L_spoilt f fd cd)(TK:Has P w K mg base "_law_take" 1 ["_law_feed_here","_law_many"] spTake gT tfd)(AK:Has P w K mg base "_law_any_kind" 4 ["_law_feed_here","_law_known","_law_down"] (spAnyKind K 3) gA afd)(TH:Has P w K mg base "_law_thing" 20 ["_law_feed_here","_law_kinds_here","_law_kind","_law_down"] (spThing K 12) gH hfd)(PLS:Has P w K mg base "_law_places" 40 ["_law_thing_here","_law_path"] (spPlaces K 31) gP pfd)(z_len:mg "len"=none)(hC:PySem.W.CodeHd base cd Pt)(B:BltB base mg)(z_min:mg "min"=none)(mC:mg "_law_changed"=some (.ref gC))(kC:PySem.W.keepIn K (.ref gC)=true)(bC:Binds K cfd ["_law_thing_here","_law_path","_law_put"] [])
  (CHG:∀(base':Heap) (fP c:Addr) (pfd:FuncData) (q:Str) (ov:V) (o:Th),HasF P w K mg base' 1 ["_law_one"] (spPut K c q ov o) fP pfd->FnOk P w K mg base' CX0 40 gC cfd ["_law_thing_here","_law_path","_law_put"] (spChg K 31 fP c q ov o)) :
  FnOk P w K mg base CX0 50 f fd ["_law_feed_here","_law_kinds_here","_law_thing_here"] (spSpoilt K Pt pos0):=by
 refine F.ok sc_L_spoilt (fun vs H Q E h=>?_) (fun A outer s H vs Q E hr h=>?_)
 ·obtain⟨_,_,_,_,_,rfl,_⟩:=h
  rfl
 obtain⟨fe,kv,v,kl,t,rfl,hf,rkv,hk,rt,hz,hd,tb,hpf,k⟩:=h
 refine⟨_,(@pss_cons _ _ _ _ _ (@sa _ _ _ _ _ _ sc_L_spoilt.nd lm_L_spoilt 3 (@pe_call _ _ _ _ _ _ _ _ _ _ _ _ _ _ _ _ TK.ok (hr.mono (by omega)) (by show _=_;kernel_rfl) TK.at' TK.kp TK.bd .nil pass0 (pa_c (va nm_L_spoilt 0) (pa_c pe_int pa_nil)) (by decide) (by rfl) (by rfl)) (by rfl) (by kernel_rfl) (by exact .inl rfl)) (@pss_cons _ _ _ _ _ (@sa _ _ _ _ _ _ sc_L_spoilt.nd lm_L_spoilt 4 (@pe_call _ _ _ _ _ _ _ _ _ _ _ _ _ _ _ _ TH.ok (hr.mono (by omega)) (by show _=_;kernel_rfl) TH.at' TH.kp TH.bd .nil pass0 (@pa_c _ _ _ _ _ (va nm_L_spoilt 0) (@pa_c _ _ _ _ _ (va nm_L_spoilt 1) (@pa_c _ _ _ _ _ (@pe_call _ _ _ _ _ _ _ _ _ _ _ _ _ _ _ _ AK.ok (hr.mono (by omega)) (by show _=_;kernel_rfl) AK.at' AK.kp AK.bd .nil pass0 (@pa_c _ _ _ _ _ (va nm_L_spoilt 0) (@pa_c _ _ _ _ _ (@pe_compC _ _ _ _ _ _ _ _ _ _ _ (defScope s_L_spoilt) ["_law_feed_here","_law_kinds_here","_law_thing_here","_law_form","_law_other","_law_some","_law_name","_law_own","_law_t","_law_inner","_law_spots","_law_path","_law_put"] ["_law_name","_law_tags"] [] rfl rfl rfl (by decide +kernel) (pi_tup (va nm_L_spoilt 1)) (fun _ _ _ _=>(@pg_tupK _ _ _ _ _ (2) K rfl rfl (@pgs_cons _ _ _ _ _ (pg_name (i:=0) (show(["_law_name","_law_tags"]:List Str).Nodup by decide +kernel) rfl (Or.inl (by kernel_rfl)) (by first|exact .inl rfl|exact .inr (by kernel_rfl))) (pgs_cons (pg_name (i:=1) (show(["_law_name","_law_tags"]:List Str).Nodup by decide +kernel) rfl (Or.inl (by kernel_rfl)) (by first|exact .inl rfl|exact .inr (by kernel_rfl))) pgs_nil) (by rfl)) (by rfl) (by rfl))) (fun _ _ _ _=>pifs_nil) (fun _ _ _ _=>(va (show Nm ["_law_name","_law_tags"] _ by show _=_;kernel_rfl) 0)) (by intro _;rfl)) (pa_c pe_int pa_nil) (by rfl)) (by rfl)) (by decide) (by rfl) (by rfl)) (pa_c pe_int pa_nil) (by rfl)) (by rfl)) (by rfl)) (by decide) (by rfl) (by rfl)) (by rfl) (by kernel_rfl) (by exact .inl rfl)) (@pss_cons _ _ _ _ _ (@sa _ _ _ _ _ _ sc_L_spoilt.nd lm_L_spoilt 5 (@pe_lst _ _ _ _ (@pa_c _ _ _ _ _ (@pe_tup _ _ _ _ _ (@pa_c _ _ _ _ _ pe_str (pa_c (pe_tup pa_nil) pa_nil) (by rfl))) pa_nil (by rfl))) (by rfl) (by kernel_rfl) (by exact .inl rfl)) (@pss_cons _ _ _ _ _ (@ps_for _ _ _ _ _ _ _ _ PassesOwn.never rfl (pi_tup (va nm_L_spoilt 1)) (@pg_tupK _ _ _ _ _ (2) K rfl rfl (@pgs_cons _ _ _ _ _ (ga sc_L_spoilt.nd lm_L_spoilt 6) (pgs_cons (ga sc_L_spoilt.nd lm_L_spoilt 7) pgs_nil) (by rfl)) (by rfl) (by rfl)) (@pss_one _ _ _ (@ps_expr _ _ _ _ (@pe_bm _ _ _ _ _ _ _ _ _ _ _ _ PySem.F.plainAttrs_list PySem.F.slot_list_extend PySem.F.type_list_extend mt_extendT (va nm_L_spoilt 5) (pa_c (va nm_L_spoilt 7) pa_nil) (by rfl) (by rfl) (by rfl) (by rfl) (by rfl)) (by rfl))) (by intro _;rfl)) (@pss_cons _ _ _ _ _ (@ps_asg _ _ _ _ _ _ (@pe_ix _ _ _ _ _ _ _ ix_list (va nm_L_spoilt 5) (@pe_call _ _ _ _ _ _ _ _ _ _ _ _ _ _ _ _ TK.ok (hr.mono (by omega)) (by show _=_;kernel_rfl) TK.at' TK.kp TK.bd .nil pass0 (@pa_c _ _ _ _ _ (va nm_L_spoilt 0) (@pa_c _ _ _ _ _ (@pe_callB _ _ _ _ _ _ _ _ _ call_len_seq (by show _=_;kernel_rfl) z_len PySem.boot_len (pa_c (va nm_L_spoilt 5) pa_nil) (by decide) (by decide) (by rfl) (by rfl)) pa_nil (by rfl)) (by rfl)) (by decide) (by rfl) (by rfl)) (fun _ _=>rfl)) (@pg_tupK _ _ _ _ _ (2) K rfl rfl (@pgs_cons _ _ _ _ _ (ga sc_L_spoilt.nd lm_L_spoilt 8) (pgs_cons (ga sc_L_spoilt.nd lm_L_spoilt 9) pgs_nil) (by rfl)) (by rfl) (by rfl)) (by rfl) (by rfl) (by rfl)) (@pss_cons _ _ _ _ _ (@sa _ _ _ _ _ _ sc_L_spoilt.nd lm_L_spoilt 10 (@pe_call _ _ _ _ _ _ _ _ _ _ _ _ _ _ _ _ PLS.ok (hr.mono (by omega)) (by show _=_;kernel_rfl) PLS.at' PLS.kp PLS.bd .nil pass0 (@pa_c _ _ _ _ _ (va nm_L_spoilt 2) (pa_c (pe_tup pa_nil) pa_nil) (by rfl)) (by decide) (by rfl) (by rfl)) (by rfl) (by kernel_rfl) (by exact .inl rfl)) (@pss_cons _ _ _ _ _ (@sa _ _ _ _ _ _ sc_L_spoilt.nd lm_L_spoilt 11 (@pe_ix _ _ _ _ _ _ _ ix_list (va nm_L_spoilt 10) (@pe_call _ _ _ _ _ _ _ _ _ _ _ _ _ _ _ _ TK.ok (hr.mono (by omega)) (by show _=_;kernel_rfl) TK.at' TK.kp TK.bd .nil pass0 (@pa_c _ _ _ _ _ (va nm_L_spoilt 0) (@pa_c _ _ _ _ _ (@pe_callB _ _ _ _ _ _ _ _ _ call_len_seq (by show _=_;kernel_rfl) z_len PySem.boot_len (pa_c (va nm_L_spoilt 10) pa_nil) (by decide) (by decide) (by rfl) (by rfl)) pa_nil (by rfl)) (by rfl)) (by decide) (by rfl) (by rfl)) (fun _ _=>rfl)) (by rfl) (by kernel_rfl) (by exact .inl rfl)) pss_blk))))))),?_⟩
 try dsimp only[cx_K]
 try dsimp only[cx_K]
 fail "R"
 intro fm H1 a0 a1 x1
 have hf1:=x1.2
 obtain⟨ka,kus,rfl,ksq,krs⟩:=(show Rp K H (.t (kl.map kinT)) kv from rkv).inv_t
 have kt1:=x1.kt hf
 have ksq1:=ksq.kt kt1
 have krs1:=krs.kt kt1
 have lku:=krs.length
 rw[List.length_map]at lku
 fail "R"
 refine comp_mapT (K:=K) (e:=kinT) (φ:=fun k=>[.s k.1]) (fun σ=>∃a b,σ=[a,b]) ksq1 krs1 (by have:=hk.len;omega) (fun _=>Nat.le_refl _) ⟨_,_,rfl⟩ ?_ ?_
 ·rintro p hp x _ H6 N s6 ⟨_,_,rfl⟩ rx kN
  obtain⟨xa,x1,x2,rfl,xsq,e1,e2⟩:=(show Rp K H6 (.t [.s p.1,.t (p.2.map tagT)]) x from rx).t2
  obtain rfl:=e1.inv_s
  fail "R"
  exact kN _ _ _ ⟨⟨_,_,rfl⟩,Same.refl _,.one .s⟩
 intro l2 H2 ws2 s2 hl2 h2 r2
 rw[fm_one,show(fun p:Str×List (Str×List Kk)=>T.s p.1)=T.s ∘ (·.1)from rfl,←List.map_map]at r2
 obtain rfl:=r2.strs_inv
 have x2:=x1.same s2
 have hf2:=x2.2
 have lns:(kl.map (·.1)).length<=100:=by rw[List.length_map];have:=hk.len;omega
 fail "R"
 intro kv3 H3 kk x3 rk3 kok kdep
 have x13:=x2.trans x3
 have hf3:=x13.2
 have rkv3:=rkv.kt (x13.kt hf)
 have hkr:rk (kl.map (·.1)) kk<12:=by
  have h1:=rk_ok (ns:=kl.map (·.1)) (i:=(kl.map (·.1)).length) (k:=kk) (by rw[List.take_length];exact kok)
  rw[List.length_map]at h1
  have:=hk.len
  have:kk.dep<=1:=kdep
  omega
 fail "R"
 intro ov H4 o x4 ro4 oz od
 have x14:=x13.trans x4
 have oz2:o.sz<=300000:=by
  have h1:3 ^ (rk (kl.map (·.1)) kk+1)<=3 ^ 12:=Nat.pow_le_pow_right (by decide) (by omega)
  have h2:(3:Nat) ^ 12=531441:=by decide
  omega
 fail "R"
 intro p5 hp5
 have s5:=same_new hp5 (.tup [])
 have h5:upd H4 p5 (.tup []) p5=some (.tup []):=upd_same
 generalize upd H4 p5 (.tup [])=H5 at s5 h5⊢
 fail "R"
 intro p6 hp6
 have s6:=same_new hp6 (.tup [.str "qqqqqq",.ref p5])
 have h6:upd H5 p6 (.tup [.str "qqqqqq",.ref p5]) p6=some (.tup [.str "qqqqqq",.ref p5]):=upd_same
 generalize upd H5 p6 (.tup [.str "qqqqqq",.ref p5])=H6 at s6 h6⊢
 fail "R"
 intro p7 hp7
 have s7:=same_new hp7 (.lst [.ref p6])
 have h7:upd H6 p7 (.lst [.ref p6]) p7=some (.lst [.ref p6]):=upd_same
 generalize upd H6 p7 (.lst [.ref p6])=H7 at s7 h7⊢
 have x16:=(x14.same s5).same s6
 have n7:p7≠fe:=fun z=>by obtain⟨a,b,e⟩:=x16.2;rw[←z,hp7]at e;cases e
 have r6:Rp K H7 (tagT ("qqqqqq",[])) (.ref p6):=Rp.t (SqT.of (s7 _ _ h6)) (.cons .s (.one (Rp.t (SqT.of ((s6.trans s7) _ _ h5)) .nil)))
 have kt6:=x16.kt hf
 have ksq7:=(ksq.kt kt6).same s7
 fail "R"
 refine for_tup (K:=K) (xs:=kus) (fun i σ H8=>(∃y6 y7,σ=[some (.ref fe),some (.ref ka),some v,some (.int fm),some ov,some (.ref p7),y6,y7,none,none,none,none,none])/\SmI K p7 H6 i H8) ⟨⟨_,_,rfl⟩,s7,[.ref p6],[("qqqqqq",[])],h7,.one r6,by decide,by decide⟩ ?_ ?_ ?_
 ·rintro i σ H8 hi ⟨_,i8⟩
  exact(ksq.kt kt6).same i8.s
 ·rintro i xv σ H8 hxv ⟨⟨y6,y7,rfl⟩,i8⟩
  obtain⟨s8,us8,tg8,h8,r8,t1,t2⟩:=i8
  obtain⟨k0,hk0,rx⟩:=krs.get' hxv
  rw[List.getElem?_map]at hk0
  obtain⟨kd,hkd,rfl⟩:=Option.map_eq_some_iff.mp hk0
  obtain⟨xa,x1',x2',rfl,xsq,e1,e2⟩:=(show Rp K H (.t [.s kd.1,.t (kd.2.map tagT)]) xv from rx).t2
  obtain rfl:=e1.inv_s
  obtain⟨oa,ous,rfl,osq,ors⟩:=e2.inv_t
  have kt8:Kt H H8:=kt6.trans (Kt.same s8)
  have xsq8:=xsq.kt kt8
  have osq8:=osq.kt kt8
  have ors8:=ors.kt kt8
  obtain⟨q1,q2,_⟩:=hk.pt i kd hkd
  have lou:=ors.length
  have lu8:=r8.length
  rw[List.length_map]at lou lu8
  have hil:=(List.getElem?_eq_some_iff.mp hkd).1
  have:=hk.len
  have z8:us8.length+ous.length<=sizeLine:=small (by omega)
  have ty8:tyV K "list" (.ref p7) H8:=.inl ⟨rfl,_,SqL.of h8⟩
  fail "R"
  have kt9:Kt H8 (upd H8 p7 (.lst (us8++ous))):=kt_lst h8
  refine⟨fun b o e=>by rw[upd_ne (ne_of_none e hp7)];exact s8 _ _ e,us8++ous,tg8++kd.2,upd_same,?_,by rw[List.length_append];omega,by rw[List.length_append];omega⟩
  rw[List.map_append]
  exact(r8.kt kt9).append (ors8.kt kt9)
 ·rintro σ H8 ⟨⟨y6,y7,rfl⟩,i8⟩
  obtain⟨s8,us8,tg8,h8,r8,t1,t2⟩:=i8
  have lu8:=r8.length
  rw[List.length_map]at lu8
  have:=hk.len
  have x18:=x16.same s8
  have hf8:=x18.2
  have z8:us8.length<=sizeLine:=small (by omega)
  fail "R"
  intro a9 H9 a90 a91 x9
  have h9:=x9.1 _ _ n7 h8
  have x19:=x18.trans x9
  have hql:a9.toNat<tg8.length:=by omega
  obtain⟨u9,hu9,ru9⟩:=(r8.kt (x9.kt hf8)).get (i:=a9.toNat) (x:=tagT tg8[a9.toNat]) (by rw[List.getElem?_map,List.getElem?_eq_getElem hql];rfl)
  have aq:atI us8 a9=some u9:=by
   have:=atI_nat hu9
   rw[show((a9.toNat:Nat):Int)=a9 by omega]at this
   exact this
  generalize tg8[a9.toNat]=tg at ru9
  obtain⟨ua,u1,u2,rfl,usq,w1,w2⟩:=(show Rp K H9 (.t [.s tg.1,.t (tg.2.map kkT)]) u9 from ru9).t2
  obtain rfl:=w1.inv_s
  fail "R"
  intro p10 hp10
  have s10:=same_new hp10 (.tup [])
  have h10:upd H9 p10 (.tup []) p10=some (.tup []):=upd_same
  generalize upd H9 p10 (.tup [])=H10 at s10 h10⊢
  have x110:=x19.same s10
  have hf10:=x110.2
  have rt10:=rt.kt (x110.kt hf)
  have rp10:Rp K H10 (pathT []) (.ref p10):=Rp.t (SqT.of h10) .nil
  have hd31:t.dp<31:=by omega
  have hz4:t.sz<=4000000:=by omega
  have hl0:([]:List Int).length+t.dp<=200:=by simp;omega
  fail "R"
  intro l11 H11 us11 qs s11 hl11 h11 r11 lq hq
  have x111:=x110.same s11
  have hf11:=x111.2
  have lu11:=r11.length
  rw[List.length_map]at lu11
  have n11:l11≠fe:=fun z=>by obtain⟨a,b,e⟩:=hf10;rw[←z,hl11]at e;cases e
  have hsz1:=t.sz1
  have z11:us11.length<=sizeLine:=small (by omega)
  fail "R"
  intro a12 H12 a120 a121 x12
  have h12:=x12.1 _ _ n11 h11
  have x112:=x111.trans x12
  have hql2:a12.toNat<qs.length:=by omega
  obtain⟨pv,hpv,rpv⟩:=(r11.kt (x12.kt hf11)).get (i:=a12.toNat) (x:=pathT qs[a12.toNat]) (by rw[List.getElem?_map,List.getElem?_eq_getElem hql2];rfl)
  have aq2:atI us11 a12=some pv:=by
   have:=atI_nat hpv
   rw[show((a12.toNat:Nat):Int)=a12 by omega]at this
   exact this
  obtain⟨r,er,hAt⟩:=hq qs[a12.toNat] (List.getElem_mem hql2)
  rw[er,List.nil_append]at rpv
  have har:=at_len hAt
  fail "R"
  have kt12:=x112.kt hf
  have ro12:Rp K H12 (thT o) ov:=ro4.kt (((Kt.same ((s5.trans s6).trans s8)).trans (x9.kt hf8)).trans ((Kt.same (s10.trans s11)).trans (x12.kt hf11)))
  have tb12:TbAt H12 Pt pos0 qPut:=by
   rcases tb with e|⟨c,e1,e2⟩
   ·exact .inl (x112.1 _ _ hpf e)
   ·refine .inr ⟨c,x112.1 _ _ hpf e1,x112.1 _ _ (fun z=>?_) e2⟩
    obtain⟨a,b,e⟩:=hf
    rw[←z,e2]at e;cases e
  refine sp_put (t:=t) (o:=o) (ps:=r) (hr.mono (by omega)) hC B z_min mC kC bC CHG tb12 (rt.kt kt12) rpv hAt (by omega) ro12 hz4 (by omega) a0 a1 (fun v' H' y g' t' r' z1 z2=>?_)
  refine k v' H' y (fun b o h1 h2 e=>g' _ _ h2 (x112.1 _ _ h1 e)) ?_ t' r' (by omega) (by omega)
  obtain⟨a,b,e⟩:=x112.2
  exact⟨a,b,g' _ _ (Ne.symm hpf) e⟩
end
structure It(K:PySem.W.Frag) (Pt la f:Addr) (H6:Hp) (ws:List (Th×Kk)) (H:Hp):Prop where
 fr:Frm [Pt,la] f H6 H
 tb:TbAt H Pt pos0 qPut
 us:∃us,H la=some (.lst us)/\Rps K H (ws.map pkT) us
theorem tb_keep{Pt:Addr}{H H':Hp}(tb:TbAt H Pt pos0 qPut)(h:∀b o,(∀us,o≠HO.lst us)->H b=some o->H' b=some o):TbAt H' Pt pos0 qPut:=by
 rcases tb with t|⟨c,t1,t2⟩
 ·exact .inl (h _ _ (fun _ z=>nomatch z) t)
 ·exact .inr ⟨c,h _ _ (fun _ z=>nomatch z) t1,h _ _ (fun _ z=>nomatch z) t2⟩
section
variable {K:PySem.W.Frag}{Pt la f:Addr}{H6 H H':Hp}{ws:List (Th×Kk)}
theorem It.same(i:It K Pt la f H6 ws H)(s:Same H H'):It K Pt la f H6 ws H':=by
 obtain⟨us,h,r⟩:=i.us
 exact⟨i.fr.same s,tb_keep i.tb fun b o _ e=>s b o e,us,s _ _ h,r.same s⟩
theorem It.ext(i:It K Pt la f H6 ws H)(n:la≠f)(x:Ext f H H'):It K Pt la f H6 ws H':=by
 obtain⟨us,h,r⟩:=i.us
 refine⟨i.fr.ext x,tb_keep i.tb fun b o ho e=>x.1 b o (fun z=>?_) e,us,x.1 _ _ n h,r.kt (x.kt i.fr.ff)⟩
 obtain⟨p,q,e2⟩:=i.fr.ff
 rw[z,e2]at e
 exact ho _ (Option.some.inj e).symm
theorem tb_some{H:Hp}{Pt:Addr}(tb:TbAt H Pt pos0 qPut):∃xs,H Pt=some (.tbl xs):=by
 rcases tb with t|⟨c,t,_⟩
 ·exact⟨_,t⟩
 ·exact⟨_,t⟩
theorem It.npl(i:It K Pt la f H6 ws H):la≠Pt:=fun z=>by
 obtain⟨us,h,_⟩:=i.us
 obtain⟨xs,e⟩:=tb_some i.tb
 rw[z,e]at h
 cases h
theorem It.npf(i:It K Pt la f H6 ws H):Pt≠f:=fun z=>by
 obtain⟨p,q,h⟩:=i.fr.ff
 obtain⟨xs,e⟩:=tb_some i.tb
 rw[←z,e]at h
 cases h
theorem It.spo(i:It K Pt la f H6 ws H)(n:la≠f)(h:∀b o,b≠f->b≠Pt->H b=some o->H' b=some o)(ff:FeedAt H' f)(tb:TbAt H' Pt pos0 qPut):It K Pt la f H6 ws H':=by
 obtain⟨us,hu,r⟩:=i.us
 have kt:Kt H H':=fun a zs ra=>by
  have ne:a≠Pt:=fun z=>by
   obtain⟨xs,e⟩:=tb_some i.tb
   rcases ra with q|⟨o,q⟩<;>(rw[z,e]at q;cases q)
  have nf:a≠f:=fun z=>by
   obtain⟨p,q0,e⟩:=i.fr.ff
   rcases ra with q|⟨o,q⟩<;>(rw[z,e]at q;cases q)
  rcases ra with q|⟨o,q⟩
  ·exact .inl (h _ _ nf ne q)
  ·exact .inr ⟨o,h _ _ nf ne q⟩
 refine⟨⟨fun b o n1 n2 e=>?_,i.fr.kt.trans kt,ff⟩,tb,us,h _ _ n i.npl hu,r.kt kt⟩
 exact h _ _ n2 (fun z=>n1 (by rw[z];exact .head _)) (i.fr.oth b o n1 n2 e)
theorem It.app(i:It K Pt la f H6 ws H)(n:la≠f){us:List V}{v:V}{p:Th×Kk}(hu:H la=some (.lst us))(r:Rp K H (pkT p) v):It K Pt la f H6 (ws++[p]) (upd H la (.lst (us++[v]))):=by
 obtain⟨us',hu',rs⟩:=i.us
 rw[hu]at hu'
 cases hu'
 have kt:Kt H (upd H la (.lst (us++[v]))):=kt_lst hu
 refine⟨i.fr.upd (.tail _ (.head _)) n hu,tb_keep i.tb fun b o ho e=>?_,_,upd_same,?_⟩
 ·rw[upd_ne (fun z=>?_)]
  ·exact e
  ·rw[z,hu]at e
   exact ho _ (Option.some.inj e).symm
 ·rw[List.map_append]
  exact(rs.kt kt).append (.one (r.kt kt))
end
theorem Th.dp_sz:∀t:Th,t.dp<=t.sz:=by
 intro t
 have h:∀n,∀t:Th,t.sz<=n->t.dp<=t.sz:=by
  intro n
  induction n with
  |zero=>intro t h;have:=Th.sz1 t;omega
  |succ n ih =>
   have hl:∀l:List Th,szs l<=n->dps' l<=szs l:=fun l hl=>dps_le fun x hx=>by
    have h1:=szs_mem hx
    have:=ih x (by omega)
    omega
   intro t h
   cases t with
   |num i=>simp[Th.dp,Th.sz]
   |row l=>simp only[Th.dp,Th.sz]at h⊢;have:=hl l (by omega);omega
   |tag g l=>simp only[Th.dp,Th.sz]at h⊢;have:=hl l (by omega);omega
 exact h _ t (Nat.le_refl _)
section
variable {P:Program}{w:World}{K:PySem.W.Frag}{mg:Str->Option Value}{base:Heap}{gF gT gN gK gA gH gP gS gI gD Pt:Addr}{ffd tfd nfd kfd afd hfd pfd sfd ifd dfd:FuncData}
theorem nm_law:Nm ["_law_script","_law_feed_here","_law_names_here","_law_kinds_here","_law_program","_law_known","_law_asked","_law_k","_law_kind","_law_thing_here","_law_spoilt_here","_law_found"] (defScope s_law):=by decide +kernel
theorem lm_law:Lm ["_law_script","_law_feed_here","_law_names_here","_law_kinds_here","_law_program","_law_known","_law_asked","_law_k","_law_kind","_law_thing_here","_law_spoilt_here","_law_found"] (defScope s_law):=by decide +kernel
theorem sc_law:FnScope ["_law_script","_law_feed_here","_law_names_here","_law_kinds_here","_law_program","_law_known","_law_asked","_law_k","_law_kind","_law_thing_here","_law_spoilt_here","_law_found"] ["_law_script"] (defScope s_law):=⟨rfl,rfl,rfl,by decide +kernel,rfl,by decide +kernel,by decide +kernel⟩
def spLaw(Pt:Addr)(K:PySem.W.Frag):Sp:=fun vs H Q _=>∃(a:Addr) (ns:List Int),vs=[.ref a]/\SqL K H a (ns.map V.int)/\ns.length<=63/\TbAt H Pt pos0 qPut/\∀H',Q (.bl true) H'
theorem kt_sp{K:PySem.W.Frag}{Pt la f:Addr}{H6 H H':Hp}{ws:List (Th×Kk)}(i:It K Pt la f H6 ws H)(h:∀b o,b≠f->b≠Pt->H b=some o->H' b=some o):Kt H H':=fun a zs ra=>by
 have ne:a≠Pt:=fun z=>by
  obtain⟨xs,e⟩:=tb_some i.tb
  rcases ra with q|⟨o,q⟩<;>(rw[z,e]at q;cases q)
 have nf:a≠f:=fun z=>by
  obtain⟨p,q0,e⟩:=i.fr.ff
  rcases ra with q|⟨o,q⟩<;>(rw[z,e]at q;cases q)
 rcases ra with q|⟨o,q⟩
 ·exact .inl (h _ _ nf ne q)
 ·exact .inr ⟨o,h _ _ nf ne q⟩
structure SmW(H H':Hp):Prop where
 s:Same H H'
theorem rps_take{K:PySem.W.Frag}{H:Hp}:∀(n:Nat) {ts:List T}{us:List V},Rps K H ts us->Rps K H (ts.take n) (us.take n)
 |0,_,_,_=>.nil
 |n+1,[],us,h=>by obtain rfl:=h.inv0;exact .nil
 |n+1,t::ts,us,h=>by
  obtain⟨u,us,rfl,g,r⟩:=h.inv
  exact .cons g (rps_take n r)
def Ask(kl:Kl)(p:Th×Kk):Prop:=p.1.sz<=30/\p.1.dp<=60/\p.2.ok (kl.map (·.1))/\p.2.dep<=2
theorem law_two{f:Addr}{cdv:Value}{A:Around}{outer:List PySem.Env}{s:Shared}{H0:Hp}{E:XK}(AK:Has P w K mg base "_law_any_kind" 4 ["_law_feed_here","_law_known","_law_down"] (spAnyKind K 3) gA afd)(PLS:Has P w K mg base "_law_places" 65 ["_law_thing_here","_law_path"] (spPlaces K 62) gP pfd)(SPL:Has P w K mg base "_law_spoilt" 50 ["_law_feed_here","_law_kinds_here","_law_thing_here"] (spSpoilt K Pt pos0) gS sfd)(z_len:mg "len"=none)(z_int:mg "int"=none)(hr:Room 69 (A.deeper (PyProof.Rows.envOfC "law" (defScope s_law) s.heap.objs.size f cdv)))
  {D:L2.Ends}{H6 H:Hp}{o0 o2 o4 o7 o10 o11:Option V}{fe lk la:Addr}{kv cv v:V}{kl:Kl}{t:Th}{c:Kk}{ws:List (Th×Kk)}(i:It K Pt la fe H6 ws H) (rkv:Rp K H6 (kindsT kl) kv) (hk:KG kl) (rt:Rp K H (thT t) v) (tz:t.sz<=30) (rc:Rp K H (kkT c) cv) (cok:c.ok (kl.map (·.1))) (cdp:c.dep<=2) (hlk:H6 lk=some (.lst ((kl.map (·.1)).map V.str))) (n1:lk≠la) (n2:lk≠fe) (n3:la≠fe) (tb6:TbAt H6 Pt pos0 qPut) (wl:ws.length<=200)
  (k:∀o10 H' p1 p2,It K Pt la fe H6 (ws++[p1]++[p2]) H'->Ask kl p1->Ask kl p2->D.nx [o0,some (.ref fe),o2,some kv,o4,some (.ref lk),some (.ref la),o7,some cv,some v,o10,o11] H') :
  tBlk (cxOf CX0 P w K mg base ["_law_script","_law_feed_here","_law_names_here","_law_kinds_here","_law_program","_law_known","_law_asked","_law_k","_law_kind","_law_thing_here","_law_spoilt_here","_law_found"] "law" (defScope s_law) f cdv A outer s H0 E).nox ((forA ((defBody s_law).drop 6)).drop 5) D [o0,some (.ref fe),o2,some kv,o4,some (.ref lk),some (.ref la),o7,some cv,some v,o10,o11] H:=by
 refine blk_of ((@pss_cons _ _ _ _ _ (@sa _ _ _ _ _ _ sc_law.nd lm_law 10 (@pe_call _ _ _ _ _ _ _ _ _ _ _ _ _ _ _ _ SPL.ok (hr.mono (by omega)) (by show _=_;kernel_rfl) SPL.at' SPL.kp SPL.bd .nil pass0 (@pa_c _ _ _ _ _ (va nm_law 1) (@pa_c _ _ _ _ _ (va nm_law 3) (pa_c (va nm_law 9) pa_nil) (by rfl)) (by rfl)) (by decide) (by rfl) (by rfl)) (by rfl) (by kernel_rfl) (by exact .inl rfl)) (@pss_cons _ _ _ _ _ (@ps_expr _ _ _ _ (@pe_bm _ _ _ _ _ _ _ _ _ _ _ _ PySem.F.plainAttrs_list PySem.F.slot_list_append PySem.F.type_list_append mt_append (va nm_law 6) (@pa_c _ _ _ _ _ (@pe_tup _ _ _ _ _ (@pa_c _ _ _ _ _ (@pe_ix _ _ _ _ _ _ _ ix_list (@pe_lst _ _ _ _ (@pa_c _ _ _ _ _ (va nm_law 9) (pa_c (va nm_law 10) pa_nil) (by rfl))) (@pe_callTy _ _ _ _ _ _ _ _ _ call_int1 (by show _=_;kernel_rfl) z_int PyProof.Rows.boot_int (@pa_c _ _ _ _ _ (@pe_cmpR _ _ _ _ _ _ _ _ op_lt (@pe_callB _ _ _ _ _ _ _ _ _ call_len_seq (by show _=_;kernel_rfl) z_len PySem.boot_len (@pa_c _ _ _ _ _ (@pe_call _ _ _ _ _ _ _ _ _ _ _ _ _ _ _ _ PLS.ok (hr.mono (by omega)) (by show _=_;kernel_rfl) PLS.at' PLS.kp PLS.bd .nil pass0 (@pa_c _ _ _ _ _ (va nm_law 10) (pa_c (pe_tup pa_nil) pa_nil) (by rfl)) (by decide) (by rfl) (by rfl)) pa_nil (by rfl)) (by decide) (by decide) (by rfl) (by rfl)) pe_int (nomark _)) pa_nil (by rfl)) (by decide) (by decide) (by rfl) (by rfl)) (fun _ _=>rfl)) (pa_c (va nm_law 8) pa_nil) (by rfl))) pa_nil (by rfl)) (by rfl) (by rfl) (by rfl) (by rfl) (by rfl)) (by rfl)) (@pss_one _ _ _ (@ps_expr _ _ _ _ (@pe_bm _ _ _ _ _ _ _ _ _ _ _ _ PySem.F.plainAttrs_list PySem.F.slot_list_append PySem.F.type_list_append mt_append (va nm_law 6) (@pa_c _ _ _ _ _ (@pe_tup _ _ _ _ _ (@pa_c _ _ _ _ _ (va nm_law 9) (@pa_c _ _ _ _ _ (@pe_call _ _ _ _ _ _ _ _ _ _ _ _ _ _ _ _ AK.ok (hr.mono (by omega)) (by show _=_;kernel_rfl) AK.at' AK.kp AK.bd .nil pass0 (@pa_c _ _ _ _ _ (va nm_law 1) (pa_c (va nm_law 5) (pa_c pe_int pa_nil)) (by rfl)) (by decide) (by rfl) (by rfl)) pa_nil (by rfl)) (by rfl))) pa_nil (by rfl)) (by rfl) (by rfl) (by rfl) (by rfl) (by rfl)) (by rfl)))))) ?_
 try dsimp only[cx_K]
 try dsimp only[cx_K]
 have tb:=i.tb
 have npf:=i.npf
 have ff:=i.fr.ff
 have rkv1:=rkv.kt i.fr.kt
 have td:=Th.dp_sz t
 have td3:t.dp<=30:=by omega
 have nlp:lk≠Pt:=fun z=>by
  obtain⟨xs,e⟩:=tb_some tb6
  rw[←z,hlk]at e
  cases e
 have lns:(kl.map (·.1)).length<=100:=by rw[List.length_map];have:=hk.len;omega
 fail "R"
 intro sv H7 y h7 ff7 tb7 ry yz yd
 have i7:=i.spo n3 h7 ff7 tb7
 obtain⟨us7,hu7,ru7⟩:=i7.us
 have ty7:tyV K "list" (.ref la) H7:=.inl ⟨rfl,_,SqL.of hu7⟩
 have lu7:=ru7.length
 rw[List.length_map]at lu7
 fail "R"
 intro p8 hp8
 have s8:=same_new hp8 (.lst [v,sv])
 have h8:upd H7 p8 (.lst [v,sv]) p8=some (.lst [v,sv]):=upd_same
 generalize upd H7 p8 (.lst [v,sv])=H8 at s8 h8⊢
 have i8:=i7.same s8
 fail "R"
 intro p9 hp9
 have s9:=same_new hp9 (.tup [])
 have h9:upd H8 p9 (.tup []) p9=some (.tup []):=upd_same
 generalize upd H8 p9 (.tup [])=H9 at s9 h9⊢
 have i9:=i8.same s9
 have ry9:=ry.same (s8.trans s9)
 have rp9:Rp K H9 (pathT []) (.ref p9):=Rp.t (SqT.of h9) .nil
 have yd2:y.dp<62:=by omega
 have yz2:y.sz<=4000000:=by omega
 have yl:([]:List Int).length+y.dp<=200:=by simp;omega
 fail "R"
 intro l10 H10 us10 qs s10 hl10 h10 r10 lq hq
 have i10:=i9.same s10
 have lu10:=r10.length
 rw[List.length_map]at lu10
 have z10:us10.length<=sizeLine:=by rw[sizeLine_eq];omega
 obtain⟨x0,bv,hat,rx0,xz,xd⟩:∃x0 bv,atI [v,sv] (if decide ((us10.length:Int)<31)=true then 1 else 0)=some bv/\Rp K H10 (thT x0) bv/\x0.sz<=30/\x0.dp<=60:=by
  have s710:=(s8.trans s9).trans s10
  by_cases hz:us10.length<31
  ·exact⟨y,sv,by rw[decide_eq_true (by omega)];rfl,ry.same s710,by omega,yd⟩
  ·exact⟨t,v,by rw[decide_eq_false (by omega)];rfl,(rt.kt (kt_sp i h7)).same s710,tz,by omega⟩
 have h810:H10 p8=some (.lst [v,sv]):=(s9.trans s10) _ _ h8
 have rc10:=((rc.kt (kt_sp i h7)).same s8).same (s9.trans s10)
 have rt10:=((rt.kt (kt_sp i h7)).same s8).same (s9.trans s10)
 have hu10:=(s8.trans (s9.trans s10)) _ _ hu7
 fail "R"
 refine .inr ⟨_,rfl,?_⟩
 refine⟨_,_,_,_,rfl,rfl,SqL.of h810,hat,?_⟩
 fail "R"
 intro p11 hp11
 have s11:=same_new hp11 (.tup [bv,cv])
 have h11:upd H10 p11 (.tup [bv,cv]) p11=some (.tup [bv,cv]):=upd_same
 generalize upd H10 p11 (.tup [bv,cv])=H11 at s11 h11⊢
 have i11:=i10.same s11
 have hu11:=s11 _ _ hu10
 have z11:us7.length<sizeLine:=by rw[sizeLine_eq];omega
 have i12:=i11.app n3 hu11 (p:=(x0,c)) (Rp.t (SqT.of h11) (.cons (rx0.same s11) (.one (rc10.same s11))))
 have kt12:Kt H11 (upd H11 la (.lst (us7++[.ref p11]))):=kt_lst hu11
 have rt12:=(rt10.same s11).kt kt12
 have hu12:upd H11 la (.lst (us7++[.ref p11])) la=some (.lst (us7++[.ref p11])):=upd_same
 have ff12:=i12.fr.ff
 have lk12:=i12.fr.oth _ _ (fun z=>(List.mem_cons.mp z).elim nlp fun z=>n1 (List.mem_singleton.mp z)) n2 hlk
 have ty12:tyV K "list" (.ref la) (upd H11 la (.lst (us7++[.ref p11]))):=.inl ⟨rfl,_,SqL.of hu12⟩
 fail "R"
 generalize upd H11 la (.lst (us7++[.ref p11]))=H12 at i12 kt12 rt12 hu12 ff12 lk12 ty12⊢
 intro kv13 H13 k13 x13 rk13 ok13 dp13
 have i13:=i12.ext n3 x13
 have hu13:=x13.1 _ _ n3 hu12
 have rt13:=rt12.kt (x13.kt ff12)
 fail "R"
 intro p14 hp14
 have s14:=same_new hp14 (.tup [v,kv13])
 have h14:upd H13 p14 (.tup [v,kv13]) p14=some (.tup [v,kv13]):=upd_same
 generalize upd H13 p14 (.tup [v,kv13])=H14 at s14 h14⊢
 have i14:=i13.same s14
 have hu14:=s14 _ _ hu13
 have z14:(us7++[V.ref p11]).length<sizeLine:=by rw[sizeLine_eq,List.length_append];simp only[List.length_cons,List.length_nil];omega
 have i15:=i14.app n3 hu14 (p:=(t,k13)) (Rp.t (SqT.of h14) (.cons (rt13.same s14) (.one (rk13.same s14))))
 fail "R"
 exact k _ _ (x0,c) (t,k13) i15 ⟨xz,xd,cok,cdp⟩ ⟨tz,by show t.dp<=60;omega,ok13,dp13⟩
theorem law_last{f:Addr}{cdv:Value}{A:Around}{outer:List PySem.Env}{s:Shared}{H0:Hp}{E:XK}(ISO:Has P w K mg base "is_of" 3 ["program","thing","kind"] (spIsOf K) gI ifd)(DUE:Has P w K mg base "_law_due" 65 ["_law_kinds_here","_law_thing_here","_law_kind"] (spDue K 62) gD dfd)(z_isinstance:mg "isinstance"=none)(z_bool:mg "bool"=none)(hr:Room 69 (A.deeper (PyProof.Rows.envOfC "law" (defScope s_law) s.heap.objs.size f cdv)))
  {D:L2.Ends}{H:Hp}{o0 o1 o2 o5 o7 o8 o9 o10 o11:Option V}{la:Addr}{us:List V}{kv pv:V}{kl:Kl}{dt:T}{ws:List (Th×Kk)}(rkv:Rp K H (kindsT kl) kv) (hk:KG kl) (rpv:Rp K H (.t [kindsT kl,dt]) pv) (hla:H la=some (.lst us)) (rs:Rps K H (ws.map pkT) us) (wl:ws.length<=200) (ha:∀p∈ws,Ask kl p) (k:∀H',D.rt (.bl true) H') :
  tBlk (cxOf CX0 P w K mg base ["_law_script","_law_feed_here","_law_names_here","_law_kinds_here","_law_program","_law_known","_law_asked","_law_k","_law_kind","_law_thing_here","_law_spoilt_here","_law_found"] "law" (defScope s_law) f cdv A outer s H0 E).nox ((defBody s_law).drop 7) D [o0,o1,o2,some kv,some pv,o5,some (.ref la),o7,o8,o9,o10,o11] H:=by
 refine blk_of ((@pss_cons _ _ _ _ _ (@ps_for _ _ _ _ _ _ _ _ PassesOwn.never rfl (@pi_list _ _ _ _ (@pe_op _ _ _ _ _ _ _ _ op_cat (va nm_law 6) (pe_slice sl_list (va nm_law 6) po_none (po_some pe_int)))) (@pg_tupK _ _ _ _ _ (2) K rfl rfl (@pgs_cons _ _ _ _ _ (ga sc_law.nd lm_law 9) (pgs_cons (ga sc_law.nd lm_law 8) pgs_nil) (by rfl)) (by rfl) (by rfl)) (@pss_cons _ _ _ _ _ (@sa _ _ _ _ _ _ sc_law.nd lm_law 11 (@pe_call _ _ _ _ _ _ _ _ _ _ _ _ _ _ _ _ ISO.ok (hr.mono (by omega)) (by show _=_;kernel_rfl) ISO.at' ISO.kp ISO.bd .nil pass0 (@pa_c _ _ _ _ _ (va nm_law 4) (@pa_c _ _ _ _ _ (va nm_law 9) (pa_c (va nm_law 8) pa_nil) (by rfl)) (by rfl)) (by decide) (by rfl) (by rfl)) (by rfl) (by kernel_rfl) (by exact .inl rfl)) (@pss_one _ _ _ (@ps_if _ _ _ _ _ _ _ _ (PW.pt (@pw_or _ _ _ _ _ _ _ (@pt_not _ _ _ _ (@pt_val _ _ _ (@pe_callB _ _ _ _ _ _ _ _ _ call_isB (by show _=_;kernel_rfl) z_isinstance PyProof.Rows.boot_isinstance (@pa_c _ _ _ _ _ (va nm_law 11) (pa_c (pe_bltn (v:=.ty "bool") (by show _=_;kernel_rfl) z_bool (by decide +kernel) rfl) pa_nil) (by rfl)) (by decide) (by decide) (by rfl) (by rfl)) (by intro _;rfl))) (@pw_or1 _ _ _ _ (@pt_cmpR _ _ _ _ _ _ _ _ op_ne (va nm_law 11) (@pe_call _ _ _ _ _ _ _ _ _ _ _ _ _ _ _ _ DUE.ok (hr.mono (by omega)) (by show _=_;kernel_rfl) DUE.at' DUE.kp DUE.bd .nil pass0 (@pa_c _ _ _ _ _ (va nm_law 3) (@pa_c _ _ _ _ _ (va nm_law 9) (pa_c (va nm_law 8) pa_nil) (by rfl)) (by rfl)) (by decide) (by rfl) (by rfl)) (nomark _))))) (pss_one (ps_ret pe_bl)) pss_nil))) (by intro _;rfl)) (pss_one (ps_ret pe_bl)))) ?_
 try dsimp only[cx_K]
 try dsimp only[cx_K]
 have lu:=rs.length
 rw[List.length_map]at lu
 fail "R"
 intro p1 hp1
 rw[show cutV us none (some 3)=us.take 3 from cut_takeL us 3]
 have s1:=same_new hp1 (.lst (us.take 3))
 have h1:upd H p1 (.lst (us.take 3)) p1=some (.lst (us.take 3)):=upd_same
 generalize upd H p1 (.lst (us.take 3))=H1 at s1 h1⊢
 have hla1:=s1 _ _ hla
 have zc:us.length+(us.take 3).length<=sizeLine:=small (by rw[List.length_take];omega)
 fail "R"
 intro p2 hp2
 have s2:=same_new hp2 (.lst (us++us.take 3))
 have h2:upd H1 p2 (.lst (us++us.take 3)) p2=some (.lst (us++us.take 3)):=upd_same
 generalize upd H1 p2 (.lst (us++us.take 3))=H2 at s2 h2⊢
 have s12:=s1.trans s2
 have rs2:Rps K H2 ((ws++ws.take 3).map pkT) (us++us.take 3):=by
  rw[List.map_append]
  refine(rs.same s12).append ?_
  rw[List.map_take]
  exact rps_take 3 (rs.same s12)
 have ha2:∀p∈ws++ws.take 3,Ask kl p:=fun p hp=>(List.mem_append.mp hp).elim (ha p) fun h=>ha p (List.mem_of_mem_take h)
 fail "R"
 refine for_list (K:=K) (xs:=us++us.take 3) (fun i σ H3=>(∃y8 y9 y11,σ=[o0,o1,o2,some kv,some pv,o5,some (.ref la),o7,y8,y9,o10,y11])/\SmW H2 H3) ⟨⟨_,_,_,rfl⟩,⟨Same.refl _⟩⟩ ?_ ?_ ?_
 ·rintro i σ H3 hi ⟨_,s3⟩
  exact SqL.of (s3.s _ _ h2)
 ·rintro i xv σ H3 hxv ⟨⟨y8,y9,y11,rfl⟩,⟨s3⟩⟩
  obtain⟨t0,ht0,rx⟩:=rs2.get' hxv
  rw[List.getElem?_map]at ht0
  obtain⟨p,hp,rfl⟩:=Option.map_eq_some_iff.mp ht0
  obtain⟨tz,td,cok,cdp⟩:=ha2 p (List.mem_of_getElem? hp)
  obtain⟨xa,x1,x2,rfl,xsq,rt0,rc0⟩:=(show Rp K H2 (.t [thT p.1,kkT p.2]) xv from rx).t2
  have xsq3:=xsq.same s3
  have rt3:=rt0.same s3
  have rc3:=rc0.same s3
  have rpv3:Rp K H3 (.t [.t (kl.map kinT),dt]) pv:=(rpv.same s12).same s3
  have b1:p.2.dep<=100:=by omega
  have b2:p.1.sz<=900:=by omega
  have b3:p.1.dp<62:=by omega
  fail "R"
  intro H4 s4
  have rt4:=rt3.same s4
  have rc4:=rc3.same s4
  have rkv4:=(rkv.same s12).same (s3.trans s4)
  fail "R"
  intro H5 s5
  fail "R"
  rw[show(!decide (V.bl (dueF kl p.1 p.2)=V.bl (dueF kl p.1 p.2)))=false by simp]
  fail "R"
  exact⟨s3.trans (s4.trans s5)⟩
 ·rintro σ H3 ⟨⟨_,_,_,rfl⟩,_⟩
  fail "R"
  exact k _
theorem kg_of{xs:List Str}{kl:Kl}(hl:xs.length=26)(un:Un xs)(h:KlOk (xs.take 3) ((xs.drop 3).take 9) kl)(h3:kl.length<=3):KG kl:=by
 have nd:xs.Nodup:=by
  refine List.pairwise_iff_getElem.mpr fun i j hi hj hij e=>?_
  have:=un i j xs[j] (by rw[←e];exact List.getElem?_eq_getElem hi) (List.getElem?_eq_getElem hj)
  omega
 refine⟨h3,?_,?_,fun i k hik=>?_⟩
 ·rw[h.nm]
  exact(nd.sublist (List.take_sublist _ _)).sublist (List.take_sublist _ _)
 ·rw[h.tg]
  exact((nd.sublist (List.drop_sublist _ _)).sublist (List.take_sublist _ _)).sublist (List.take_sublist _ _)
 ·obtain⟨a,b,c⟩:=h.pt i k hik
  refine⟨a,b,fun t ht=>?_⟩
  have hi:i<kl.length:=(List.getElem?_eq_some_iff.mp hik).1
  obtain⟨d,e⟩:=c t ht
  refine⟨d,fun q hq=>⟨?_,(e q hq).2⟩⟩
  rw[h.nm,List.take_take,Nat.min_eq_left (Nat.le_of_lt hi)]
  exact(e q hq).1
structure LwI(K:PySem.W.Frag) (a:Addr) (ns:List Int) (Pt la lk:Addr) (kl:Kl) (dt:T) (kv pv:V) (m:Nat) (H:Hp):Prop where
 s:SqL K H a (ns.map V.int)
 na:a=la->∀H',SqL K H' a (ns.map V.int)
 kv:Rp K H (kindsT kl) kv
 pv:Rp K H (.t [kindsT kl,dt]) pv
 kn:H lk=some (.lst ((kl.map (·.1)).map V.str))
 tb:TbAt H Pt pos0 qPut
 ne:lk≠la
 w:∃(us:List V) (ws:List (Th×Kk)),H la=some (.lst us)/\Rps K H (ws.map pkT) us/\ws.length=m/\∀p∈ws,Ask kl p
theorem sq_keep{K:PySem.W.Frag}{a:Addr}{xs:List V}{H H':Hp}(h:SqL K H a xs)(hh:∀o,H a=some o->(o=.lst xs\/∃q,o=.frz q (.lst xs))->H' a=some o):SqL K H' a xs:=by
 rcases h with(e|⟨o,e⟩)|e
 ·exact .inl (.inl (hh _ e (.inl rfl)))
 ·exact .inl (.inr ⟨o,hh _ e (.inr ⟨o,rfl⟩)⟩)
 ·exact .inr e
theorem same_ext{H H1 H2:Hp}{r:Addr}(s:Same H H1)(x:Ext r H1 H2)(h:H r=none):Same H H2:=fun b o e=>x.1 b o (ne_of_none e h) (s b o e)
theorem ok_law{f:Addr}{fd:FuncData}(F:Fun K "law" "law" s_law f fd)(FD:Has P w K mg base "_law_feed" 1 ["_law_script","_law_k"] (spFeed K) gF ffd)(NM:Has P w K mg base "_law_names" 2 ["_law_feed_here","_law_many"] spNames gN nfd)(KI:Has P w K mg base "_law_kinds" 5 ["_law_feed_here","_law_names_here","_law_tags"] (spKinds K) gK kfd)(AK:Has P w K mg base "_law_any_kind" 4 ["_law_feed_here","_law_known","_law_down"] (spAnyKind K 3) gA afd)(TH:Has P w K mg base "_law_thing" 20 ["_law_feed_here","_law_kinds_here","_law_kind","_law_down"] (spThing K 12) gH hfd)(PLS:Has P w K mg base "_law_places" 65 ["_law_thing_here","_law_path"] (spPlaces K 62) gP pfd)(SPL:Has P w K mg base "_law_spoilt" 50 ["_law_feed_here","_law_kinds_here","_law_thing_here"] (spSpoilt K Pt pos0) gS sfd)(ISO:Has P w K mg base "is_of" 3 ["program","thing","kind"] (spIsOf K) gI ifd)(DUE:Has P w K mg base "_law_due" 65 ["_law_kinds_here","_law_thing_here","_law_kind"] (spDue K 62) gD dfd)(z_len:mg "len"=none)(z_range:mg "range"=none)(z_max:mg "max"=none)(z_min:mg "min"=none)(z_int:mg "int"=none)(z_isinstance:mg "isinstance"=none)(z_bool:mg "bool"=none):FnOk P w K mg base CX0 70 f fd ["_law_script"] (spLaw Pt K):=by
 refine F.ok sc_law (fun vs H Q E h=>?_) (fun cdv A outer s H vs Q E hr h=>?_)
 ·obtain⟨a,ns,rfl,_⟩:=h
  rfl
 obtain⟨a,ns,rfl,hS,hns,tb,k⟩:=h
 refine⟨_,(@pss_cons _ _ _ _ _ (@sa _ _ _ _ _ _ sc_law.nd lm_law 1 (@pe_call _ _ _ _ _ _ _ _ _ _ _ _ _ _ _ _ FD.ok (hr.mono (by omega)) (by show _=_;kernel_rfl) FD.at' FD.kp FD.bd .nil pass0 (pa_c (va nm_law 0) (pa_c pe_int pa_nil)) (by decide) (by rfl) (by rfl)) (by rfl) (by kernel_rfl) (by exact .inl rfl)) (@pss_cons _ _ _ _ _ (@sa _ _ _ _ _ _ sc_law.nd lm_law 2 (@pe_call _ _ _ _ _ _ _ _ _ _ _ _ _ _ _ _ NM.ok (hr.mono (by omega)) (by show _=_;kernel_rfl) NM.at' NM.kp NM.bd .nil pass0 (pa_c (va nm_law 1) (pa_c pe_int pa_nil)) (by decide) (by rfl) (by rfl)) (by rfl) (by kernel_rfl) (by exact .inl rfl)) (@pss_cons _ _ _ _ _ (@sa _ _ _ _ _ _ sc_law.nd lm_law 3 (@pe_call _ _ _ _ _ _ _ _ _ _ _ _ _ _ _ _ KI.ok (hr.mono (by omega)) (by show _=_;kernel_rfl) KI.at' KI.kp KI.bd .nil pass0 (@pa_c _ _ _ _ _ (va nm_law 1) (@pa_c _ _ _ _ _ (pe_slice sl_list (va nm_law 2) po_none (po_some pe_int)) (@pa_c _ _ _ _ _ (pe_slice sl_list (va nm_law 2) (po_some pe_int) (po_some pe_int)) pa_nil (by rfl)) (by rfl)) (by rfl)) (by decide) (by rfl) (by rfl)) (by rfl) (by kernel_rfl) (by exact .inl rfl)) (@pss_cons _ _ _ _ _ (@sa _ _ _ _ _ _ sc_law.nd lm_law 4 (@pe_tup _ _ _ _ _ (@pa_c _ _ _ _ _ (va nm_law 3) (@pa_c _ _ _ _ _ (@pe_tup _ _ _ _ _ (@pa_c _ _ _ _ _ (@pe_tup _ _ _ _ _ (@pa_c _ _ _ _ _ (pe_ix ix_list (va nm_law 2) pe_int (fun _ _=>rfl)) (@pa_c _ _ _ _ _ (pe_tup pa_nil) (@pa_c _ _ _ _ _ (@pe_tup _ _ _ _ _ (pa_c pe_str (pa_c pe_int pa_nil))) pa_nil (by rfl)) (by rfl)) (by rfl))) pa_nil (by rfl))) pa_nil (by rfl)) (by rfl))) (by rfl) (by kernel_rfl) (by exact .inl rfl)) (@pss_cons _ _ _ _ _ (@ps_compC _ _ _ _ _ _ _ _ _ _ _ _ _ _ _ (defScope s_law) ["_law_script","_law_feed_here","_law_names_here","_law_kinds_here","_law_program","_law_known","_law_asked","_law_k","_law_kind","_law_thing_here","_law_spoilt_here","_law_found"] ["_law_name","_law_tags"] [] rfl rfl rfl (by decide +kernel) (pi_tup (va nm_law 3)) (fun _ _ _ _=>(@pg_tupK _ _ _ _ _ (2) K rfl rfl (@pgs_cons _ _ _ _ _ (pg_name (i:=0) (show(["_law_name","_law_tags"]:List Str).Nodup by decide +kernel) rfl (Or.inl (by kernel_rfl)) (by first|exact .inl rfl|exact .inr (by kernel_rfl))) (pgs_cons (pg_name (i:=1) (show(["_law_name","_law_tags"]:List Str).Nodup by decide +kernel) rfl (Or.inl (by kernel_rfl)) (by first|exact .inl rfl|exact .inr (by kernel_rfl))) pgs_nil) (by rfl)) (by rfl) (by rfl))) (fun _ _ _ _=>pifs_nil) (fun _ _ _ _=>(va (show Nm ["_law_name","_law_tags"] _ by show _=_;kernel_rfl) 0)) (ga sc_law.nd lm_law 5) (by kernel_rfl) (by intro _;rfl)) (@pss_cons _ _ _ _ _ (sa sc_law.nd lm_law 6 (pe_lst pa_nil)) (@pss_cons _ _ _ _ _ (@ps_for _ _ _ _ _ _ _ _ PassesOwn.never rfl (@pi_range2 _ _ _ _ _ _ _ (by show _=_;kernel_rfl) z_range (@pa_c _ _ _ _ _ pe_int (@pa_c _ _ _ _ _ (@pe_callB _ _ _ _ _ _ _ _ _ (call_max2 rfl) (by show _=_;kernel_rfl) z_max PyProof.Rows.boot_max (@pa_c _ _ _ _ _ pe_int (@pa_c _ _ _ _ _ (@pe_callB _ _ _ _ _ _ _ _ _ (call_min2 rfl) (by show _=_;kernel_rfl) z_min PyProof.Rows.boot_min (@pa_c _ _ _ _ _ pe_int (@pa_c _ _ _ _ _ (@pe_callB _ _ _ _ _ _ _ _ _ call_len_seq (by show _=_;kernel_rfl) z_len PySem.boot_len (pa_c (va nm_law 0) pa_nil) (by decide) (by decide) (by rfl) (by rfl)) pa_nil (by rfl)) (by rfl)) (by decide) (by decide) (by rfl) (by rfl)) pa_nil (by rfl)) (by rfl)) (by decide) (by decide) (by rfl) (by rfl)) pa_nil (by rfl)) (by rfl)) (by rfl) (by rfl)) (ga sc_law.nd lm_law 7) (@pss_cons _ _ _ _ _ (@sa _ _ _ _ _ _ sc_law.nd lm_law 1 (@pe_call _ _ _ _ _ _ _ _ _ _ _ _ _ _ _ _ FD.ok (hr.mono (by omega)) (by show _=_;kernel_rfl) FD.at' FD.kp FD.bd .nil pass0 (@pa_c _ _ _ _ _ (va nm_law 0) (pa_c (va nm_law 7) pa_nil) (by rfl)) (by decide) (by rfl) (by rfl)) (by rfl) (by kernel_rfl) (by exact .inl rfl)) (@pss_cons _ _ _ _ _ (@sa _ _ _ _ _ _ sc_law.nd lm_law 8 (@pe_call _ _ _ _ _ _ _ _ _ _ _ _ _ _ _ _ AK.ok (hr.mono (by omega)) (by show _=_;kernel_rfl) AK.at' AK.kp AK.bd .nil pass0 (@pa_c _ _ _ _ _ (va nm_law 1) (pa_c (va nm_law 5) (pa_c pe_int pa_nil)) (by rfl)) (by decide) (by rfl) (by rfl)) (by rfl) (by kernel_rfl) (by exact .inl rfl)) (@pss_cons _ _ _ _ _ (@sa _ _ _ _ _ _ sc_law.nd lm_law 9 (@pe_call _ _ _ _ _ _ _ _ _ _ _ _ _ _ _ _ TH.ok (hr.mono (by omega)) (by show _=_;kernel_rfl) TH.at' TH.kp TH.bd .nil pass0 (@pa_c _ _ _ _ _ (va nm_law 1) (@pa_c _ _ _ _ _ (va nm_law 3) (pa_c (va nm_law 8) (pa_c pe_int pa_nil)) (by rfl)) (by rfl)) (by decide) (by rfl) (by rfl)) (by rfl) (by kernel_rfl) (by exact .inl rfl)) (@pss_cons _ _ _ _ _ (@ps_if _ _ _ _ _ _ _ _ (@pt_cmpR _ _ _ _ _ _ _ _ op_gt (@pe_callB _ _ _ _ _ _ _ _ _ call_len_seq (by show _=_;kernel_rfl) z_len PySem.boot_len (@pa_c _ _ _ _ _ (@pe_call _ _ _ _ _ _ _ _ _ _ _ _ _ _ _ _ PLS.ok (hr.mono (by omega)) (by show _=_;kernel_rfl) PLS.at' PLS.kp PLS.bd .nil pass0 (@pa_c _ _ _ _ _ (va nm_law 9) (pa_c (pe_tup pa_nil) pa_nil) (by rfl)) (by decide) (by rfl) (by rfl)) pa_nil (by rfl)) (by decide) (by decide) (by rfl) (by rfl)) pe_int (nomark _)) (@pss_one _ _ _ (@sa _ _ _ _ _ _ sc_law.nd lm_law 9 (@pe_tup _ _ _ _ _ (@pa_c _ _ _ _ _ pe_str (pa_c (pe_tup pa_nil) pa_nil) (by rfl))) (by rfl) (by kernel_rfl) (by exact .inl rfl))) pss_nil) (@pss_cons _ _ _ _ _ (@ps_expr _ _ _ _ (@pe_bm _ _ _ _ _ _ _ _ _ _ _ _ PySem.F.plainAttrs_list PySem.F.slot_list_append PySem.F.type_list_append mt_append (va nm_law 6) (@pa_c _ _ _ _ _ (@pe_tup _ _ _ _ _ (@pa_c _ _ _ _ _ (va nm_law 9) (pa_c (va nm_law 8) pa_nil) (by rfl))) pa_nil (by rfl)) (by rfl) (by rfl) (by rfl) (by rfl) (by rfl)) (by rfl)) pss_blk))))) (by intro _;rfl)) pss_blk))))))),?_⟩
 try dsimp only[cx_K]
 try dsimp only[cx_K]
 fail "R"
 intro fe H1 s1 hfe hf1
 fail "R"
 intro ln H2 xs x2 hln h2 lx wx un
 have lx:xs.length=26:=lx
 fail "R"
 intro p3 hp3
 rw[show cutV (xs.map V.str) none (some 3)=(xs.take 3).map V.str from by rw[List.map_take];exact cut_takeL _ 3]
 have s3:=same_new hp3 (.lst ((xs.take 3).map V.str))
 have h3:upd H2 p3 (.lst ((xs.take 3).map V.str)) p3=some (.lst ((xs.take 3).map V.str)):=upd_same
 generalize upd H2 p3 (.lst ((xs.take 3).map V.str))=H3 at s3 h3⊢
 have h23:=s3 _ _ h2
 fail "R"
 intro p4 hp4
 rw[show cutV (xs.map V.str) (some 3) (some 12)=((xs.drop 3).take 9).map V.str from by rw[List.map_take,List.map_drop];exact cut_midL _ 3 12 (by rw[List.length_map];omega) (by decide)]
 have s4:=same_new hp4 (.lst (((xs.drop 3).take 9).map V.str))
 have h4:upd H3 p4 (.lst (((xs.drop 3).take 9).map V.str)) p4=some (.lst (((xs.drop 3).take 9).map V.str)):=upd_same
 generalize upd H3 p4 (.lst (((xs.drop 3).take 9).map V.str))=H4 at s4 h4⊢
 have h34:=s4 _ _ h3
 have x14:=(x2.same s3).same s4
 have hf4:=x14.2
 have l3:(xs.take 3).length=3:=by rw[List.length_take];omega
 have l9:((xs.drop 3).take 9).length=9:=by rw[List.length_take,List.length_drop];omega
 fail "R"
 intro kv H5 kl x5 klok kl3 rkv
 have hk:=kg_of lx un klok kl3
 have x15:=x14.trans x5
 have nln:ln≠fe:=fun z=>by obtain⟨p,q,e⟩:=hf1;rw[←z,hln]at e;cases e
 have h25:=x5.1 _ _ nln ((s3.trans s4) _ _ h2)
 obtain⟨x18,hx18⟩:∃x,xs[18]?=some x:=⟨xs[18],List.getElem?_eq_getElem (by omega)⟩
 have at18:atI (xs.map V.str) 18=some (.str x18):=atI_nat (j:=18) (by rw[List.getElem?_map,hx18];rfl)
 fail "R"
 intro p6 hp6
 have s6:=same_new hp6 (.tup [])
 have h6:upd H5 p6 (.tup []) p6=some (.tup []):=upd_same
 generalize upd H5 p6 (.tup [])=H6 at s6 h6⊢
 fail "R"
 intro p7 hp7
 have s7:=same_new hp7 (.tup [.str "num",.int 0])
 have h7:upd H6 p7 (.tup [.str "num",.int 0]) p7=some (.tup [.str "num",.int 0]):=upd_same
 generalize upd H6 p7 (.tup [.str "num",.int 0])=H7 at s7 h7⊢
 fail "R"
 intro p8 hp8
 have s8:=same_new hp8 (.tup [.str x18,.ref p6,.ref p7])
 have h8:upd H7 p8 (.tup [.str x18,.ref p6,.ref p7]) p8=some (.tup [.str x18,.ref p6,.ref p7]):=upd_same
 generalize upd H7 p8 (.tup [.str x18,.ref p6,.ref p7])=H8 at s8 h8⊢
 fail "R"
 intro p9 hp9
 have s9:=same_new hp9 (.tup [.ref p8])
 have h9:upd H8 p9 (.tup [.ref p8]) p9=some (.tup [.ref p8]):=upd_same
 generalize upd H8 p9 (.tup [.ref p8])=H9 at s9 h9⊢
 fail "R"
 intro p10 hp10
 have s10:=same_new hp10 (.tup [kv,.ref p9])
 have h10:upd H9 p10 (.tup [kv,.ref p9]) p10=some (.tup [kv,.ref p9]):=upd_same
 generalize upd H9 p10 (.tup [kv,.ref p9])=H10 at s10 h10⊢
 have rpv10:Rp K H10 (.t [kindsT kl,.t [.t [.s x18,.t [],.t [.s "num",.i 0]]]]) (.ref p10):=Rp.t (SqT.of h10) (.cons (rkv.same ((((s6.trans s7).trans s8).trans s9).trans s10)) (.one (Rp.t (SqT.of (s10 _ _ h9)) (.one (Rp.t (SqT.of ((s9.trans s10) _ _ h8)) (.cons .s (.cons (Rp.t (SqT.of ((((s7.trans s8).trans s9).trans s10) _ _ h6)) .nil) (.one (Rp.t (SqT.of (((s8.trans s9).trans s10) _ _ h7)) (.cons .s (.one .i)))))))))))
 have s510:=(((s6.trans s7).trans s8).trans s9).trans s10
 have rkv10:=rkv.same s510
 generalize(T.t [.t [.s x18,.t [],.t [.s "num",.i 0]]])=dt at rpv10
 obtain⟨ka,kus,rfl,ksq,krs⟩:=(show Rp K H10 (.t (kl.map kinT)) kv from rkv10).inv_t
 have lku:=krs.length
 rw[List.length_map]at lku
 fail "R"
 refine comp_mapT (K:=K) (e:=kinT) (φ:=fun k=>[.s k.1]) (fun σ=>∃a b,σ=[a,b]) ksq krs (by have:=hk.len;omega) (fun _=>Nat.le_refl _) ⟨_,_,rfl⟩ ?_ ?_
 ·rintro p hp x _ H6 N s6 ⟨_,_,rfl⟩ rx kN
  obtain⟨xa,x1,x2,rfl,xsq,e1,e2⟩:=(show Rp K H6 (.t [.s p.1,.t (p.2.map tagT)]) x from rx).t2
  obtain rfl:=e1.inv_s
  fail "R"
  exact kN _ _ _ ⟨⟨_,_,rfl⟩,Same.refl _,.one .s⟩
 intro lk H11 ws11 s11 hlk h11 r11
 rw[fm_one,show(fun p:Str×List (Str×List Kk)=>T.s p.1)=T.s ∘ (·.1)from rfl,←List.map_map]at r11
 obtain rfl:=r11.strs_inv
 fail "R"
 intro la hla
 have s12:=same_new hla (.lst [])
 have h12:upd H11 la (.lst []) la=some (.lst []):=upd_same
 generalize upd H11 la (.lst [])=H12 at s12 h12⊢
 have s0:Same H H12:=(same_ext s1 (x15.same ((s510.trans s11).trans s12)) hfe)
 have i12:LwI K a ns Pt la lk kl dt (.ref ka) (.ref p10) 0 H12:=⟨s0.seq hS,fun z H'=>(show SqL K H11 a (ns.map V.int)from((same_ext s1 (x15.same (s510.trans s11)) hfe)).seq hS).elim (fun e=>by rw[z]at e;rcases e with e|⟨o,e⟩<;>(rw[hla]at e;cases e)) .inr,(rkv10.same s11).same s12,(rpv10.same s11).same s12,s12 _ _ h11,tb_keep tb fun b o _ e=>s0 _ _ e,ne_of_none h11 hla,[],[],h12,.nil,rfl,fun p hp=>nomatch hp⟩
 have sq12:=i12.s
 have ll:=List.length_map (f:=V.int) (as:=ns)
 fail "R"
 have hN:((if(if(((ns.map V.int).length:Nat):Int)<20 then(((ns.map V.int).length:Nat):Int)else 20)>4 then if(((ns.map V.int).length:Nat):Int)<20 then(((ns.map V.int).length:Nat):Int)else 20 else 4) - 1).toNat<=19:=by
  split
  ·split<;>omega
  ·omega
 generalize((if(if(((ns.map V.int).length:Nat):Int)<20 then(((ns.map V.int).length:Nat):Int)else 20)>4 then if(((ns.map V.int).length:Nat):Int)<20 then(((ns.map V.int).length:Nat):Int)else 20 else 4) - 1).toNat=N at hN⊢
 refine for_range (n:=N) (fun i σ H5=>∃o1 o7 o8 o9 o10 o11,σ=[some (.ref a),o1,some (.ref ln),some (.ref ka),some (.ref p10),some (.ref lk),some (.ref la),o7,o8,o9,o10,o11]/\LwI K a ns Pt la lk kl dt (.ref ka) (.ref p10) (3*i) H5) ⟨_,_,_,_,_,_,rfl,i12⟩ ?_ ?_
 ·rintro i σ H13 hi ⟨_,_,_,_,_,_,rfl,i13⟩
  have sq13:=i13.s
  have i0:(0:Int)<=1+i:=by omega
  have i1:(1+i:Int)<=1000:=by omega
  refine seq_cut5 ?_
  intro N1 N2 N3 N4 N5 c1 c2 c3 c4 c5
  fail "R"
  intro f14 H14 s14 hf14 ff14
  have nlk:lk≠f14:=ne_of_none i13.kn hf14
  have lk14:=s14 _ _ i13.kn
  obtain⟨us,ws,hus,rws,wl,wa⟩:=i13.w
  have nla:la≠f14:=ne_of_none hus hf14
  have j14:It K Pt la f14 H14 ws H14:=⟨Frm.refl ff14,tb_keep i13.tb fun b o _ e=>s14 _ _ e,us,s14 _ _ hus,rws.same s14⟩
  have rkv14:=i13.kv.same s14
  have nlp:lk≠Pt:=fun z=>by
   obtain⟨xs,e⟩:=tb_some i13.tb
   rw[←z,i13.kn]at e
   cases e
  have lns:(kl.map (·.1)).length<=100:=by rw[List.length_map];have:=hk.len;omega
  fail "R"
  intro cv H15 c x15 rc15 cok cdp
  have cdp:c.dep<=2:=cdp
  have j15:=j14.ext nla x15
  have rest:∀(v:V) (t:Th) (H18:Hp) (o10 o11:Option V),It K Pt la f14 H14 ws H18->Rp K H18 (thT t) v->t.sz<=30->Rp K H18 (kkT c) cv->N4 [some (.ref a),some (.ref f14),some (.ref ln),some (.ref ka),some (.ref p10),some (.ref lk),some (.ref la),some (.int (1+i)),some cv,some v,o10,o11] H18:=fun v t H18 o10 o11 j18 rt18 tz18 rc18=>by
   refine Cut.go c4 ?_
   obtain⟨us18,hu18,ru18⟩:=j18.us
   have ty18:tyV K "list" (.ref la) H18:=.inl ⟨rfl,_,SqL.of hu18⟩
   have lu18:=ru18.length
   rw[List.length_map]at lu18
   fail "R"
   intro p19 hp19
   have s19:=same_new hp19 (.tup [v,cv])
   have h19:upd H18 p19 (.tup [v,cv]) p19=some (.tup [v,cv]):=upd_same
   generalize upd H18 p19 (.tup [v,cv])=H19 at s19 h19⊢
   have j19:=j18.same s19
   have hu19:=s19 _ _ hu18
   have z19:us18.length<sizeLine:=by rw[sizeLine_eq];omega
   have j20:=j19.app nla hu19 (p:=(t,c)) (Rp.t (SqT.of h19) (.cons (rt18.same s19) (.one (rc18.same s19))))
   have kt20:Kt H19 (upd H19 la (.lst (us18++[.ref p19]))):=kt_lst hu19
   have rt20:=(rt18.same s19).kt kt20
   have rc20:=(rc18.same s19).kt kt20
   fail "R"
   generalize upd H19 la (.lst (us18++[.ref p19]))=H20 at j20 kt20 rt20 rc20⊢
   refine law_two AK PLS SPL z_len z_int hr j20 rkv14 hk rt20 tz18 rc20 cok cdp lk14 i13.ne nlk nla j14.tb (by rw[List.length_append];simp only[List.length_cons,List.length_nil];omega) fun o10 H21 p1 p2 j21 a1 a2=>?_
   obtain⟨us21,hu21,ru21⟩:=j21.us
   refine⟨_,_,_,_,_,_,rfl,?_,i13.na,rkv14.kt j21.fr.kt,(i13.pv.same s14).kt j21.fr.kt,j21.fr.oth _ _ (fun z=>(List.mem_cons.mp z).elim nlp fun z=>i13.ne (List.mem_singleton.mp z)) nlk lk14,j21.tb,i13.ne,us21,_,hu21,ru21,?_,fun p hp=>?_⟩
   ·by_cases hal:a=la
    ·exact i13.na hal _
    refine sq_keep i13.s fun o e ho=>j21.fr.oth _ _ (fun z=>?_) (ne_of_none e hf14) (s14 _ _ e)
    rcases List.mem_cons.mp z with z|z
    ·obtain⟨xs,e2⟩:=tb_some i13.tb
     rw[←z,e]at e2
     cases e2
     rcases ho with h|⟨_,h⟩<;>cases h
    ·exact hal (List.mem_singleton.mp z)
   ·simp only[List.length_append,List.length_cons,List.length_nil]
    omega
   ·rcases List.mem_append.mp hp with hp|hp
    ·rcases List.mem_append.mp hp with hp|hp
     ·rcases List.mem_append.mp hp with hp|hp
      ·exact wa p hp
      ·rw[List.mem_singleton.mp hp]
       exact⟨tz18,by have:=Th.dp_sz t;show t.dp<=60;omega,cok,cdp⟩
     ·rw[List.mem_singleton.mp hp];exact a1
    ·rw[List.mem_singleton.mp hp];exact a2
  clear c4 c5
  have ff15:=j15.fr.ff
  have rkv15:=rkv14.kt j15.fr.kt
  have hcr:rk (kl.map (·.1)) c<12:=by
   have h1:=rk_ok (ns:=kl.map (·.1)) (i:=(kl.map (·.1)).length) (k:=c) (by rw[List.take_length];exact cok)
   rw[List.length_map]at h1
   have:=hk.len
   omega
  fail "R"
  intro v16 H16 t x16 rt16 tz td
  have tz2:t.sz<=300000:=by
   have h1:3 ^ (rk (kl.map (·.1)) c+1)<=3 ^ 12:=Nat.pow_le_pow_right (by decide) (by omega)
   have h2:(3:Nat) ^ 12=531441:=by decide
   omega
  have j16:=j15.ext nla x16
  have rc16:=rc15.kt (x16.kt ff15)
  fail "R"
  intro p17 hp17
  have s17:=same_new hp17 (.tup [])
  have h17:upd H16 p17 (.tup []) p17=some (.tup []):=upd_same
  generalize upd H16 p17 (.tup [])=H17 at s17 h17⊢
  have j17:=j16.same s17
  have rp17:Rp K H17 (pathT []) (.ref p17):=Rp.t (SqT.of h17) .nil
  have rt17:=rt16.same s17
  have rc17:=rc16.same s17
  have b1:t.dp<62:=by omega
  have b2:t.sz<=4000000:=by omega
  have b3:([]:List Int).length+t.dp<=200:=by simp;omega
  fail "R"
  intro l18 H18 us18 qs s18 hl18 h18 r18 lq hq
  have j18:=j17.same s18
  have rt18:=rt17.same s18
  have rc18:=rc17.same s18
  have lu18:=r18.length
  rw[List.length_map]at lu18
  have z18:us18.length<=sizeLine:=by rw[sizeLine_eq];omega
  fail "R"
  refine ite2 (fun c0=>?_) (fun c0=>?_)
  ·fail "R"
   intro p19 hp19
   have s19:=same_new hp19 (.tup [])
   have h19:upd H18 p19 (.tup []) p19=some (.tup []):=upd_same
   generalize upd H18 p19 (.tup [])=H19 at s19 h19⊢
   fail "R"
   intro p20 hp20
   have s20:=same_new hp20 (.tup [.str "row",.ref p19])
   have h20:upd H19 p20 (.tup [.str "row",.ref p19]) p20=some (.tup [.str "row",.ref p19]):=upd_same
   generalize upd H19 p20 (.tup [.str "row",.ref p19])=H20 at s20 h20⊢
   fail "R"
   exact rest (.ref p20) (.row []) H20 _ _ (j18.same (s19.trans s20)) (by rw[thT,thTs];exact Rp.t (SqT.of h20) (.cons .s (.one (Rp.t (SqT.of (s20 _ _ h19)) .nil)))) (by simp[Th.sz,szs]) (rc18.same (s19.trans s20))
  ·fail "R"
   have c0:¬(30:Int)<us18.length:=by simpa using c0
   exact rest v16 t H18 _ _ j18 rt18 (by omega) rc18
 ·rintro σ H13 ⟨_,_,_,_,_,_,rfl,i13⟩
  obtain⟨us,ws,hus,rws,wl,wa⟩:=i13.w
  fail "R"
  exact law_last ISO DUE z_isinstance z_bool hr i13.kv hk i13.pv hus rws (by omega) wa k
end
theorem len1{α:Type}{P:List α->Prop}(h:∀a,P [a]):∀us:List α,us.length=1->P us
 | [a],_=>h a
theorem len2{α:Type}{P:List α->Prop}(h:∀a b,P [a,b]):∀us:List α,us.length=2->P us
 | [a,b],_=>h a b
theorem len3{α:Type}{P:List α->Prop}(h:∀a b c,P [a,b,c]):∀us:List α,us.length=3->P us
 | [a,b,c],_=>h a b c
theorem len4{α:Type}{P:List α->Prop}(h:∀a b c d,P [a,b,c,d]):∀us:List α,us.length=4->P us
 | [a,b,c,d],_=>h a b c d
section
variable {P:Program}{w:World}{K:PySem.W.Frag}{mg:Str->Option Value}{base:Heap}{gA gT gH gP gC gD:Addr}{afd tfd hfd pfd cfd dfd:FuncData}
theorem any_all(F:Fun K "_law_any_kind" "_law_any_kind" s_L_any_kind gA afd)(mA:mg "_law_any_kind"=some (.ref gA))(bA:Binds K afd ["_law_feed_here","_law_known","_law_down"] [])(TK:Has P w K mg base "_law_take" 1 ["_law_feed_here","_law_many"] spTake gT tfd)(z_len:mg "len"=none):∀n,FnOk P w K mg base CX0 (n+1) gA afd ["_law_feed_here","_law_known","_law_down"] (spAnyKind K n)
 |0=>fn_none fun vs H Q E ⟨_,_,d,_,_,_,_,_,h0,h1,_⟩=>by have:d<0:=h1;omega
 |n+1=>ok_any_kind (j:=n+1) (by omega) F TK ⟨any_all F mA bA TK z_len n,mA,F.kp,bA⟩ z_len
theorem thing_all(F:Fun K "_law_thing" "_law_thing" s_L_thing gH hfd)(mH:mg "_law_thing"=some (.ref gH))(bH:Binds K hfd ["_law_feed_here","_law_kinds_here","_law_kind","_law_down"] [])(TK:Has P w K mg base "_law_take" 1 ["_law_feed_here","_law_many"] spTake gT tfd)(z_range:mg "range"=none)(z_len:mg "len"=none)(z_int:mg "int"=none)(z_dict:mg "dict"=none)(z_tuple:mg "tuple"=none):∀n,n<=50->FnOk P w K mg base CX0 (n+8) gH hfd ["_law_feed_here","_law_kinds_here","_law_kind","_law_down"] (spThing K n)
 |0,_=>fn_none fun vs H Q E ⟨_,_,_,_,_,_,_,_,_,_,_,_,h,_⟩=>by omega
 |n+1,hn=>ok_thing (j:=n+8) (by omega) (by omega) F TK ⟨thing_all F mH bH TK z_range z_len z_int z_dict z_tuple n (by omega),mH,F.kp,bH⟩ z_range z_len z_int z_dict z_tuple
theorem places_all{c:Nat}(hc:1<=c)(F:Fun K "_law_places" "_law_places" s_L_places gP pfd)(mP:mg "_law_places"=some (.ref gP))(bP:Binds K pfd ["_law_thing_here","_law_path"] [])(z_enumerate:mg "enumerate"=none):∀n,FnOk P w K mg base CX0 (n+c) gP pfd ["_law_thing_here","_law_path"] (spPlaces K n)
 |0=>fn_none fun vs H Q E ⟨_,_,_,_,_,_,_,h,_⟩=>by omega
 |n+1=>by
  rw[show n+1+c=n+c+1 by omega]
  exact ok_places (j:=n+c) (by omega) F ⟨places_all hc F mP bP z_enumerate n,mP,F.kp,bP⟩ z_enumerate
theorem changed_all{fP c:Addr}{q:Str}{ov:V}{o:Th}(F:Fun K "_law_changed" "_law_changed" s_L_changed gC cfd)(mC:mg "_law_changed"=some (.ref gC))(bC:Binds K cfd ["_law_thing_here","_law_path","_law_put"] [])(PUT:HasF P w K mg base 1 ["_law_one"] (spPut K c q ov o) fP pfd)(z_list:mg "list"=none)(z_tuple:mg "tuple"=none):∀n,n<=500->FnOk P w K mg base CX0 (n+9) gC cfd ["_law_thing_here","_law_path","_law_put"] (spChg K n fP c q ov o)
 |0,_=>fn_none fun vs H Q E ⟨_,_,_,_,_,_,_,_,h,_⟩=>by omega
 |n+1,hn=>ok_changed (j:=n+9) (by omega) (by omega) F PUT ⟨changed_all F mC bC PUT z_list z_tuple n (by omega),mC,F.kp,bC⟩ z_list z_tuple
theorem due_all(F:Fun K "_law_due" "_law_due" s_L_due gD dfd)(mD:mg "_law_due"=some (.ref gD))(bD:Binds K dfd ["_law_kinds_here","_law_thing_here","_law_kind"] [])(z_dict:mg "dict"=none)(z_len:mg "len"=none)(z_all:mg "all"=none)(z_zip:mg "zip"=none):∀n,FnOk P w K mg base CX0 (n+3) gD dfd ["_law_kinds_here","_law_thing_here","_law_kind"] (spDue K n)
 |0=>fn_none fun vs H Q E ⟨_,_,_,_,_,_,_,_,_,_,_,_,_,h,_⟩=>by omega
 |n+1=>ok_due (j:=n+3) (by omega) F ⟨due_all F mD bD z_dict z_len z_all z_zip n,mD,F.kp,bD⟩ z_dict z_len z_all z_zip
end
end G24
namespace G24
open PySem L2 PySem.W
structure FnAt(K:Frag) (x qual:Str) (st:Stmt) (f:Addr) (fd:FuncData):Prop where
 ex:∃(od:Option Addr) (kV doc pm:Value) (an:Option Addr) (cdv ct:Value) (osl:Array (Option Value)),
  fd=fnOf x qual (defArgs st) (defBody st) (defScope st) .none kV doc pm an cdv ct/\K.lookup f=some ⟨.type "function",od,.func fd,osl⟩/\codeIn K cdv qual=true
 kp:keepIn K (.ref f)=true
theorem FnAt.f{K:Frag}{x qual:Str}{st:Stmt}{f:Addr}{fd:FuncData}(F:FnAt K x qual st f fd):Fun K x qual st f fd:=by
 obtain⟨od,kV,doc,pm,an,cdv,ct,osl,e,l,c⟩:=F.ex
 exact⟨⟨_,od,kV,doc,pm,an,cdv,ct,osl,e,l,c⟩,F.kp⟩
theorem fnAt_mk{K:Frag}{x qual:Str}{st:Stmt}{f:Addr}{od an:Option Addr}{osl:Array (Option Value)}{kV doc pm cdv ct:Value}(l:K.lookup f=some ⟨.type "function",od,.func (fnOf x qual (defArgs st) (defBody st) (defScope st) .none kV doc pm an cdv ct),osl⟩)
  (c:codeIn K cdv qual=true) (k:keepIn K (.ref f)=true):FnAt K x qual st f (fnOf x qual (defArgs st) (defBody st) (defScope st) .none kV doc pm an cdv ct):=⟨⟨od,kV,doc,pm,an,cdv,ct,osl,rfl,l,c⟩,k⟩
theorem all_mk{l:OpenLaw}{w:World}{K:Frag}{h:Heap}{mg:Str->Option Value}{g1 g2 g3 g4 g5 g6 g7 g8 g9 g10 g11 g12 g13 fa cd Pt:Addr}{e1 e2 e3 e4 e5 e6 e7 e8 e9 e10 e11 e12 e13:FuncData}(X:K.In h)(G:h.Ns mainGlobals mg)(hfa:mg "law"=some (.ref fa))
  (a1:nsIn K mainGlobals "tags_of"=some (some (.ref g1)))
  (a2:nsIn K mainGlobals "is_of"=some (some (.ref g2)))
  (a3:nsIn K mainGlobals "_law_feed"=some (some (.ref g3)))
  (a4:nsIn K mainGlobals "_law_take"=some (some (.ref g4)))
  (a5:nsIn K mainGlobals "_law_names"=some (some (.ref g5)))
  (a6:nsIn K mainGlobals "_law_any_kind"=some (some (.ref g6)))
  (a7:nsIn K mainGlobals "_law_kinds"=some (some (.ref g7)))
  (a8:nsIn K mainGlobals "_law_thing"=some (some (.ref g8)))
  (a9:nsIn K mainGlobals "_law_places"=some (some (.ref g9)))
  (a10:nsIn K mainGlobals "_law_changed"=some (some (.ref g10)))
  (a11:nsIn K mainGlobals "_law_due"=some (some (.ref g11)))
  (a12:nsIn K mainGlobals "_law_spoilt"=some (some (.ref g12)))
  (a13:nsIn K mainGlobals "law"=some (some (.ref g13)))
  (F1:FnAt K "tags_of" "tags_of" s_tags_of g1 e1)
  (F2:FnAt K "is_of" "is_of" s_is_of g2 e2)
  (F3:FnAt K "_law_feed" "_law_feed" s_L_feed g3 e3)
  (F4:FnAt K "_law_take" "_law_take" s_L_take g4 e4)
  (F5:FnAt K "_law_names" "_law_names" s_L_names g5 e5)
  (F6:FnAt K "_law_any_kind" "_law_any_kind" s_L_any_kind g6 e6)
  (F7:FnAt K "_law_kinds" "_law_kinds" s_L_kinds g7 e7)
  (F8:FnAt K "_law_thing" "_law_thing" s_L_thing g8 e8)
  (F9:FnAt K "_law_places" "_law_places" s_L_places g9 e9)
  (F10:FnAt K "_law_changed" "_law_changed" s_L_changed g10 e10)
  (F11:FnAt K "_law_due" "_law_due" s_L_due g11 e11)
  (F12:FunC K "_law_spoilt" "_law_spoilt" s_L_spoilt g12 e12 cd)
  (F13:FnAt K "law" "law" s_law g13 e13)
  (z0:nsIn K mainGlobals "len"=some none)
  (z1:nsIn K mainGlobals "range"=some none)
  (z2:nsIn K mainGlobals "int"=some none)
  (z3:nsIn K mainGlobals "tuple"=some none)
  (z4:nsIn K mainGlobals "list"=some none)
  (z5:nsIn K mainGlobals "zip"=some none)
  (z6:nsIn K mainGlobals "dict"=some none)
  (z7:nsIn K mainGlobals "all"=some none)
  (z8:nsIn K mainGlobals "max"=some none)
  (z9:nsIn K mainGlobals "min"=some none)
  (z10:nsIn K mainGlobals "isinstance"=some none)
  (z11:nsIn K mainGlobals "bool"=some none)
  (z12:nsIn K mainGlobals "enumerate"=some none) :
  ∃fd:FuncData,(∀(s:Shared) (v:Value),BindsTo s fd ⟨[v],[]⟩ [("_law_script",v)])/\∀base:Heap,K.In base->base.Ns mainGlobals mg->CodeHd base cd Pt->BltB base mg->FnOk l.prog w K mg base CX0 70 fa fd ["_law_script"] (spLaw Pt K):=by
 have e:=hfa.symm.trans (mg_of X G a13)
 cases e
 have B1:=F1.f.binds (ps:=["program"]) fun _ _ _ _ _ _=>len1 fun _=>rfl
 have u1:=mg_of X G a1
 have B2:=F2.f.binds (ps:=["program","thing","kind"]) fun _ _ _ _ _ _=>len3 fun _ _ _=>rfl
 have u2:=mg_of X G a2
 have B3:=F3.f.binds (ps:=["_law_script","_law_k"]) fun _ _ _ _ _ _=>len2 fun _ _=>rfl
 have u3:=mg_of X G a3
 have B4:=F4.f.binds (ps:=["_law_feed_here","_law_many"]) fun _ _ _ _ _ _=>len2 fun _ _=>rfl
 have u4:=mg_of X G a4
 have B5:=F5.f.binds (ps:=["_law_feed_here","_law_many"]) fun _ _ _ _ _ _=>len2 fun _ _=>rfl
 have u5:=mg_of X G a5
 have B6:=F6.f.binds (ps:=["_law_feed_here","_law_known","_law_down"]) fun _ _ _ _ _ _=>len3 fun _ _ _=>rfl
 have u6:=mg_of X G a6
 have B7:=F7.f.binds (ps:=["_law_feed_here","_law_names_here","_law_tags"]) fun _ _ _ _ _ _=>len3 fun _ _ _=>rfl
 have u7:=mg_of X G a7
 have B8:=F8.f.binds (ps:=["_law_feed_here","_law_kinds_here","_law_kind","_law_down"]) fun _ _ _ _ _ _=>len4 fun _ _ _ _=>rfl
 have u8:=mg_of X G a8
 have B9:=F9.f.binds (ps:=["_law_thing_here","_law_path"]) fun _ _ _ _ _ _=>len2 fun _ _=>rfl
 have u9:=mg_of X G a9
 have B10:=F10.f.binds (ps:=["_law_thing_here","_law_path","_law_put"]) fun _ _ _ _ _ _=>len3 fun _ _ _=>rfl
 have u10:=mg_of X G a10
 have B11:=F11.f.binds (ps:=["_law_kinds_here","_law_thing_here","_law_kind"]) fun _ _ _ _ _ _=>len3 fun _ _ _=>rfl
 have u11:=mg_of X G a11
 have B12:=F12.f.binds (ps:=["_law_feed_here","_law_kinds_here","_law_thing_here"]) fun _ _ _ _ _ _=>len3 fun _ _ _=>rfl
 have u12:=mg_of X G a12
 have B13:=F13.f.binds (ps:=["_law_script"]) fun _ _ _ _ _ _=>len1 fun _=>rfl
 have u13:=mg_of X G a13
 have z_len:=mg_none_of X G z0
 have z_range:=mg_none_of X G z1
 have z_int:=mg_none_of X G z2
 have z_tuple:=mg_none_of X G z3
 have z_list:=mg_none_of X G z4
 have z_zip:=mg_none_of X G z5
 have z_dict:=mg_none_of X G z6
 have z_all:=mg_none_of X G z7
 have z_max:=mg_none_of X G z8
 have z_min:=mg_none_of X G z9
 have z_isinstance:=mg_none_of X G z10
 have z_bool:=mg_none_of X G z11
 have z_enumerate:=mg_none_of X G z12
 obtain⟨od,kV,doc,pm,an,cdv,ct,osl,rfl,lk,cc⟩:=F13.ex
 refine⟨fnOf "law" "law" (defArgs s_law) (defBody s_law) (defScope s_law) .none kV doc pm an cdv ct,fun s v=>.of_eq rfl,fun base _ _ hC hB=>?_⟩
 have TGO:Has l.prog w K mg base "tags_of" 1 _ _ g1 e1:=⟨ok_tags_of F1.f,u1,F1.kp,B1⟩
 have ISO:Has l.prog w K mg base "is_of" 3 _ _ g2 e2:=⟨ok_is_of F2.f TGO z_len z_list z_zip,u2,F2.kp,B2⟩
 have FD:Has l.prog w K mg base "_law_feed" 1 _ _ g3 e3:=⟨ok_feed F3.f z_len,u3,F3.kp,B3⟩
 have TK:Has l.prog w K mg base "_law_take" 1 _ _ g4 e4:=⟨ok_take F4.f,u4,F4.kp,B4⟩
 have NM:Has l.prog w K mg base "_law_names" 2 _ _ g5 e5:=⟨ok_names F5.f TK z_range z_len z_enumerate,u5,F5.kp,B5⟩
 have AK:Has l.prog w K mg base "_law_any_kind" 4 _ _ g6 e6:=⟨any_all F6.f u6 B6 TK z_len 3,u6,F6.kp,B6⟩
 have KI:Has l.prog w K mg base "_law_kinds" 5 _ _ g7 e7:=⟨ok_kinds (j:=4) (by decide) F7.f TK AK z_range z_tuple,u7,F7.kp,B7⟩
 have TH:Has l.prog w K mg base "_law_thing" 20 _ _ g8 e8:=⟨thing_all F8.f u8 B8 TK z_range z_len z_int z_dict z_tuple 12 (by decide),u8,F8.kp,B8⟩
 have PLA:Has l.prog w K mg base "_law_places" 40 _ _ g9 e9:=⟨places_all (c:=9) (by decide) F9.f u9 B9 z_enumerate 31,u9,F9.kp,B9⟩
 have PLS:Has l.prog w K mg base "_law_places" 65 _ _ g9 e9:=⟨places_all (c:=3) (by decide) F9.f u9 B9 z_enumerate 62,u9,F9.kp,B9⟩
 have SPL:Has l.prog w K mg base "_law_spoilt" 50 _ _ g12 e12:=⟨ok_spoilt (gC:=g10) (cfd:=e10) F12 TK AK TH PLA z_len hC hB z_min u10 F10.kp B10 (fun base' fP c pfd qq ov o PUT=>changed_all F10.f u10 B10 PUT z_list z_tuple 31 (by decide)),u12,F12.kp,B12⟩
 have DUE:Has l.prog w K mg base "_law_due" 65 _ _ g11 e11:=⟨due_all F11.f u11 B11 z_dict z_len z_all z_zip 62,u11,F11.kp,B11⟩
 exact ok_law ⟨⟨_,od,kV,doc,pm,an,cdv,ct,osl,rfl,lk,cc⟩,F13.kp⟩ FD NM KI AK TH PLS SPL ISO DUE z_len z_range z_max z_min z_int z_isinstance z_bool
theorem tab_mk{K:Frag}{x:Str}{f c P:Addr}{oc oc2:Value}{od od2:Option Addr}{osl osl2:Array (Option Value)}{fd:FuncData}{vs:Array Value}(h1:nsIn K mainGlobals x=some (some (.ref f)))(h2:K.lookup f=some ⟨oc,od,.func fd,osl⟩)(h3:fd.code=.ref c)(h4:K.lookup c=some ⟨oc2,od2,.fields vs,osl2⟩)(h5:(vs[11]? == some (.ref P))=true):tabIn K x=some (c,P):=by
 unfold tabIn
 rw[h1]
 simp only[h2,h3,h4,eq_of_beq h5]
theorem walk{l:PySem.W.OpenLaw}{q:Program}{loose:List Str}{XP:(Str->Option Value)->Heap->Prop}{YP:World->Heap->Prop}{d:DefRec}{K:Params->PySem.W.Frag}{c Pt:Addr}(hn:l.most=some 63)(hdf:d.params.defaults=[])
  (hY:∀(w:World) (h:Heap),YP w h->(K w.params).In h)
  (ht1:((PyProof.Rows.recsOf q).find? (fun e=>e.name == ("_law_spoilt":Str))).isSome=true) (ht2:∀w:World,PySem.W.tabIn (K w.params) "_law_spoilt"=some (c,Pt)) (ht3:∀w:World,(K w.params).lookup Pt=none)
  (F:∀(w:World) (mg:Str->Option Value) (fa:Addr) (h:Heap),(K w.params).In h->h.Ns mainGlobals mg->mg d.name=some (.ref fa) ->
   ∃fd:FuncData,(∀(s:Shared) (u:Value),BindsTo s fd ⟨[u],[]⟩ [("_law_script",u)])/\∀base:Heap,(K w.params).In base->base.Ns mainGlobals mg->PySem.W.CodeHd base c Pt->BltB base mg->FnOk l.prog w (K w.params) mg base CX0 70 fa fd ["_law_script"] (spLaw Pt (K w.params))) :
  PySem.W.WalkO q loose XP YP l.row.toRowW d [] (fun f vs=>PySem.call f vs) :=
 let⟨_,ht1⟩:=Option.isSome_iff_exists.mp ht1
 L2.walk_ofT (n:=63) (k:=70) (x:="_law_script") (tn:="_law_spoilt") (c:=c) (Pt:=Pt) (sp:=spLaw Pt) hn (by decide) hdf ⟨rfl,by decide,by decide,rfl⟩ hY ht1 ht2 ht3 F (fun _ _ a ns hl _ hT hS=>⟨a,ns,rfl,hS,hl,.inl hT,fun _=>rfl⟩)
end G24
def PySem.W.Fast.tw5454831859214124941 : Unit := ()
def PySem.W.Fast.tw16629613924961526757 : Unit := ()
def PySem.W.Fast.tw11200954393149565512 : Unit := ()
def PySem.W.Fast.tw9005122622176544076 : Unit := ()
def PySem.W.Fast.tw8482652216104482826 : Unit := ()
def PySem.W.Fast.tw1691441625987365683 : Unit := ()
def PySem.W.Fast.tw11437826693466305461 : Unit := ()
def PySem.W.Fast.tw6912901375840307798 : Unit := ()
def PySem.W.Fast.tw14841190829920591709 : Unit := ()
def PySem.W.Fast.tw15813904627489604577 : Unit := ()
def PySem.W.Fast.tw16186954328202759716 : Unit := ()
def PySem.W.Fast.tw2992006070183648464 : Unit := ()
def PySem.W.Fast.tw4282313421050291558 : Unit := ()
def PySem.W.Fast.tw9319528168863272886 : Unit := ()
def PySem.W.Fast.tw17617421958387419917 : Unit := ()
def PySem.W.Fast.tw4027243679067218971 : Unit := ()
def PySem.W.Fast.tw1031234173988046073 : Unit := ()
def PySem.W.Fast.tw15110982608994341625 : Unit := ()
def PySem.W.Fast.tw18080511184985476262 : Unit := ()
open PySem PySem.W PyProof.Rows
set_option maxRecDepth 100000 in
set_option maxHeartbeats 0 in
theorem PySem.Challenge.cw_gapwork_k24_things_of_kinds_holds : PySem.Challenge.rw_gapwork_k24_things_of_kinds.Holds := by
  w_on; o_law; k_head; (case hw => w_witness2)
  k_fill
  refine' G24.walk (l := PySem.Challenge.rw_gapwork_k24_things_of_kinds) rfl rfl (fun w h Y => PySem.W.km_in_of Y) (Pt := 76) ?h1 ?h2 ?h3 ?F
  case h2 => intro w; exact G24.tab_mk (by k_is) (by k_is) (by rfl) (by k_is) (by kernel_rfl)
  case h1 => kernel_rfl
  case h3 => intro w; kernel_rfl
  case F =>
    intro w mg fa h KX G hmg
    refine' G24.all_mk KX G hmg ?a1 ?a2 ?a3 ?a4 ?a5 ?a6 ?a7 ?a8 ?a9 ?a10 ?a11 ?a12 ?a13 ?F1 ?F2 ?F3 ?F4 ?F5 ?F6 ?F7 ?F8 ?F9 ?F10 ?F11 ?F12 ?F13 ?z0 ?z1 ?z2 ?z3 ?z4 ?z5 ?z6 ?z7 ?z8 ?z9 ?z10 ?z11 ?z12
    (case a1 => k_is)
    (case a2 => k_is)
    (case a3 => k_is)
    (case a4 => k_is)
    (case a5 => k_is)
    (case a6 => k_is)
    (case a7 => k_is)
    (case a8 => k_is)
    (case a9 => k_is)
    (case a10 => k_is)
    (case a11 => k_is)
    (case a12 => k_is)
    (case a13 => k_is)
    (case F1 => exact G24.fnAt_mk (by k_is) (by k_is) (by k_is))
    (case F2 => exact G24.fnAt_mk (by k_is) (by k_is) (by k_is))
    (case F3 => exact G24.fnAt_mk (by k_is) (by k_is) (by k_is))
    (case F4 => exact G24.fnAt_mk (by k_is) (by k_is) (by k_is))
    (case F5 => exact G24.fnAt_mk (by k_is) (by k_is) (by k_is))
    (case F6 => exact G24.fnAt_mk (by k_is) (by k_is) (by k_is))
    (case F7 => exact G24.fnAt_mk (by k_is) (by k_is) (by k_is))
    (case F8 => exact G24.fnAt_mk (by k_is) (by k_is) (by k_is))
    (case F9 => exact G24.fnAt_mk (by k_is) (by k_is) (by k_is))
    (case F10 => exact G24.fnAt_mk (by k_is) (by k_is) (by k_is))
    (case F11 => exact G24.fnAt_mk (by k_is) (by k_is) (by k_is))
    (case F12 => exact L2.funC_mk (by k_is) (by k_is) (by k_is))
    (case F13 => exact G24.fnAt_mk (by k_is) (by k_is) (by k_is))
    (case z0 => k_is)
    (case z1 => k_is)
    (case z2 => k_is)
    (case z3 => k_is)
    (case z4 => k_is)
    (case z5 => k_is)
    (case z6 => k_is)
    (case z7 => k_is)
    (case z8 => k_is)
    (case z9 => k_is)
    (case z10 => k_is)
    (case z11 => k_is)
    (case z12 => k_is)
