import PyProof.Rows.All
import Wide.All
import OpenK.AllK
import Wide.FinOn
import PyProof.EqAt
import PyProof.EqKinds
import PyProof.NeKinds
import PyProof.TupleCall
import PyProof.StrLawsRepr
import KE.KIsAll
import KE.KItem
import KE.KDictOf
import KE.KBytesAny
import Lean
import PySem.Challenge.RW_gapwork_k04_names_at_hand
set_option Elab.async false
set_option linter.all false
set_option maxRecDepth 100000
namespace L2
open PySem PySem.Spec PyProof.Rows
noncomputable abbrev Key:=Sum Int Str
noncomputable def j5:Key->Value->Bool
 |.inl k,v=>Value.isInt k v
 |.inr x,v=>Value.isStrOf x v
noncomputable def Cn(w:World):Key->Int
 |.inl k=>hashInt k
 |.inr x=>hashStr w x
theorem bP:∀{k:Key}{v:Value},j5 k v=true->(∃i t,k=Sum.inl i/\v=Value.int i t)\/(∃x t,k=Sum.inr x/\v=Value.str x t)
 |.inl i,v,h=>by
  obtain⟨t,e⟩:=Value.isInt_shape (k:=i) (v:=v) h
  exact .inl ⟨i,t,rfl,e⟩
 |.inr x,v,h=>by
  obtain⟨t,e⟩:=Value.isStrOf_shape (x:=x) (v:=v) h
  exact .inr ⟨x,t,rfl,e⟩
theorem sG(i:Int)(t:Tok):j5 (.inl i) (.int i t)=true:=by simp[j5,Value.isInt]
theorem sH(x:Str)(t:Tok):j5 (.inr x) (.str x t)=true:=by simp[j5,Value.isStrOf]
theorem zj(a b:Int):decide ((Sum.inl a:Key)=Sum.inl b)=(a == b):=by
 by_cases e:a=b
 ·subst e;simp
 ·have h:¬(Sum.inl a:Key)=Sum.inl b:=fun q=>e (Sum.inl.inj q)
  rw[decide_eq_false h]
  exact(beq_eq_false_iff_ne.mpr e).symm
theorem zk(a b:Str):decide ((Sum.inr a:Key)=Sum.inr b)=decide (a=b):=by
 by_cases e:a=b
 ·subst e;simp
 ·have h:¬(Sum.inr a:Key)=Sum.inr b:=fun q=>e (Sum.inr.inj q)
  rw[decide_eq_false h,decide_eq_false e]
theorem zl(a:Int)(b:Str):decide ((Sum.inl a:Key)=Sum.inr b)=false:=decide_eq_false (fun q=>nomatch q)
theorem zm(a:Str)(b:Int):decide ((Sum.inr a:Key)=Sum.inl b)=false:=decide_eq_false (fun q=>nomatch q)
noncomputable def bz(prog:Program)(w:World):PySem.KeyKind prog w Key where
 is:=j5
 hash:=Cn w
 inj:=fun v a b ha hb=>by
  rcases bP ha with⟨i,t,rfl,rfl⟩|⟨x,t,rfl,rfl⟩
  ·rcases bP hb with⟨j,u,rfl,e⟩|⟨y,u,rfl,e⟩
   ·injection e with e1 _;rw[e1]
   ·exact nomatch e
  ·rcases bP hb with⟨j,u,rfl,e⟩|⟨y,u,rfl,e⟩
   ·exact nomatch e
   ·injection e with e1 _;rw[e1]
 byValue:=fun k v h=>by
  rcases bP h with⟨i,t,rfl,rfl⟩|⟨x,t,rfl,rfl⟩<;>rfl
 pyHash:=fun hv h=>by
  rcases bP hv with⟨i,t,rfl,rfl⟩|⟨x,t,rfl,rfl⟩
  ·exact wpAny_pyHash_int h
  ·exact wpAny_pyHash_str h
 eqBool:=fun hu hv h=>by
  rcases bP hu with⟨i,t,rfl,rfl⟩|⟨x,t,rfl,rfl⟩
  ·rcases bP hv with⟨j,u,rfl,rfl⟩|⟨y,u,rfl,rfl⟩
   ·rw[zj]at h;exact wpAny_eqBool_int h
   ·rw[zl]at h;exact SeqAt.EqAt.int_str i t y u _ _ _ _ h
  ·rcases bP hv with⟨j,u,rfl,rfl⟩|⟨y,u,rfl,rfl⟩
   ·rw[zm]at h;exact SeqAt.EqAt.str_int x t j u _ _ _ _ h
   ·rw[zk]at h;exact wpAny_eqBool_str h
 «strs»:=fun k x t v h=>by
  rcases bP h with⟨i,u,rfl,e⟩|⟨y,u,rfl,e⟩
  ·exact nomatch e
  ·injection e with e1 _
   subst e1
   cases v<;>rfl
theorem oh(prog:Program)(w:World)(i:Int)(t:Tok):(bz prog w).is (.inl i) (.int i t)=true:=sG i t
theorem oi(prog:Program)(w:World)(x:Str)(t:Tok):(bz prog w).is (.inr x) (.str x t)=true:=sH x t
inductive V where
 |cW|bl (b:Bool)|int (i:Int)|str (x:Str)|byt (b:Array UInt8)|flt (b:UInt64)|ref (a:Addr)|ty (n:String)
 deriving DecidableEq
noncomputable def RelV:V->Value->Prop
 |.cW,u=>u=Value.none
 |.bl b,u=>u=Value.bool b
 |.int i,u=>∃t,u=Value.int i t
 |.str x,u=>∃t,u=Value.str x t
 |.byt b,u=>∃t,u=Value.bytes b t
 |.flt b,u=>∃t,u=Value.float b t
 |.ref a,u=>u=Value.ref a
 |.ty n,u=>u=Value.type n
noncomputable abbrev Vals:List V->List Value->Prop:=Paired RelV
theorem Vals.length{xs:List V}{us:List Value}(r:Vals xs us):xs.length=us.length:=Paired.length r
theorem Vals.get:∀{xs:List V}{us:List Value}{i:Nat}{x:V},Vals xs us->xs[i]?=some x->∃u,us[i]?=some u/\RelV x u
 |_,_,_,_,.nil,e=>by simp at e
 |_,_,0,_,.cons r _,e=>by simp at e;subst e;exact⟨_,rfl,r⟩
 |_,_,i+1,x,.cons _ t,e=>by
  obtain⟨u,h1,h2⟩:=Vals.get (i:=i) (x:=x) t (by simpa using e)
  exact⟨u,by simpa using h1,h2⟩
theorem Vals.set{x:V}{u:Value}(r:RelV x u):∀{xs:List V}{us:List Value}(i:Nat),Vals xs us->Vals (xs.set i x) (us.set i u)
 |_,_,_,.nil=>.nil
 |_,_,0,.cons _ t=>.cons r t
 |_,_,i+1,.cons q t=>.cons q (Vals.set r i t)
theorem Vals.append:∀{xs ys:List V}{us ws:List Value},Vals xs us->Vals ys ws->Vals (xs++ys) (us++ws)
 |_,_,_,_,.nil,s=>s
 |_,_,_,_,.cons r t,s=>.cons r (Vals.append t s)
theorem Vals.take:∀{xs:List V}{us:List Value}(n:Nat),Vals xs us->Vals (xs.take n) (us.take n)
 |_,_,0,_=>.nil
 |_,_,_+1,.nil=>.nil
 |_,_,n+1,.cons r t=>.cons r (Vals.take n t)
theorem Vals.drop:∀{xs:List V}{us:List Value}(n:Nat),Vals xs us->Vals (xs.drop n) (us.drop n)
 |_,_,0,r=>r
 |_,_,_+1,.nil=>.nil
 |_,_,n+1,.cons _ t=>Vals.drop n t
theorem Vals.none_of:∀{xs:List V}{us:List Value}{i:Nat},Vals xs us->xs[i]?=none->us[i]?=none:=fun{xs us i} r e=>by
 have h1:=r.length
 have h2:xs.length<=i:=List.getElem?_eq_none_iff.mp e
 exact List.getElem?_eq_none_iff.mpr (by omega)
noncomputable def gy:Option V->Option Value->Prop
 |some v,some u=>RelV v u
 |none,none=>True
 |_,_=>False
noncomputable def KV{κ:Type}:List (κ×V)->List (κ×Value)->Prop:=Paired fun(p:κ×V) (q:κ×Value)=>p.1=q.1/\RelV p.2 q.2
noncomputable def kV:Key->V
 |.inl i=>.int i
 |.inr x=>.str x
inductive HO where
 /-- a list -/
 |lst (xs:List V)
 /-- a tuple (never changes) -/
 |tup (xs:List V)
 /-- a dict whose keys are ints and texts;one whose keys are tuples of ints and texts (the empty one is both) -/
 |dK (kvs:List (Key×V))|dT (kvs:List (List Key×V))
 /-- a set of ints: its members,its size -/
 |set (S:Int->Bool) (n:Nat)
 /-- an instance of the class at C,its dict at dx,its attributes -/
 |ins (C dx:Addr) (fs:List (Str×V))
 /-- the dict of the instance at x -/
 |own (x:Addr)
 /-- the dict of an exception -/
 |xd (fs:List (Str×V))
 /-- a bound method,f of x -/
 |met (f x:Addr)
 /-- a range object lo,lo+1,.. below hi -/
 |rng (lo hi:Int)
 /-- a thing that is known to the object (the script;a dict while a loop walks it): read,never written while it is so -/
 |jv (o:Obj) (u:HO)
 /-- a code object's table -/
 |tbl (ps:Array Value)
 /-- any other thing,by what is true of its one object (a def of one's own: SetO a S n:=HO.ext fun h=>..) -/
 |ext (φ:Heap->Prop)
noncomputable abbrev Hp:=Addr->Option HO
noncomputable def upd(H:Hp)(a:Addr)(o:HO):Hp:=fun b=>if b=a then some o else H b
theorem af{H:Hp}{a:Addr}{o:HO}:upd H a o a=some o:=by unfold upd;rw[if_pos rfl]
theorem aq{H:Hp}{a b:Addr}{o:HO}(h:b≠a):upd H a o b=H b:=by unfold upd;rw[if_neg h]
theorem iW{H:Hp}{a b:Addr}{o u:HO}(h:H a=some o)(h':H b=some u)(d:o≠u):a≠b:=by
 intro e;subst e;rw[h]at h';exact d (Option.some.inj h')
theorem aB{H:Hp}{a b:Addr}{o:HO}(h:H a=some o)(h':H b=none):a≠b:=by
 intro e;subst e;rw[h]at h';cases h'
section
variable (P:Program) (w:World)
noncomputable def C4(h:Heap)(a:Addr):Prop:=∃o,h.get? a=some o/\o.dict=none
noncomputable def b6(H:Hp)(h:Heap)(a:Addr):HO->Prop
 |.lst xs=>xs.length<=sizeLine/\∃(its:List Value) (n:Nat),Vals xs its/\h.get? a=some {cls:=.type "list",data:=.seq its.toArray n}
 |.tup xs=>xs.length<=sizeLine/\∃its:List Value,Vals xs its/\IsTup h a its.toArray/\C4 h a
 |.dK kvs=>kvs.length<=sizeLine/\(a == sysModules)=false/\∃vs,KV kvs vs/\h.DictOf (bz P w) a vs
 |.dT kvs=>kvs.length<=sizeLine/\(a == sysModules)=false/\∃xs:List (List Key×Addr×Value),
   Paired (fun(p:List Key×V) (q:List Key×Addr×Value)=>p.1=q.1/\H q.2.1=some (.tup (p.1.map kV))/\RelV p.2 q.2.2) kvs xs /\
   ∃o es ep,h.get? a=some o/\o.ExactDict/\o.data=.dict es ep/\es.toList=xs.map (entryOfKey (tupleKind (bz P w)))/\(xs.map (·.1)).Nodup
 |.set S n=>h.SetOf (intKind P w) a S n
 |.ins C dx fs=>H dx=some (.own a)/\fs.length<=1000/\dx≠a/\h.get? a=some (PySem.W.instObj C dx) /\
   ∃mA,h.Ns1 dx mA/\(∀f,gy (fs.lookup f) (mA f))/\PySem.Within mA (fs.map (·.1))
 |.own _=>∃o,h.get? a=some o
 |.xd fs=>∃mA,h.Ns1 a mA/\∀f,gy (fs.lookup f) (mA f)
 |.rng lo hi=>∃t u v,h.get? a=some {cls:=.type "range",data:=.fields #[.int lo t,.int hi u,.int 1 v]}
 |.jv o u=>h.get? a=some o/\b6 H h a u
 |.tbl ps=>h.get? a=some {cls:=.none,data:=.fields ps}
 |.met f x=>h.get? a=some (PySem.W.methodObj (.ref f) (.ref x))
 |.ext φ=>φ h/\(∃o,h.get? a=some o)/\∀h1 h2:Heap,φ h1->(∀o,h1.get? a=some o->h2.get? a=some o)->φ h2
noncomputable def iV(H:Hp)(h:Heap):Prop:=∀a o,H a=some o->b6 P w H h a o
end
section
variable {P:Program}{w:World}{H H':Hp}{h h':Heap}{a:Addr}{o:HO}
theorem b6.lt(x:b6 P w H h a o):a<h.objs.size:=by
 cases o with
 |lst xs=>obtain⟨_,_,_,_,e⟩:=x;exact Heap.lt_size e
 |tup xs=>obtain⟨_,_,_,p,_⟩:=x;exact p.lt
 |dK kvs=>obtain⟨_,_,_,_,o,_,_,e,_⟩:=x;exact Heap.lt_size e
 |dT kvs=>obtain⟨_,_,_,_,o,_,_,e,_⟩:=x;exact Heap.lt_size e
 |set S n=>obtain⟨o,_,_,_,e,_⟩:=x;exact Heap.lt_size e
 |ins C dx fs=>obtain⟨_,_,_,e,_⟩:=x;exact Heap.lt_size e
 |own y=>obtain⟨_,e⟩:=x;exact Heap.lt_size e
 |xd fs=>obtain⟨_,⟨_,_,_,e,_⟩,_⟩:=x;exact Heap.lt_size e
 |rng lo hi=>obtain⟨_,_,_,e⟩:=x;exact Heap.lt_size e
 |jv ob u=>obtain⟨e,_⟩:=x;exact Heap.lt_size e
 |tbl ps=>exact Heap.lt_size (show h.get? a=some _ from x)
 |met f y=>exact Heap.lt_size (show h.get? a=some _ from x)
 |ext φ=>obtain⟨_,⟨_,e⟩,_⟩:=x;exact Heap.lt_size e
theorem Paired.zp{α β:Type}{F G:α->β->Prop}:∀{l₁:List α}{l₂:List β},Paired F l₁ l₂->(∀a b,F a b->G a b)->Paired G l₁ l₂
 |_,_,.nil,_=>.nil
 |_,_,.cons r t,f=>.cons (f _ _ r) (Paired.zp t f)
theorem b6.stay(x:b6 P w H h a o)(k:∀b u,(b=a\/H b=some (.own a))->h.get? b=some u->h'.get? b=some u)
  (ho:∀b,H b=some (.own a)->H' b=some (.own a)) (ht:∀b xs,H b=some (.tup xs)->H' b=some (.tup xs)):b6 P w H' h' a o:=by
 induction o with
 |lst xs=>obtain⟨z,its,n,r,e⟩:=x;exact⟨z,its,n,r,k _ _ (.inl rfl) e⟩
 |tup xs=>obtain⟨z,its,r,⟨ob,e,c⟩,o2,e2,d2⟩:=x;exact⟨z,its,r,⟨ob,k _ _ (.inl rfl) e,c⟩,o2,k _ _ (.inl rfl) e2,d2⟩
 |dK kvs=>obtain⟨z,y,vs,r,ob,es,ep,e,c⟩:=x;exact⟨z,y,vs,r,ob,es,ep,k _ _ (.inl rfl) e,c⟩
 |dT kvs =>
  obtain⟨z,y,xs,r,ob,es,ep,e,c⟩:=x
  exact⟨z,y,xs,Paired.zp r fun p q z=>⟨z.1,ht _ _ z.2.1,z.2.2⟩,ob,es,ep,k _ _ (.inl rfl) e,c⟩
 |set S n=>obtain⟨ob,es,ep,t,e,c⟩:=x;exact⟨ob,es,ep,t,k _ _ (.inl rfl) e,c⟩
 |ins C dx fs =>
  obtain⟨d,z,ne,e,mA,⟨od,es,ep,e2,c⟩,r⟩:=x
  exact⟨ho _ d,z,ne,k _ _ (.inl rfl) e,mA,⟨od,es,ep,k _ _ (.inr d) e2,c⟩,r⟩
 |own y=>obtain⟨ob,e⟩:=x;exact⟨ob,k _ _ (.inl rfl) e⟩
 |xd fs=>obtain⟨mA,⟨od,es,ep,e,c⟩,r⟩:=x;exact⟨mA,⟨od,es,ep,k _ _ (.inl rfl) e,c⟩,r⟩
 |rng lo hi=>obtain⟨t,u,v,e⟩:=x;exact⟨t,u,v,k _ _ (.inl rfl) e⟩
 |jv ob u ih=>obtain⟨e,q⟩:=x;exact⟨k _ _ (.inl rfl) e,ih q⟩
 |tbl ps =>
  have e:h.get? a=some {cls:=.none,data:=.fields ps}:=x
  show h'.get? a=some {cls:=.none,data:=.fields ps}
  exact k a _ (.inl rfl) e
 |met f y =>
  have e:h.get? a=some (PySem.W.methodObj (.ref f) (.ref y)):=x
  show h'.get? a=some (PySem.W.methodObj (.ref f) (.ref y))
  exact k a _ (.inl rfl) e
 |ext φ=>obtain⟨p,⟨o,e⟩,st⟩:=x;exact⟨st _ _ p fun o q=>k _ _ (.inl rfl) q,⟨o,k _ _ (.inl rfl) e⟩,st⟩
theorem iV.lt(x:iV P w H h)(e:H a=some o):a<h.objs.size:=(x a o e).lt
theorem iV.fresh(x:iV P w H h)(e:h.objs.size<=a):H a=none:=by
 cases q:H a with
 |none=>rfl
 |some u=>exact absurd (Nat.lt_of_lt_of_le (x.lt q) e) (Nat.lt_irrefl _)
theorem iV.kept(x:iV P w H h)(k:∀b u,h.get? b=some u->h'.get? b=some u):iV P w H h':=fun a o e =>
 (x a o e).stay (fun b u _ q=>k b u q) (fun _ q=>q) fun _ _ q=>q
theorem iV.laid(x:iV P w H h)(k:∀b u,h.get? b=some u->h'.get? b=some u)(hp:h.objs.size<=a)(new:b6 P w (upd H a o) h' a o):iV P w (upd H a o) h':=fun b u e=>by
 have hn:=x.fresh hp
 by_cases hb:b=a
 ·subst hb;rw[af]at e;cases e;exact new
 ·rw[aq hb]at e
  exact(x b u e).stay (fun c v _ q=>k c v q) (fun c q=>by rw[aq (aB q hn)];exact q) fun c xs q=>by rw[aq (aB q hn)];exact q
end
noncomputable def Rd(H:Hp)(a:Addr)(u:HO):Prop:=H a=some u\/∃o,H a=some (.jv o u)
theorem Rd.ok{P:Program}{w:World}{H:Hp}{h:Heap}{a:Addr}{u:HO}(r:Rd H a u)(x:iV P w H h):b6 P w H h a u:=by
 rcases r with r|⟨o,r⟩
 ·exact x a u r
 ·obtain⟨_,q⟩:=x a _ r
  exact q
noncomputable def AY:Option HO->Prop
 |some (.lst _)=>True
 |some (.dK _)=>True
 |some (.dT _)=>True
 |some (.set _ _)=>True
 |some (.ins _ _ _)=>True
 |some (.ext _)=>True
 |_=>False
section
variable {P:Program}{w:World}{H:Hp}{h h':Heap}{x e:Addr}{o':HO}
theorem iV.write(ok:iV P w H h)(mu:AY (H x))(he:e=x\/H e=some (.own x))(k:∀b u,b≠e->h.get? b=some u->h'.get? b=some u)(heo:∃u,h'.get? e=some u)
  (new:b6 P w (upd H x o') h' x o'):iV P w (upd H x o') h':=fun b u q=>by
 have nown:∀c y,H c=some (.own y)->c≠x:=fun c y r z=>by subst z;rw[r]at mu;exact mu
 have ntup:∀c xs,H c=some (.tup xs)->c≠x:=fun c xs r z=>by subst z;rw[r]at mu;exact mu
 by_cases hb:b=x
 ·subst hb;rw[af]at q;cases q;exact new
 ·rw[aq hb]at q
  by_cases hbe:b=e
  ·have q':H b=some (.own x):=by
    rcases he with z|z
    ·exact absurd (hbe.trans z) hb
    ·rw[hbe];exact z
   rw[q]at q';cases q'
   obtain⟨v,hv⟩:=heo
   exact⟨v,by rw[hbe];exact hv⟩
  ·refine(ok b u q).stay (fun c v hc r=>k c v ?_ r) (fun c r=>by rw[aq (nown c b r)];exact r) fun c xs r=>by rw[aq (ntup c xs r)];exact r
   rcases hc with rfl|hc
   ·exact hbe
   ·rintro rfl
    rcases he with z|z
    ·exact nown c b hc z
    ·rw[hc]at z;cases z;exact hb rfl
end
structure Un(fs ex:List Addr) (H H':Hp) (h h':Heap):Prop where
 keep:∀b o,h.get? b=some o->H b=none->b∉fs->b∉ex->h'.get? b=some o
 slot:∀b o,h.get? b=some o->H b=none->b∈fs->b∉ex->∃sl,h'.get? b=some {o with slots:=sl}
 free:∀b o,h.get? b=some o->H b=none->b∉ex->H' b=none
 there:∀b o,h.get? b=some o->b∉ex->∃o',h'.get? b=some o'
 tups:∀b xs,H b=some (.tup xs)->H' b=some (.tup xs)
 frzs:∀b o u,H b=some (.jv o u)->H' b=some (.jv o u)
 tbls:∀b ps,H b=some (.tbl ps)->∃more,H' b=some (.tbl (ps++more))
section
variable {fs fs' ex ex':List Addr}{H H1 H2:Hp}{h h1 h2 h':Heap}{a x e:Addr}{o:HO}
theorem Un.any(u:Un fs ex H H1 h h1){b:Addr}{ob:Obj}(q:h.get? b=some ob)(n:H b=none)(hx:b∉ex):∃sl,h1.get? b=some {ob with slots:=sl}:=by
 by_cases hb:b∈fs
 ·exact u.slot b ob q n hb hx
 ·exact⟨ob.slots,u.keep b ob q n hb hx⟩
theorem Un.trans(a:Un fs ex H H1 h h1)(b:Un fs ex H1 H2 h1 h2):Un fs ex H H2 h h2 where
 keep:=fun c ob q n hc hx=>b.keep c ob (a.keep c ob q n hc hx) (a.free c ob q n hx) hc hx
 slot:=fun c ob q n hc hx=>by
  obtain⟨sl,e1⟩:=a.slot c ob q n hc hx
  obtain⟨sl',e2⟩:=b.slot c _ e1 (a.free c ob q n hx) hc hx
  exact⟨sl',e2⟩
 free:=fun c ob q n hx=>by
  obtain⟨o',e1⟩:=a.there c ob q hx
  exact b.free c o' e1 (a.free c ob q n hx) hx
 there:=fun c ob q hx=>by
  obtain⟨o',e1⟩:=a.there c ob q hx
  exact b.there c o' e1 hx
 tups:=fun c xs q=>b.tups c xs (a.tups c xs q)
 frzs:=fun c ob xs q=>b.frzs c ob xs (a.frzs c ob xs q)
 tbls:=fun c ps q=>by
  obtain⟨m1,e1⟩:=a.tbls c ps q
  obtain⟨m2,e2⟩:=b.tbls c _ e1
  exact⟨m1++m2,by rw[e2,Array.append_assoc]⟩
theorem Un.kept(k:∀b u,h.get? b=some u->h'.get? b=some u):Un fs ex H H h h' :=
 ⟨fun b ob q _ _ _=>k b ob q,fun b ob q _ _ _=>⟨ob.slots,k b ob q⟩,fun _ _ _ n _=>n,fun b ob q _=>⟨ob,k b ob q⟩,fun _ _ q=>q,fun _ _ _ q=>q,fun _ ps q=>⟨#[],by rw[q];simp⟩⟩
theorem Un.refl:Un fs ex H H h h:=Un.kept fun _ _ q=>q
theorem Un.laid(k:∀b u,h.get? b=some u->h'.get? b=some u)(hp:h.objs.size<=a)(hn:H a=none):Un fs ex H (upd H a o) h h' where
 keep:=fun b u q _ _ _=>k b u q
 slot:=fun b u q _ _ _=>⟨u.slots,k b u q⟩
 free:=fun b u q n _=>by rw[aq (Nat.ne_of_lt (Nat.lt_of_lt_of_le (Heap.lt_size q) hp))];exact n
 there:=fun b u q _=>⟨u,k b u q⟩
 tups:=fun b xs q=>by rw[aq (aB q hn)];exact q
 frzs:=fun b u xs q=>by rw[aq (aB q hn)];exact q
 tbls:=fun b ps q=>⟨#[],by rw[aq (aB q hn),q];simp⟩
theorem Un.write(mu:AY (H x))(he:e=x\/H e=some (.own x))(k:∀b u,b≠e->h.get? b=some u->h'.get? b=some u)(heo:∃u,h'.get? e=some u):Un fs ex H (upd H x o) h h':=by
 have hx:∀b,H b=none->b≠x:=fun b n z=>by subst z;rw[n]at mu;exact mu
 have hb:∀b,H b=none->b≠e:=fun b n z=>by
  subst z
  rcases he with r|r
  ·exact hx b n r
  ·rw[n]at r;cases r
 have hm:∀b u,H b=some u->¬AY (some u)->b≠x:=fun b u q nm z=>by subst z;rw[q]at mu;exact nm mu
 refine⟨fun b u q n _ _=>k b u (hb b n) q,fun b u q n _ _=>⟨u.slots,k b u (hb b n) q⟩,fun b u q n _=>by rw[aq (hx b n)];exact n,fun b u q _=>?_,
  fun b xs q=>by rw[aq (hm b _ q fun z=>z)];exact q,fun b u xs q=>by rw[aq (hm b _ q fun z=>z)];exact q,fun b ps q=>⟨#[],by rw[aq (hm b _ q fun z=>z),q];simp⟩⟩
 by_cases hbe:b=e
 ·subst hbe;exact heo
 ·exact⟨u,k b u hbe q⟩
end
noncomputable def BV(h:Heap)(H:Hp):List Addr:=(List.range h.objs.size).filter fun a=>(H a).isSome
noncomputable def ng(h:Heap)(H:Hp):Heap:=PySem.W.hideAll h (BV h H)
theorem sI(h:Heap)(H:Hp):(ng h H).objs.size=h.objs.size:=PySem.W.hideAll_size _ _
theorem uo{h:Heap}{H:Hp}{b:Addr}{o:Obj}(e:h.get? b=some o)(n:H b=none):(ng h H).get? b=some o :=
 PySem.W.hideAll_get _ e fun hm=>by
  have q:(H b).isSome=true:=(List.mem_filter.mp hm).2
  rw[n]at q;simp at q
theorem wU{h:Heap}{H:Hp}{b:Addr}{o:Obj}(e:(ng h H).get? b=some o):h.get? b=some o/\H b=none:=by
 have e':h.get? b=some o:=PySem.W.of_hideAll (BV h H) e
 refine⟨e',?_⟩
 cases q:H b with
 |none=>rfl
 |some x =>
  have hm:b∈BV h H:=List.mem_filter.mpr ⟨List.mem_range.mpr (Heap.lt_size e'),by simp[q]⟩
  have z:(ng h H).get? b=none:=PySem.W.hideAll_none (BV h H) hm
  rw[z]at e;cases e
structure Mod(K:PySem.W.Frag) (mg:Str->Option Value) (base:Heap):Prop where
 kin:K.In base
 glob:base.Ns mainGlobals mg
 blt:∃mb,base.Ns builtinsNs mb/\∀x:Str,x≠"__name__"->mb x=bootBuiltins x
 nolimit:base.NoLimit
structure Cx where
 prog:Program
 w:World
 K:PySem.W.Frag
 mg:Str->Option Value
 base:Heap
 A:Around
 N:List Str
 s₀:Shared
 H₀:Hp
 env:Env
 outer:List Env
 stack:List Env
 ex:List Addr
 fn:Str->Bool
 calm:Bool
 pn:List (Addr×Obj)
 xe:Value->Shared->Prop
noncomputable def frs(l:List Env):List Addr:=l.filterMap (·.frame)
noncomputable abbrev Cx.fs(X:Cx):List Addr:=frs X.outer
noncomputable def BW(sc:Scope)(x:Str):Prop:=sc.names.lookup x=some .local\/sc.names.lookup x=some .cell\/sc.names.lookup x=some .free
noncomputable def Loc(sc:Scope)(x:Str):Prop:=sc.names.lookup x=some .local\/sc.names.lookup x=some .cell
noncomputable def Look(env:Env)(h:Heap)(m:Str->Option Value)(x:Str)(u:Value):Prop :=
 (env.kindOf x=some .local/\m x=some u)\/((env.kindOf x=some .cell\/env.kindOf x=some .free)/\∃c,env.cells.lookup x=some c/\h.IsCell c (some u))
structure Cx.Ok(X:Cx):Prop where
 mod:Mod X.K X.mg X.base
 kind:X.env.scope.kind=.function
 glob:X.env.globals=mainGlobals
 blt:X.env.builtins=builtinsNs
 above:X.s₀.heap.objs.size<=X.env.locals
 inj:∀x y c,X.env.cells.lookup x=some c->X.env.cells.lookup y=some c->x=y
 has:∀x,(X.env.kindOf x=some .cell\/X.env.kindOf x=some .free)->∃c,X.env.cells.lookup x=some c
 cab:∀x c,X.fn x=true->X.env.cells.lookup x=some c->X.s₀.heap.objs.size<=c
 hd:X.calm=true->X.A.handled=none
 frames:X.A.frames=some X.stack
 stk:X.stack=X.outer\/(X.stack=X.env::X.outer/\X.env.frame=some X.env.locals)
 exf:∀b∈X.ex,b≠X.env.locals/\∀x c,X.env.cells.lookup x=some c->c≠b
 bs:∀b o,X.base.get? b=some o->X.s₀.heap.get? b=some o/\X.H₀ b=none
 bsz:X.base.objs.size<=X.s₀.heap.objs.size
 noex:∀b o,X.base.get? b=some o->b∉X.ex
 exfs:∀b∈X.ex,b∉X.fs
 j6:X.s₀.heap.FunFrames X.base X.outer
 frf:∀b∈X.fs,X.H₀ b=none
structure Inv(X:Cx) (pins:List (Addr×Obj)) (σ:List (Option V)) (H:Hp) (s:Shared):Prop where
 ok:X.Ok
 os:s.os=X.s₀.os
 bare:AllBare s.gens
 base:Un X.fs X.ex X.H₀ H X.s₀.heap s.heap
 loc:∃m,s.heap.Ns X.env.locals m/\∀(i:Nat) (x:Str) (v:V),X.N[i]?=some x->σ[i]?=some (some v)->BW X.env.scope x->∃u,RelV v u/\Look X.env s.heap m x u
 cell:∀x c,X.env.cells.lookup x=some c->∃v,s.heap.IsCell c v
 free:H X.env.locals=none
 freeC:∀x c,X.env.cells.lookup x=some c->H c=none
 pin:∀p∈X.pn++pins,s.heap.get? p.1=some p.2/\H p.1=none/\p.1≠X.env.locals/\p.1∉X.fs/\∀v,p.2.data≠.cell v
 hok:iV X.prog X.w H s.heap
 len:σ.length=X.N.length
section
variable {X:Cx}{pins:List (Addr×Obj)}{σ:List (Option V)}{H H':Hp}{s:Shared}{h':Heap}
theorem Cx.Ok.Co(ok:X.Ok){b:Addr}{o:Obj}(e:X.base.get? b=some o):b∉X.fs:=fun hb=>by
 have:=(ok.j6.mem hb).1
 rw[e]at this;cases this
theorem Inv.bs(I:Inv X pins σ H s):∀b o,X.base.get? b=some o->s.heap.get? b=some o/\H b=none:=fun b o e =>
 ⟨I.base.keep b o (I.ok.bs b o e).1 (I.ok.bs b o e).2 (I.ok.Co e) (I.ok.noex b o e),I.base.free b o (I.ok.bs b o e).1 (I.ok.bs b o e).2 (I.ok.noex b o e)⟩
theorem Inv.bk(I:Inv X pins σ H s):∀b o,X.base.get? b=some o->s.heap.get? b=some o:=fun b o e=>(I.bs b o e).1
theorem Inv.mod(I:Inv X pins σ H s):Mod X.K X.mg X.base:=I.ok.mod
theorem Inv.wV(I:Inv X pins σ H s):X.K.In s.heap:=I.ok.mod.kin.keeps I.bk
theorem Inv.fr(I:Inv X pins σ H s):∃m,Fr X.base X.env.locals s.heap m :=
 let⟨m,hn,_⟩:=I.loc
 ⟨m,hn,I.bk,Nat.le_trans I.ok.bsz I.ok.above⟩
theorem Inv.lt(I:Inv X pins σ H s):X.env.locals<s.heap.objs.size:=let⟨_,hn,_⟩:=I.loc;hn.lt
theorem Inv.sz(I:Inv X pins σ H s):X.s₀.heap.objs.size<=s.heap.objs.size:=Nat.le_trans I.ok.above (Nat.le_of_lt I.lt)
theorem Inv.wW(I:Inv X pins σ H s){a:Addr}(h:s.heap.objs.size<=a):a∉X.fs:=fun hb=>by
 obtain⟨_,o,ho,_⟩:=I.ok.j6.mem hb
 exact absurd (Nat.lt_of_lt_of_le (Heap.lt_size ho) (Nat.le_trans I.sz h)) (Nat.lt_irrefl _)
theorem Inv.zq(I:Inv X pins σ H s):∀x c,X.env.cells.lookup x=some c->c≠X.env.locals:=fun x c e z=>by
 obtain⟨v,o,ho,hd⟩:=I.cell x c e
 obtain⟨m,⟨o',es,ep,ho',hd',_⟩,_⟩:=I.loc
 rw[z,ho']at ho;cases ho;rw[hd']at hd;cases hd
theorem Inv.j6(I:Inv X pins σ H s):s.heap.FunFrames X.base X.outer:=by
 have all:∀(l:List Env),(∀b∈frs l,b∈X.fs)->X.s₀.heap.FunFrames X.base l->s.heap.FunFrames X.base l:=by
  intro l
  induction l with
  |nil=>intro _ _;trivial
  |cons env r ih =>
   intro hs hl
   obtain⟨hk,⟨L,o,hf,hn,ho,hd⟩,hr⟩:=hl
   have hL:L∈X.fs:=hs L (by unfold frs;rw[List.filterMap_cons,hf];exact List.mem_cons_self)
   obtain⟨sl,e⟩:=I.base.slot L o ho (I.ok.frf L hL) hL fun z=>I.ok.exfs L z hL
   exact⟨hk,⟨L,_,hf,hn,e,hd⟩,ih (fun b hb=>hs b (by unfold frs;rw[List.filterMap_cons,hf];exact List.mem_cons_of_mem _ hb)) hr⟩
 exact all X.outer (fun _ hb=>hb) I.ok.j6
theorem Inv.stack(I:Inv X pins σ H s):s.heap.FunFrames X.base X.stack:=by
 rcases I.ok.stk with e|⟨e,hf⟩
 ·rw[e];exact I.j6
 ·rw[e]
  obtain⟨m,hn,_⟩:=I.loc
  refine .cons (by rw[I.ok.kind];decide) hf hn ?_ I.j6
  exact Heap.get?_none_of_le (Nat.le_trans I.ok.bsz I.ok.above)
theorem Inv.j7(I:Inv X pins σ H s):∀b∈frs X.stack,b∈X.env.locals::X.fs:=fun b hb=>by
 rcases I.ok.stk with e|⟨e,hf⟩
 ·rw[e]at hb;exact List.mem_cons_of_mem _ hb
 ·rw[e]at hb
  unfold frs at hb
  rw[List.filterMap_cons,hf]at hb
  exact hb
theorem Inv.qR(I:Inv X pins σ H s):∀b∈frs X.stack,H b=none:=fun b hb=>by
 rcases List.mem_cons.mp (I.j7 b hb)with e|hb
 ·rw[e];exact I.free
 ·obtain⟨_,o,ho,_⟩:=I.ok.j6.mem hb
  exact I.base.free b o ho (I.ok.frf b hb) fun z=>I.ok.exfs b z hb
theorem Inv.step{g':Array GenState}{t':Nat}{d':Drawn}{ch:List Addr}(I:Inv X pins σ H s)
  (hch:∀b∈ch,(b∈X.ex\/X.s₀.heap.objs.size<=b)/\b≠X.env.locals/\(∀x c,X.env.cells.lookup x=some c->c≠b)/\∀p∈X.pn++pins,p.1≠b)
  (keep:∀b o,b≠X.env.locals->b∉X.fs->b∉ch->s.heap.get? b=some o->H b=none->h'.get? b=some o)
  (slot:∀b o,b≠X.env.locals->b∈X.fs->b∉ch->s.heap.get? b=some o->H b=none->∃sl,h'.get? b=some {o with slots:=sl}) (free:∀b o,b∉ch->s.heap.get? b=some o->H b=none->H' b=none)
  (there:∀b o,b∉ch->s.heap.get? b=some o->∃o',h'.get? b=some o')
  (tups:∀b xs,H b=some (.tup xs)->H' b=some (.tup xs)) (frzs:∀b o u,H b=some (.jv o u)->H' b=some (.jv o u)) (tbls:∀b ps,H b=some (.tbl ps)->∃more,H' b=some (.tbl (ps++more)))
  (ns:∀m,s.heap.Ns X.env.locals m->h'.Ns X.env.locals m) (hok:iV X.prog X.w H' h') (hg:AllBare g') :
  Inv X pins σ H' {s with heap:=h',gens:=g',drawn:=d',toks:=t'}:=by
 have neL:∀b o,X.s₀.heap.get? b=some o->b≠X.env.locals:=fun b o e=>Nat.ne_of_lt (Nat.lt_of_lt_of_le (Heap.lt_size e) I.ok.above)
 have neC:∀b o,X.s₀.heap.get? b=some o->b∉X.ex->b∉ch:=fun b o e hx hb=>by
  rcases(hch b hb).1 with z|z
  ·exact hx z
  ·exact absurd (Nat.lt_of_lt_of_le (Heap.lt_size e) z) (Nat.lt_irrefl _)
 have cellK:∀x c,X.env.cells.lookup x=some c->∀v,s.heap.IsCell c v->h'.IsCell c v:=fun x c e v ⟨o,ho,hd⟩=>by
  have nch:c∉ch:=fun z=>(hch c z).2.2.1 x c e rfl
  by_cases hc:c∈X.fs
  ·obtain⟨sl,q⟩:=slot c o (I.zq x c e) hc nch ho (I.freeC x c e)
   exact⟨_,q,hd⟩
  ·exact⟨o,keep c o (I.zq x c e) hc nch ho (I.freeC x c e),hd⟩
 refine⟨I.ok,I.os,hg,⟨fun b o e n hb hx=>?_,fun b o e n hb hx=>?_,fun b o e n hx=>?_,fun b o e hx=>?_,fun b xs e=>tups b xs (I.base.tups b xs e),fun b o xs e=>frzs b o xs (I.base.frzs b o xs e),fun b ps e=>?_⟩,?_,fun x c e=>?_,?_,fun x c e=>?_,fun p hp=>?_,hok,I.len⟩
 ·exact keep b o (neL b o e) hb (neC b o e hx) (I.base.keep b o e n hb hx) (I.base.free b o e n hx)
 ·obtain⟨sl,e1⟩:=I.base.slot b o e n hb hx
  obtain⟨sl',e2⟩:=slot b _ (neL b o e) hb (neC b o e hx) e1 (I.base.free b o e n hx)
  exact⟨sl',e2⟩
 ·obtain⟨o',e1⟩:=I.base.there b o e hx
  exact free b o' (neC b o e hx) e1 (I.base.free b o e n hx)
 ·obtain⟨o',e1⟩:=I.base.there b o e hx
  exact there b o' (neC b o e hx) e1
 ·obtain⟨m1,e1⟩:=I.base.tbls b ps e
  obtain⟨m2,e2⟩:=tbls b _ e1
  exact⟨m1++m2,by rw[e2,Array.append_assoc]⟩
 ·obtain⟨m,hn,hl⟩:=I.loc
  refine⟨m,ns m hn,fun i x v e1 e2 e3=>?_⟩
  obtain⟨u,r,l⟩:=hl i x v e1 e2 e3
  refine⟨u,r,?_⟩
  rcases l with l|⟨k,c,e,z⟩
  ·exact .inl l
  ·exact .inr ⟨k,c,e,cellK x c e _ z⟩
 ·obtain⟨v,z⟩:=I.cell x c e
  exact⟨v,cellK x c e v z⟩
 ·obtain⟨m,⟨o,_,_,ho,_⟩,_⟩:=I.loc
  exact free _ o (fun z=>(hch _ z).2.1 rfl) ho I.free
 ·obtain⟨v,o,ho,hd⟩:=I.cell x c e
  exact free c o (fun z=>(hch c z).2.2.1 x c e rfl) ho (I.freeC x c e)
 ·obtain⟨e,n,ne,nf,d⟩:=I.pin p hp
  have nch:p.1∉ch:=fun z=>(hch p.1 z).2.2.2 p hp rfl
  exact⟨keep p.1 p.2 ne nf nch e n,free p.1 p.2 nch e n,ne,nf,d⟩
theorem Inv.un{t':Nat}(I:Inv X pins σ H s)(u:Un X.fs [] H H' s.heap h')(hok:iV X.prog X.w H' h'):Inv X pins σ H' {s with heap:=h',toks:=t'}:=by
 obtain⟨m,⟨o,es,ep,ho,r⟩,_⟩:=id I.loc
 obtain⟨sl,hL⟩:=u.any ho I.free (by simp)
 exact I.step (g':=s.gens) (d':=s.drawn) (ch:=[]) (fun _ z=>nomatch z) (fun b o _ hb _ e n=>u.keep b o e n hb (by simp)) (fun b o _ hb _ e n=>u.slot b o e n hb (by simp)) (fun b o _ e n=>u.free b o e n (by simp)) (fun b o _ e=>u.there b o e (by simp)) u.tups u.frzs u.tbls (fun m' hm=>by
  obtain⟨o',es',ep',ho',r'⟩:=hm
  rw[ho]at ho';cases ho'
  exact⟨_,es',ep',hL,r'⟩) hok I.bare
theorem Inv.call{g':Array GenState}{t':Nat}{d':Drawn}{ch:List Addr}(I:Inv X pins σ H s)(u:Un (frs X.stack) ch H H' s.heap h')(hok:iV X.prog X.w H' h')(hg:AllBare g')
  (hch:∀b∈ch,(b∈X.ex\/X.s₀.heap.objs.size<=b)/\b≠X.env.locals/\(∀x c,X.env.cells.lookup x=some c->c≠b)/\∀p∈X.pn++pins,p.1≠b) :
  Inv X pins σ H' {s with heap:=h',gens:=g',drawn:=d',toks:=t'}:=by
 obtain⟨m,⟨o,es,ep,ho,r⟩,_⟩:=id I.loc
 obtain⟨sl,hL⟩:=u.any ho I.free fun z=>(hch _ z).2.1 rfl
 exact I.step (ch:=ch) hch (fun b o hL hb hc e n=>u.keep b o e n (fun z=>(List.mem_cons.mp (I.j7 b z)).elim hL hb) hc) (fun b o _ _ hc e n=>u.any e n hc) (fun b o hc e n=>u.free b o e n hc) (fun b o hc e=>u.there b o e hc) u.tups u.frzs u.tbls (fun m' hm=>by
  obtain⟨o',es',ep',ho',r'⟩:=hm
  rw[ho]at ho';cases ho'
  exact⟨_,es',ep',hL,r'⟩) hok hg
theorem Inv.turned{t':Nat}{it:Addr}(I:Inv X pins σ H s)(k:∀b o,b≠it->s.heap.get? b=some o->h'.get? b=some o)(hn:H it=none)(hL:it≠X.env.locals)
  (h1:it∈X.ex\/X.s₀.heap.objs.size<=it) (h2:∀x c,X.env.cells.lookup x=some c->c≠it) (h3:∀p∈X.pn++pins,p.1≠it):Inv X pins σ H {s with heap:=h',toks:=t'}:=by
 have nit:∀b u,H b=some u->b≠it:=fun b u e z=>by rw[z,hn]at e;cases e
 refine I.step (g':=s.gens) (d':=s.drawn) (ch:=[it]) (fun b hb=>?_) (fun b o _ _ hc e _=>k b o (fun z=>hc (by simp[z])) e) (fun b o _ _ hc e _=>⟨o.slots,k b o (fun z=>hc (by simp[z])) e⟩) (fun _ _ _ _ n=>n)
  (fun b o hc e=>⟨o,k b o (fun z=>hc (by simp[z])) e⟩) (fun _ _ e=>e) (fun _ _ _ e=>e) (fun b ps e=>⟨#[],by rw[e];simp⟩) (fun m hm=>?_) (fun b u e=>?_) I.bare
 ·have e:b=it:=by simpa using hb
  subst e
  exact⟨h1,hL,h2,h3⟩
 ·obtain⟨o,es,ep,ho,r⟩:=hm
  exact⟨o,es,ep,k _ o (Ne.symm hL) ho,r⟩
 ·refine(I.hok b u e).stay (fun c v hc q=>k c v ?_ q) (fun _ q=>q) fun _ _ q=>q
  rcases hc with z|z
  ·rw[z];exact nit b u e
  ·exact nit c _ z
theorem Inv.tok(I:Inv X pins σ H s)(t:Nat):Inv X pins σ H {s with toks:=t}:=I.un (h':=s.heap) (t':=t) Un.refl I.hok
theorem Inv.kept{t':Nat}(I:Inv X pins σ H s)(k:∀b u,s.heap.get? b=some u->h'.get? b=some u):Inv X pins σ H {s with heap:=h',toks:=t'}:=I.un (Un.kept k) (I.hok.kept k)
theorem Inv.laid{a:Addr}{o:HO}{t':Nat}(I:Inv X pins σ H s)(k:∀b u,s.heap.get? b=some u->h'.get? b=some u)(hp:s.heap.objs.size<=a)(new:b6 X.prog X.w (upd H a o) h' a o) :
  Inv X pins σ (upd H a o) {s with heap:=h',toks:=t'}:=I.un (Un.laid k hp (I.hok.fresh hp)) (I.hok.laid k hp new)
theorem Inv.write{x e:Addr}{o:HO}{t':Nat}(I:Inv X pins σ H s)(mu:AY (H x))(he:e=x\/H e=some (.own x))(k:∀b u,b≠e->s.heap.get? b=some u->h'.get? b=some u)(heo:∃u,h'.get? e=some u)
  (new:b6 X.prog X.w (upd H x o) h' x o):Inv X pins σ (upd H x o) {s with heap:=h',toks:=t'}:=I.un (Un.write mu he k heo) (I.hok.write mu he k heo new)
theorem Inv.dN{pins':List (Addr×Obj)}(I:Inv X pins σ H s)(h:∀p∈pins',s.heap.get? p.1=some p.2/\H p.1=none/\p.1≠X.env.locals/\p.1∉X.fs/\∀v,p.2.data≠.cell v):Inv X pins' σ H s :=
 ⟨I.ok,I.os,I.bare,I.base,I.loc,I.cell,I.free,I.freeC,fun p hp=>(List.mem_append.mp hp).elim (fun z=>I.pin p (List.mem_append_left _ z)) (h p),I.hok,I.len⟩
theorem oj{N:List Str}(hN:N.Nodup){i j:Nat}{x:Str}(a:N[i]?=some x)(b:N[j]?=some x):i=j:=by
 obtain⟨h1,e1⟩:=List.getElem?_eq_some_iff.mp a
 obtain⟨h2,e2⟩:=List.getElem?_eq_some_iff.mp b
 exact(List.getElem_inj hN).mp (e1.trans e2.symm)
theorem sJ{M:Model}{A:Around}{E:Value->Shared->Prop}{i:Nat}{x:Str}{v:V}{u:Value}{Q:Unit->Shared->Prop}(I:Inv X pins σ H s)(hN:X.N.Nodup)(hi:X.N[i]?=some x)(hx:Loc X.env.scope x)(r:RelV v u)
  (h:∀s',Inv X pins (σ.set i (some v)) H s'->(∃a,Heap.SameBut a s.heap s'.heap/\(a=X.env.locals\/X.env.cells.lookup x=some a))->Q () s') (hf:X.fn x=true\/X.env.scope.names.lookup x=some .local:=by first|exact .inl rfl|exact .inr rfl|assumption):wpAny M A (storeName X.env x u) Q E s:=by
 obtain⟨m,hn,hl⟩:=id I.loc
 have hcls:(X.env.scope.kind == .class||(X.env.scope.kind == .module&&X.env.locals != X.env.globals))=false:=by rw[I.ok.kind];rfl
 have hiσ:i<σ.length:=by rw[I.len];exact(List.getElem?_eq_some_iff.mp hi).1
 have zq:=I.zq
 have tracked:∀{a:Addr}{h':Heap},(∃o,s.heap.get? a=some o/\H a=none)->Heap.SameBut a s.heap h'->iV X.prog X.w H h':=fun{a h'} ha hs b ob e=>by
  obtain⟨_,_,hfree⟩:=ha
  refine(I.hok b ob e).stay (fun c w' hc q=>(hs.2 c ?_).trans q) (fun _ q=>q) fun _ _ q=>q
  rintro rfl
  rcases hc with rfl|hc
  ·rw[hfree]at e;cases e
  ·rw[hfree]at hc;cases hc
 rcases hx with hk|hk
 ·refine wpAny_storeName_local hk hn (fun h' hn' hs=>?_) hcls
  obtain⟨oL,_,_,hoL,_⟩:=id hn
  refine h _ ⟨I.ok,I.os,I.bare,⟨fun b o e n hb hx=>?_,fun b o e n hb hx=>?_,I.base.free,fun b o e hx=>?_,I.base.tups,I.base.frzs,I.base.tbls⟩,⟨_,hn',fun j y v' e1 e2 e3=>?_⟩,fun y c e=>?_,I.free,I.freeC,fun p hp=>?_,tracked ⟨oL,hoL,I.free⟩ hs,by simpa using I.len⟩ ⟨_,hs,.inl rfl⟩
  ·exact(hs.2 b (Nat.ne_of_lt (Nat.lt_of_lt_of_le (Heap.lt_size e) I.ok.above))).trans (I.base.keep b o e n hb hx)
  ·obtain⟨sl,e1⟩:=I.base.slot b o e n hb hx
   exact⟨sl,(hs.2 b (Nat.ne_of_lt (Nat.lt_of_lt_of_le (Heap.lt_size e) I.ok.above))).trans e1⟩
  ·obtain⟨o',e1⟩:=I.base.there b o e hx
   exact⟨o',(hs.2 b (Nat.ne_of_lt (Nat.lt_of_lt_of_le (Heap.lt_size e) I.ok.above))).trans e1⟩
  ·by_cases hj:j=i
   ·subst hj
    rw[hi]at e1;cases e1
    rw[List.getElem?_set_self hiσ]at e2
    cases e2
    exact⟨u,r,.inl ⟨hk,by simp⟩⟩
   ·rw[List.getElem?_set_ne (Ne.symm hj)]at e2
    obtain⟨u',r',q⟩:=hl j y v' e1 e2 e3
    refine⟨u',r',?_⟩
    rcases q with⟨k,e⟩|⟨k,c,e,z⟩
    ·refine .inl ⟨k,?_⟩
     have:y≠x:=fun e=>hj (oj hN e1 (e▸hi))
     simp[this,e]
    ·exact .inr ⟨k,c,e,z.sameBut hs (zq y c e)⟩
  ·obtain⟨w',z⟩:=I.cell y c e
   exact⟨w',z.sameBut hs (zq y c e)⟩
  ·obtain⟨e,n,ne,nf,d⟩:=I.pin p hp
   exact⟨(hs.2 p.1 ne).trans e,n,ne,nf,d⟩
 ·have hfn:X.fn x=true:=by
   rcases hf with z|z
   ·exact z
   ·rw[z]at hk;cases hk
  obtain⟨c,hc⟩:=I.ok.has x (.inl hk)
  obtain⟨w',z⟩:=I.cell x c hc
  refine wpAny_storeName_cell I.ok.kind hk hc z (fun h' hc' hs=>?_)
  obtain⟨oc,hoc,hocd⟩:=id z
  refine h {s with heap:=h'} ⟨I.ok,I.os,I.bare,⟨fun b o e n hb hx=>?_,fun b o e n hb hx=>?_,I.base.free,fun b o e hx=>?_,I.base.tups,I.base.frzs,I.base.tbls⟩,⟨m,hn.sameBut hs (Ne.symm (zq x c hc)),fun j y v' e1 e2 e3=>?_⟩,fun y c' e=>?_,I.free,I.freeC,fun p hp=>?_,tracked ⟨oc,hoc,I.freeC x c hc⟩ hs,by simpa using I.len⟩ ⟨c,hs,.inr hc⟩
  ·exact(hs.2 b (Nat.ne_of_lt (Nat.lt_of_lt_of_le (Heap.lt_size e) (I.ok.cab x c hfn hc)))).trans (I.base.keep b o e n hb hx)
  ·obtain⟨sl,e1⟩:=I.base.slot b o e n hb hx
   exact⟨sl,(hs.2 b (Nat.ne_of_lt (Nat.lt_of_lt_of_le (Heap.lt_size e) (I.ok.cab x c hfn hc)))).trans e1⟩
  ·obtain⟨o',e1⟩:=I.base.there b o e hx
   exact⟨o',(hs.2 b (Nat.ne_of_lt (Nat.lt_of_lt_of_le (Heap.lt_size e) (I.ok.cab x c hfn hc)))).trans e1⟩
  ·by_cases hj:j=i
   ·subst hj
    rw[hi]at e1;cases e1
    rw[List.getElem?_set_self hiσ]at e2
    cases e2
    exact⟨u,r,.inr ⟨.inl hk,c,hc,hc'⟩⟩
   ·rw[List.getElem?_set_ne (Ne.symm hj)]at e2
    obtain⟨u',r',q⟩:=hl j y v' e1 e2 e3
    refine⟨u',r',?_⟩
    rcases q with q|⟨k,c',e,z'⟩
    ·exact .inl q
    ·refine .inr ⟨k,c',e,z'.sameBut hs ?_⟩
     rintro rfl
     exact hj (oj hN e1 (I.ok.inj _ _ _ e hc▸hi))
  ·by_cases hcc:c'=c
   ·subst hcc;exact⟨_,hc'⟩
   ·obtain⟨w2,z2⟩:=I.cell y c' e
    exact⟨w2,z2.sameBut hs hcc⟩
  ·obtain⟨e,n,ne,nf,d⟩:=I.pin p hp
   refine⟨(hs.2 p.1 ?_).trans e,n,ne,nf,d⟩
   intro q
   rw[q,hoc]at e
   have q':oc=p.2:=Option.some.inj e
   exact d w' (by rw[←q'];exact hocd)
theorem iX{M:Model}{A:Around}{E:Value->Shared->Prop}{i:Nat}{x:Str}{v:V}{u:Value}{Q:Unit->Shared->Prop}(I:Inv X pins σ H s)(hN:X.N.Nodup)(hi:X.N[i]?=some x)(hx:Loc X.env.scope x)(r:RelV v u)
  (h:∀s',Inv X pins (σ.set i (some v)) H s'->Q () s') (hf:X.fn x=true\/X.env.scope.names.lookup x=some .local:=by first|exact .inl rfl|exact .inr rfl|assumption):wpAny M A (storeName X.env x u) Q E s :=
 sJ I hN hi hx r (fun s' I' _=>h s' I') hf
theorem Inv.AZ{s':Shared}{ch:List Addr}(I:Inv X pins σ H s)(ho:s'.os=s.os)(u:Un (frs X.stack) ch H H' s.heap s'.heap)(hok:iV X.prog X.w H' s'.heap)(hg:AllBare s'.gens)
  (hch:∀b∈ch,(b∈X.ex\/X.s₀.heap.objs.size<=b)/\b≠X.env.locals/\(∀x c,X.env.cells.lookup x=some c->c≠b)/\∀p∈X.pn++pins,p.1≠b):Inv X pins σ H' s':=by
 obtain⟨h',g',d',t',o'⟩:=s'
 have e:o'=s.os:=ho
 subst e
 exact I.call (g':=g') (t':=t') (d':=d') u hok hg hch
end
noncomputable abbrev XK:=Value->Option Addr->Hp->Prop
noncomputable abbrev St:=List (Option V)
noncomputable abbrev VK:=V->Hp->Prop
noncomputable abbrev TE:=St->Hp->VK->Prop
noncomputable abbrev TT:=St->Hp->(Bool->Hp->Prop)->Prop
noncomputable abbrev TA:=St->Hp->(List V->Hp->Prop)->Prop
structure Ends where
 nx:St->Hp->Prop
 rt:VK
 bk:St->Hp->Prop:=fun _ _=>False
 ct:St->Hp->Prop:=fun _ _=>False
noncomputable abbrev TS:=Ends->St->Hp->Prop
noncomputable def EP(X:Cx)(pins:List (Addr×Obj))(σ:St)(Q:VK)(u:Value)(s':Shared):Prop:=∃v H',Inv X pins σ H' s'/\RelV v u/\Q v H'
noncomputable def TP(X:Cx)(pins:List (Addr×Obj))(σ:St)(Q:Bool->Hp->Prop)(b:Bool)(s':Shared):Prop:=∃H',Inv X pins σ H' s'/\Q b H'
noncomputable def AP(X:Cx)(pins:List (Addr×Obj))(σ:St)(Q:List V->Hp->Prop)(us:List Value)(s':Shared):Prop:=∃vs H',Inv X pins σ H' s'/\Vals vs us/\Q vs H'
noncomputable def SP(X:Cx)(pins:List (Addr×Obj))(D:Ends)(f:Flow)(s':Shared):Prop :=
 match f with
 |.next=>∃σ' H',Inv X pins σ' H' s'/\D.nx σ' H'
 |.brk=>∃σ' H',Inv X pins σ' H' s'/\D.bk σ' H'
 |.cont=>∃σ' H',Inv X pins σ' H' s'/\D.ct σ' H'
 |.ret u=>∃v σ' H',Inv X pins σ' H' s'/\RelV v u/\D.rt v H'
noncomputable def PE(X:Cx)(e:Expr)(t:TE):Prop :=
 ∀(pins:List (Addr×Obj)) (s:Shared) (σ:St) (H:Hp) (Q:VK),Inv X pins σ H s->t σ H Q->wpAny (model X.prog X.w) X.A (eval e X.env) (EP X pins σ Q) X.xe s
noncomputable def PT(X:Cx)(e:Expr)(t:TT):Prop :=
 ∀(pins:List (Addr×Obj)) (s:Shared) (σ:St) (H:Hp) (Q:Bool->Hp->Prop),Inv X pins σ H s->t σ H Q->wpAny (model X.prog X.w) X.A (isTrue e X.env (eval e X.env)) (TP X pins σ Q) X.xe s
noncomputable def PW(X:Cx)(e:Expr)(t:TT):Prop :=
 ∀(whole:Sem Value) (pins:List (Addr×Obj)) (s:Shared) (σ:St) (H:Hp) (Q:Bool->Hp->Prop),Inv X pins σ H s->t σ H Q->wpAny (model X.prog X.w) X.A (isTrue e X.env whole) (TP X pins σ Q) X.xe s
theorem PW.pt{X:Cx}{e:Expr}{t:TT}(h:PW X e t):PT X e t:=h _
noncomputable def PA(X:Cx)(es:List Expr)(t:TA):Prop :=
 ∀(pos:Pos) (pins:List (Addr×Obj)) (s:Shared) (σ:St) (H:Hp) (Q:List V->Hp->Prop),Inv X pins σ H s->t σ H Q->wpAny (model X.prog X.w) X.A (spliced (backTo pos (starEach es X.env))) (AP X pins σ Q) X.xe s
noncomputable def PS(X:Cx)(st:Stmt)(t:TS):Prop :=
 ∀(pins:List (Addr×Obj)) (s:Shared) (σ:St) (H:Hp) (D:Ends),Inv X pins σ H s->t D σ H->wpAny (model X.prog X.w) X.A (exec st X.env) (SP X pins D) X.xe s
noncomputable def qi(X:Cx)(st:List Stmt)(t:TS):Prop :=
 ∀(pins:List (Addr×Obj)) (s:Shared) (σ:St) (H:Hp) (D:Ends),Inv X pins σ H s->t D σ H->wpAny (model X.prog X.w) X.A (execs st X.env) (SP X pins D) X.xe s
theorem bR{α:Type}{t:Sem α}{Q Q':α->Shared->Prop}{M:Model}{A:Around}{E:Value->Shared->Prop}{s:Shared}(h:wpAny M A t Q E s)(hQ:∀a s,Q a s->Q' a s):wpAny M A t Q' E s:=wpAny_mono h hQ fun _ _ x=>x
section
variable {X:Cx}
noncomputable def dX(i:Nat):TE:=fun σ H Q=>∃v,σ[i]?=some (some v)/\Q v H
noncomputable def tC(v:V):TE:=fun _ H Q=>Q v H
theorem uq{i:Nat}{x:Str}{pos:Pos}(hN:X.N[i]?=some x)(hv:BW X.env.scope x)(hd:(x == ("__debug__":Str))=false:=by decide)(hcd:(x == ("__classdict__":Str))=false:=by decide):PE X (.Name x pos) (dX i):=by
 intro pins s σ H Q I h
 obtain⟨v,e,h⟩:=h
 obtain⟨m,hn,hl⟩:=I.loc
 obtain⟨u,r,l⟩:=hl i x v hN e hv
 have fin:EP X pins σ Q u s:=⟨v,H,I,r,h⟩
 rcases l with⟨hk,hm⟩|⟨hk,c,hc,hcell⟩
 ·exact wpAny_Name (wpAny_loadName_local I.ok.kind hk hn hm fin) hd
 ·rcases hk with hk|hk
  ·exact wpAny_Name (wpAny_loadName_cell I.ok.kind hk hc hcell fin) hd
  ·exact wpAny_Name (wpAny_loadName_free I.ok.kind hk hc hcell fin hcd) hd
theorem ak{i j pos}:PE X (.Constant (.int i) j pos) (tC (.int i)):=fun _ _ _ H _ I h=>wpAny_Constant_int ⟨.int i,H,I.tok _,⟨_,rfl⟩,h⟩
theorem zu{j pos}:PE X (.Constant .none j pos) (tC .cW):=fun _ _ _ H _ I h=>Constant_none ⟨.cW,H,I,rfl,h⟩
theorem au{x j pos}:PE X (.Constant (.str x) j pos) (tC (.str x)):=fun _ _ _ H _ I h=>Calls.Constant_str ⟨.str x,H,I.tok _,⟨_,rfl⟩,h⟩
noncomputable def Gl(X:Cx)(x:Str):Prop:=X.env.kindOf x=some .globalImplicit
theorem qS{E:Value->Shared->Prop}{pins:List (Addr×Obj)}{s:Shared}{σ:St}{H:Hp}{x:Str}{u:Value}{pos:Pos}{Q:Value->Shared->Prop}(I:Inv X pins σ H s)(hg:Gl X x)(hm:X.mg x=some u)(h:Q u s)
  (hd:(x == ("__debug__":Str))=false:=by decide):wpAny (model X.prog X.w) X.A (eval (.Name x pos) X.env) Q E s :=
 Calls.Name_function_global I.ok.kind hg (Calls.loadGlobal_global (by rw[I.ok.glob];exact I.mod.glob.keeps I.bk) hm h) hd
theorem gz{E:Value->Shared->Prop}{pins:List (Addr×Obj)}{s:Shared}{σ:St}{H:Hp}{x:Str}{u:Value}{pos:Pos}{Q:Value->Shared->Prop}(I:Inv X pins σ H s)(hg:Gl X x)(hm:X.mg x=none)(hv:bootBuiltins x=some u)(h:Q u s)
  (hn:x≠"__name__":=by decide) (hd:(x == ("__debug__":Str))=false:=by decide):wpAny (model X.prog X.w) X.A (eval (.Name x pos) X.env) Q E s:=by
 obtain⟨mb,h1,h2⟩:=I.mod.blt
 exact Calls.Name_function_global I.ok.kind hg (Calls.loadGlobal_builtin (by rw[I.ok.glob];exact I.mod.glob.keeps I.bk) hm (by rw[I.ok.blt];exact h1.keeps I.bk) ((h2 x hn).trans hv) h) hd
theorem nh{x:Str}{v:V}{u:Value}{pos:Pos}(hg:Gl X x)(hm:X.mg x=some u)(r:RelV v u)(hd:(x == ("__debug__":Str))=false:=by decide):PE X (.Name x pos) (tC v) :=
 fun _ _ _ H _ I h=>qS I hg hm ⟨v,H,I,r,h⟩ hd
theorem wX{x:Str}{v:V}{u:Value}{pos:Pos}(hg:Gl X x)(hm:X.mg x=none)(hv:bootBuiltins x=some u)(r:RelV v u)(hn:x≠"__name__":=by decide)(hd:(x == ("__debug__":Str))=false:=by decide):PE X (.Name x pos) (tC v) :=
 fun _ _ _ H _ I h=>gz I hg hm hv ⟨v,H,I,r,h⟩ hn hd
variable {a b:Expr}{ta tb:TE}{pos:Pos}
noncomputable def tB(t:TE):TT:=fun σ H Q=>t σ H fun x H1=>∃c,x=.bl c/\Q c H1
theorem zw{e:Expr}{t:TE}(h:PE X e t)(he:∀whole,isTrue e X.env whole=(do let v ←whole;standAt e.pos;holding [v] (truthy v)):=by intro _;rfl):PT X e (tB t):=by
 intro pins s σ H Q I hw
 refine isTrue_plain (bR (h pins s σ H _ I hw) fun v s1 ⟨x,H1,I1,r1,q1⟩=>?_) (he _)
 obtain⟨d,rfl,q⟩:=q1
 cases r1
 exact wpAny_truthy_bool ⟨H1,I1,q⟩
variable {tA tB':TT}{rest:List Expr}
noncomputable def Cp(t u:TT):TT:=fun σ H Q=>t σ H fun c H1=>if c=true then u σ H1 Q else Q false H1
noncomputable def C5(t u:TT):TT:=fun σ H Q=>t σ H fun c H1=>if c=true then Q true H1 else u σ H1 Q
theorem fR(ha:PT X a tA):PW X (.BoolOp .And [a] pos) tA:=by
 intro wh pins s σ H Q I h
 refine isTrue_and (bR (ha pins s σ H Q I h) fun c s1 e=>?_)
 cases c with
 |true=>exact isTrue_and_nil e
 |false=>exact e
theorem zx(ha:PT X a tA):PW X (.BoolOp .Or [a] pos) tA:=by
 intro wh pins s σ H Q I h
 refine isTrue_or (bR (ha pins s σ H Q I h) fun c s1 e=>?_)
 cases c with
 |false=>exact isTrue_or_nil e
 |true=>exact e
theorem gC(ha:PT X a tA)(hb:PW X (.BoolOp .And (b::rest) pos) tB'):PW X (.BoolOp .And (a::b::rest) pos) (Cp tA tB'):=by
 intro wh pins s σ H Q I h
 refine isTrue_and (bR (ha pins s σ H _ I h) fun c s1 ⟨H1,I1,q1⟩=>?_)
 cases c with
 |true=>exact hb wh pins s1 σ H1 Q I1 q1
 |false=>exact⟨H1,I1,q1⟩
theorem A0(ha:PT X a tA)(hb:PW X (.BoolOp .Or (b::rest) pos) tB'):PW X (.BoolOp .Or (a::b::rest) pos) (C5 tA tB'):=by
 intro wh pins s σ H Q I h
 refine isTrue_or (bR (ha pins s σ H _ I h) fun c s1 ⟨H1,I1,q1⟩=>?_)
 cases c with
 |true=>exact⟨H1,I1,q1⟩
 |false=>exact hb wh pins s1 σ H1 Q I1 q1
noncomputable def C6(t:TT)(ta tb:TE):TE:=fun σ H Q=>t σ H fun c H1=>if c=true then ta σ H1 Q else tb σ H1 Q
theorem ur{c:Expr}(hc:PT X c tA)(ha:PE X a ta)(hb:PE X b tb):PE X (.IfExp c a b pos) (C6 tA ta tb):=by
 intro pins s σ H Q I h
 refine wpAny_IfExp (bR (hc pins s σ H _ I h) fun d s1 ⟨H1,I1,q1⟩=>?_)
 cases d with
 |true=>exact ha pins s1 σ H1 Q I1 q1
 |false=>exact hb pins s1 σ H1 Q I1 q1
end
noncomputable def bJ(K:PySem.W.Frag)(H:Hp)(a:Addr)(xs:List V):Prop :=
 Rd H a (.lst xs) \/
  ∃(o:Obj) (its:Array Value) (n:Nat),K.lookup a=some o/\o.cls=.type "list"/\o.dict=none/\o.data=.seq its n/\its.size<=sizeLine/\Vals xs its.toList
noncomputable def aJ(K:PySem.W.Frag)(H:Hp)(a:Addr)(xs:List V):Prop :=
 Rd H a (.tup xs) \/
  ∃(o:Obj) (its:Array Value) (n:Nat),K.lookup a=some o/\o.cls=.type "tuple"/\o.data=.seq its n/\its.size<=sizeLine/\Vals xs its.toList/\o.dict=none
noncomputable def Cq:Value->Option V
 |.none=>some .cW
 |.bool b=>some (.bl b)
 |.int i _=>some (.int i)
 |.str x _=>some (.str x)
 |.bytes b _=>some (.byt b)
 |.float b _=>some (.flt b)
 |.ref a=>some (.ref a)
 |.type n=>some (.ty n)
 |_=>none
theorem RelV.abs{x:V}{u:Value}(r:RelV x u):Cq u=some x:=by
 cases x with
 |cW=>cases r;rfl
 |bl _=>cases r;rfl
 |int _=>obtain⟨t,rfl⟩:=r;rfl
 |str _=>obtain⟨t,rfl⟩:=r;rfl
 |byt _=>obtain⟨t,rfl⟩:=r;rfl
 |flt _=>obtain⟨t,rfl⟩:=r;rfl
 |ref _=>cases r;rfl
 |ty _=>cases r;rfl
theorem RelV.inj{x y:V}{u:Value}(r:RelV x u)(q:RelV y u):x=y:=Option.some.inj (r.abs.symm.trans q.abs)
theorem Vals.inj:∀{xs ys:List V}{us:List Value},Vals xs us->Vals ys us->xs=ys
 |_,_,_,.nil,.nil=>rfl
 |_,_,_,.cons r t,.cons r' t'=>by rw[r.inj r',Vals.inj t t']
section
variable {X:Cx}{pins:List (Addr×Obj)}{σ:St}{H:Hp}{s:Shared}{a:Addr}{xs ys:List V}
theorem bJ.of{K:PySem.W.Frag}(h:H a=some (.lst xs)):bJ K H a xs:=.inl (.inl h)
theorem aJ.of{K:PySem.W.Frag}(h:H a=some (.tup xs)):aJ K H a xs:=.inl (.inl h)
theorem Inv.list(I:Inv X pins σ H s)(h:bJ X.K H a xs):∃its:List Value,Vals xs its/\PlainL s.heap a its.toArray/\xs.length<=sizeLine:=by
 rcases h with h|⟨o,its,n,hk,hc,hd,hs,hz,r⟩
 ·obtain⟨z,its,n,r,e⟩:=h.ok I.hok
  exact⟨its,r,⟨_,n,e,rfl,rfl,rfl⟩,z⟩
 ·refine⟨its.toList,r,⟨o,n,I.wV a o hk,hc,hd,by simpa using hs⟩,?_⟩
  have e:=r.length
  simp only[Array.length_toList]at e
  omega
theorem Inv.tuple(I:Inv X pins σ H s)(h:aJ X.K H a xs):∃its:List Value,Vals xs its/\IsTup s.heap a its.toArray/\xs.length<=sizeLine:=by
 rcases h with h|⟨o,its,n,hk,hc,hs,hz,r,_⟩
 ·obtain⟨z,its,r,p,_⟩:=h.ok I.hok
  exact⟨its,r,p,z⟩
 ·refine⟨its.toList,r,⟨o,I.wV a o hk,hc,n,by simpa using hs⟩,?_⟩
  have e:=r.length
  simp only[Array.length_toList]at e
  omega
theorem Inv.om(I:Inv X pins σ H s)(h:bJ X.K H a xs)(h':bJ X.K H a ys):xs=ys:=by
 obtain⟨its,r,⟨o,n,e,_,_,d⟩,_⟩:=I.list h
 obtain⟨its',r',⟨o',n',e',_,_,d'⟩,_⟩:=I.list h'
 rw[e]at e';cases e'
 rw[d]at d'
 injection d' with d1 _
 have:its=its':=by simpa using congrArg Array.toList d1
 subst this
 exact r.inj r'
theorem Inv.jw(I:Inv X pins σ H s)(h:aJ X.K H a xs)(h':aJ X.K H a ys):xs=ys:=by
 obtain⟨its,r,⟨o,e,_,n,d⟩,_⟩:=I.tuple h
 obtain⟨its',r',⟨o',e',_,n',d'⟩,_⟩:=I.tuple h'
 rw[e]at e';cases e'
 rw[d]at d'
 injection d' with d1 _
 have:its=its':=by simpa using congrArg Array.toList d1
 subst this
 exact r.inj r'
end
noncomputable abbrev Cx.lN(X:Cx)(E:Value->Shared->Prop):Cx:={X with xe:=E}
noncomputable abbrev Cx.zy(X:Cx):Cx:=X.lN fun _ _=>False
theorem Cx.Ok.lN{X:Cx}(ok:X.Ok)(E:Value->Shared->Prop):(X.lN E).Ok :=
 ⟨ok.mod,ok.kind,ok.glob,ok.blt,ok.above,ok.inj,ok.has,ok.cab,ok.hd,ok.frames,ok.stk,ok.exf,ok.bs,ok.bsz,ok.noex,ok.exfs,ok.j6,ok.frf⟩
theorem Cx.Ok.gD{X:Cx}{E:Value->Shared->Prop}(ok:(X.lN E).Ok):X.Ok :=
 ⟨ok.mod,ok.kind,ok.glob,ok.blt,ok.above,ok.inj,ok.has,ok.cab,ok.hd,ok.frames,ok.stk,ok.exf,ok.bs,ok.bsz,ok.noex,ok.exfs,ok.j6,ok.frf⟩
section
variable {X:Cx}{pins:List (Addr×Obj)}{σ:St}{H:Hp}{s:Shared}{E:Value->Shared->Prop}
theorem Inv.lN(I:Inv X pins σ H s)(E:Value->Shared->Prop):Inv (X.lN E) pins σ H s:=⟨I.ok.lN E,I.os,I.bare,I.base,I.loc,I.cell,I.free,I.freeC,I.pin,I.hok,I.len⟩
theorem Inv.gD(I:Inv (X.lN E) pins σ H s):Inv X pins σ H s:=⟨I.ok.gD,I.os,I.bare,I.base,I.loc,I.cell,I.free,I.freeC,I.pin,I.hok,I.len⟩
theorem SP.gD{D:Ends}{f:Flow}{s':Shared}(h:SP (X.lN E) pins D f s'):SP X pins D f s':=by
 cases f with
 |next=>obtain⟨σ',H',I,q⟩:=h;exact⟨σ',H',I.gD,q⟩
 |brk=>obtain⟨σ',H',I,q⟩:=h;exact⟨σ',H',I.gD,q⟩
 |cont=>obtain⟨σ',H',I,q⟩:=h;exact⟨σ',H',I.gD,q⟩
 |ret u=>obtain⟨v,σ',H',I,r,q⟩:=h;exact⟨v,σ',H',I.gD,r,q⟩
theorem qi.zy{st:List Stmt}{t:TS}(h:qi X.zy st t):qi X st t:=fun pins s σ H D I hw =>
 wpAny_mono (h pins s σ H D (I.lN _) hw) (fun _ _ q=>q.gD) fun _ _ z=>False.elim z
end
section
variable {X:Cx}{st:Stmt}{rest:List Stmt}{t u:TS}{e:Expr}{te:TE}{pos:Pos}
noncomputable def yR:TS:=fun D σ H=>D.nx σ H
noncomputable def aO(t u:TS):TS:=fun D σ H=>t {D with nx:=u D} σ H
theorem eY:qi X [] yR:=fun _ _ σ H _ I h=>wpAny_execs_nil ⟨σ,H,I,h⟩
theorem bS(h1:PS X st t)(h2:qi X rest u):qi X (st::rest) (aO t u):=by
 intro pins s σ H D I h
 refine wpAny_execs_cons (bR (h1 pins s σ H {D with nx:=u D} I h) fun f s1 q=>?_)
 cases f with
 |next =>
  obtain⟨σ',H',I',q⟩:=q
  exact h2 pins s1 σ' H' D I' q
 |ret v=>exact q
 |brk=>exact q
 |cont=>exact q
theorem cD(h1:PS X st t):qi X [st] t:=by
 intro pins s σ H D I h
 refine wpAny_execs_cons (bR (h1 pins s σ H D I h) fun f s1 q=>?_)
 cases f with
 |next=>exact wpAny_execs_nil q
 |ret v=>exact q
 |brk=>exact q
 |cont=>exact q
theorem Inv.quiet{pins:List (Addr×Obj)}{σ:St}{H:Hp}{s:Shared}(I:Inv X pins σ H s):interactive X.env=false:=by simp[interactive,I.ok.kind]
noncomputable def A1(te:TE):TS:=fun D σ H=>te σ H fun _ H1=>D.nx σ H1
theorem cS(he:PE X e te)(hs:swapsWith e none pos.line X.env=pure false:=by rfl):PS X (.Expr e pos) (A1 te):=by
 intro pins s σ H D I h
 exact wpAny_Expr_any (bR (he pins s σ H _ I h) fun v s1 ⟨x,H1,I1,r1,q1⟩=>⟨σ,H1,I1,q1⟩) I.quiet hs
noncomputable def A2(te:TE):TS:=fun D σ H=>te σ H D.rt
theorem aK(he:PE X e te):PS X (.Return (some e) pos) (A2 te):=by
 intro pins s σ H D I h
 exact wpAny_Return_some (bR (he pins s σ H _ I h) fun v s1 ⟨x,H1,I1,r1,q1⟩=>⟨x,σ,H1,I1,r1,q1⟩)
noncomputable def Cr(c:TT)(t u:TS):TS:=fun D σ H=>c σ H fun b H1=>if b=true then t D σ H1 else u D σ H1
theorem iY{c:Expr}{a b:List Stmt}{tc:TT}(hc:PT X c tc)(ha:qi X a t)(hb:qi X b u):PS X (.If c a b pos) (Cr tc t u):=by
 intro pins s σ H D I h
 refine wpAny_If (bR (hc pins s σ H _ I h) fun d s1 ⟨H1,I1,q1⟩=>?_)
 cases d with
 |true=>exact ha pins s1 σ H1 D I1 q1
 |false=>exact hb pins s1 σ H1 D I1 q1
noncomputable def zz:TS:=fun _ _ _=>False
theorem uu:PS X st zz:=fun _ _ _ _ _ _ h=>h.elim
end
noncomputable abbrev TG:=V->St->Hp->(St->Hp->Prop)->Prop
noncomputable abbrev yS:=List V->St->Hp->(St->Hp->Prop)->Prop
noncomputable def PG(X:Cx)(target:Expr)(t:TG):Prop :=
 ∀(pins:List (Addr×Obj)) (s:Shared) (σ:St) (H:Hp) (v:V) (u:Value) (Q:St->Hp->Prop),Inv X pins σ H s->RelV v u->t v σ H Q ->
  wpAny (model X.prog X.w) X.A (assign target X.env u) (fun _ s'=>∃σ' H',Inv X pins σ' H' s'/\Q σ' H') X.xe s
noncomputable def A3(X:Cx)(ts:List Expr)(t:yS):Prop :=
 ∀(pins:List (Addr×Obj)) (s:Shared) (σ:St) (H:Hp) (vs:List V) (us:List Value) (Q:St->Hp->Prop),Inv X pins σ H s->Vals vs us->t vs σ H Q ->
  wpAny (model X.prog X.w) X.A (assignInOrder ((assignEach ts X.env).map (·.2)) us) (fun _ s'=>∃σ' H',Inv X pins σ' H' s'/\Q σ' H') X.xe s
noncomputable abbrev zA:=V->V->V->Hp->(Hp->Prop)->Prop
noncomputable def A4(X:Cx)(t:zA):Prop :=
 ∀(pins:List (Addr×Obj)) (s:Shared) (σ:St) (H:Hp) (o i v:V) (ov iv u:Value) (Q:Hp->Prop),Inv X pins σ H s->RelV o ov->RelV i iv->RelV v u->t o i v H Q ->
  wpAny (model X.prog X.w) X.A (setItem ov iv u) (fun _ s'=>∃H',Inv X pins σ H' s'/\Q H') X.xe s
section
variable {X:Cx}{pos:Pos}
noncomputable def cI(i:Nat):TG:=fun v σ H Q=>Q (σ.set i (some v)) H
theorem fS{i:Nat}{x:Str}(hN:X.N.Nodup)(hi:X.N[i]?=some x)(hx:Loc X.env.scope x)(hf:X.fn x=true\/X.env.scope.names.lookup x=some .local:=by first|exact .inl rfl|exact .inr rfl|assumption):PG X (.Name x pos) (cI i):=by
 intro pins s σ H v u Q I r h
 exact wpAny_assign_Name (iX I hN hi hx r (fun s' I'=>⟨_,H,I',h⟩) hf)
noncomputable def wY:yS:=fun vs σ H Q=>vs=[]/\Q σ H
noncomputable def iZ(t:TG)(u:yS):yS:=fun vs σ H Q=>∃v r,vs=v::r/\t v σ H fun σ' H'=>u r σ' H' Q
theorem bq:A3 X [] wY:=by
 intro pins s σ H vs us Q I r h
 obtain⟨e,h⟩:=h
 subst e
 cases r
 exact assignInOrder_nil ⟨σ,H,I,h⟩
theorem aU{e:Expr}{es:List Expr}{t:TG}{u:yS}(h1:PG X e t)(h2:A3 X es u)
  (hs:(assignEach (e::es) X.env).map (·.2)=assign e X.env::(assignEach es X.env).map (·.2):=by rfl):A3 X (e::es) (iZ t u):=by
 intro pins s σ H vs us Q I r h
 obtain⟨v,vr,e1,h⟩:=h
 subst e1
 cases r with
 |cons r rr =>
  rw[hs]
  refine assignInOrder_cons (bR (h1 pins s σ H _ _ _ I r h) fun _ s1 ⟨σ1,H1,I1,q1⟩=>?_)
  exact h2 pins s1 σ1 H1 _ _ Q I1 rr q1
noncomputable def uv(K:PySem.W.Frag)(n:Nat)(t:yS):TG:=fun v σ H Q=>∃a xs,v=.ref a/\aJ K H a xs/\xs.length=n/\t xs σ H Q
theorem zB{es:List Expr}{k:Nat}{t:yS}{n:Nat}(hc:X.calm=true)(h:A3 X es t)
  (hn:(assignEach es X.env).length=n:=by rfl) (hst:(assignEach es X.env).findIdx? (·.1)=none:=by rfl):PG X (.Tuple es k pos) (uv X.K n t):=by
 intro pins s σ H v u Q I r hw
 obtain⟨a,xs,e1,hq,hl,hw⟩:=hw
 subst e1
 cases r
 obtain⟨its,rv,ht,hz⟩:=I.tuple hq
 refine assign_Tuple_tuple (I.ok.hd hc) ht (by simp[hn,←hl,rv.length]) hst fun h' hx=>?_
 have I1:Inv X pins σ H {s with heap:=h'}:=I.kept (t':=s.toks) fun b o e=>hx b o (Nat.ne_of_lt (Heap.lt_size e)) e
 exact h pins _ σ H xs _ Q I1 (by simpa using rv) hw
noncomputable def Cs(to ti:TE)(t:zA):TG:=fun v σ H Q=>to σ H fun o H1=>ti σ H1 fun i H2=>t o i v H2 fun H3=>Q σ H3
theorem j8{o i:Expr}{to ti:TE}{t:zA}(ho:PE X o to)(hi:PE X i ti)(hs:A4 X t)
  (ha:∀v,assign (.Subscript o i pos) X.env v=(do
   let ov ←holding [v] (eval o X.env)
   let iv ←holding [v,ov] (eval i X.env)
   standAt pos
   holding [v,ov,iv] (setItem ov iv v)
   release [v,ov,iv] []):=by intro _;rfl):PG X (.Subscript o i pos) (Cs to ti t):=by
 intro pins s σ H v u Q I r h
 rw[ha]
 refine wpAny_bind (wpAny_holding (bR (ho pins s σ H _ I h) fun ov s1 ⟨x,H1,I1,r1,q1⟩=>?_))
 refine wpAny_bind (wpAny_holding (bR (hi pins s1 σ H1 _ I1 q1) fun iv s2 ⟨y,H2,I2,r2,q2⟩=>?_))
 refine wpAny_bind (wpAny_standAt (wpAny_bind (wpAny_holding (bR (hs pins s2 σ H2 x y v ov iv u _ I2 r1 r2 r q2) fun _ s3 ⟨H3,I3,q3⟩=>?_))))
 exact wpAny_release ⟨σ,H3,I3,q3⟩
noncomputable def lO(te:TE)(g:TG):TS:=fun D σ H=>te σ H fun x H1=>g x σ H1 D.nx
theorem fT{tg e:Expr}{te:TE}{g:TG}(he:PE X e te)(hg:PG X tg g)(hs:swapsWithSole [tg] e pos.line X.env=pure false:=by rfl)(hw:swappedStores [tg] e X.env=pure none:=by rfl)
  (h1:(assignEach [tg] X.env).map (·.2)=[assign tg X.env]:=by rfl):PS X (.Assign [tg] e pos) (lO te g):=by
 intro pins s σ H D I h
 refine wpAny_Assign_stores (bR (he pins s σ H _ I h) fun v s1 ⟨x,H1,I1,r1,q1⟩=>?_) hs hw
 rw[h1]
 exact bR (hg pins s1 σ H1 x v _ I1 r1 q1) fun _ s2 q=>q
theorem fU{i:Nat}{x:Str}{e:Expr}{te:TE}{pos':Pos}(hN:X.N.Nodup)(hi:X.N[i]?=some x)(hx:Loc X.env.scope x)(he:PE X e te)(hs:swapsWith e (some (.Name x pos')) pos.line X.env=pure false:=by rfl)(hf:X.fn x=true\/X.env.scope.names.lookup x=some .local:=by first|exact .inl rfl|exact .inr rfl|assumption) :
  PS X (.Assign [.Name x pos'] e pos) (lO te (cI i)):=by
 intro pins s σ H D I h
 refine wpAny_Assign_Name (bR (he pins s σ H _ I h) fun v s1 ⟨y,H1,I1,r1,q1⟩=>?_) hs
 exact iX I1 hN hi hx r1 (fun s2 I2=>⟨_,H1,I2,q1⟩) hf
noncomputable def Ct(i j:Nat)(ta:TA):TS:=fun D σ H=>ta σ H fun vs H1=>∃v w,vs=[v,w]/\D.nx ((σ.set i (some v)).set j (some w)) H1
theorem uw{i j:Nat}{x y:Str}{a b:Expr}{ta:TA}{px py pt:Pos}{kt k2 pt2}(hc:X.calm=true)(hN:X.N.Nodup)(hi:X.N[i]?=some x)(hj:X.N[j]?=some y)(hij:i≠j)
  (hx:X.env.scope.names.lookup x=some .local) (hy:X.env.scope.names.lookup y=some .local) (ha:PA X [a,b] ta)
  (hw:swappedStores [.Tuple [.Name x px,.Name y py] kt pt] (.Tuple [a,b] k2 pt2) X.env=pure (some [x,y]))
  (hs:swapsWithSole [.Tuple [.Name x px,.Name y py] kt pt] (.Tuple [a,b] k2 pt2) pos.line X.env=pure false:=by rfl) :
  PS X (.Assign [.Tuple [.Name x px,.Name y py] kt pt] (.Tuple [a,b] k2 pt2) pos) (Ct i j ta):=by
 intro pins s σ H D I h
 rw[exec_Assign_arm]
 refine wpAny_bind (wpAny_standAt ?_)
 rw[hs]
 refine wpAny_bind (wpAny_pure ?_)
 rw[if_neg (by decide)]
 refine wpAny_bind (Tuple_ (bR (ha _ pins s σ H _ I h) fun us s1 ⟨vs,H1,I1,r1,q1⟩=>?_))
 obtain⟨v,w,e1,q1⟩:=q1
 subst e1
 obtain⟨u1,u2,rfl,rv,rw'⟩:∃u1 u2,us=[u1,u2]/\RelV v u1/\RelV w u2:=by
  cases r1 with
  |cons p q =>
   cases q with
   |cons p' q' =>
    cases q'
    exact⟨_,_,rfl,p,p'⟩
 refine wpAny_newObj_type ?_ (by show 2<=sizeLine;decide)
 have I2:Inv X pins σ H1 {s1 with heap:=s1.heap.push {cls:=.type "tuple",data:=.seq [u1,u2].toArray}}:=I1.kept (t':=s1.toks) fun b o e=>Heap.get?_push_of_some _ e
 rw[hw]
 refine wpAny_bind (wpAny_pure ?_)
 show wpAny (model X.prog X.w) X.A (do rule "assign.swapped-stores";let items ←unpackItems (.ref s1.heap.objs.size) 2 none;assignInOrder [fun v=>bindName X.env y v,fun v=>bindName X.env x v] items.reverse;pure Flow.next) _ _ _
 refine wpAny_bind (wpAny_rule (wpAny_bind (unpackItems_tuple (items:=#[u1,u2]) (I.ok.hd hc) (IsTup.new s1.heap _) fun h' hx'=>?_)))
 have I3:=I2.kept (h':=h') (t':=s1.toks) fun b o e=>hx' b o (Nat.ne_of_lt (Heap.lt_size e)) e
 show wpAny _ _ (assignInOrder [fun v=>bindName X.env y v,fun v=>bindName X.env x v] [u2,u1]>>=fun _=>pure Flow.next) _ _ _
 refine wpAny_bind (assignInOrder_cons (wpAny_bindName (iX I3 hN hj (.inl hy) rw' (fun s2 I4=>?_) (.inr hy))))
 refine assignInOrder_cons (wpAny_bindName (iX I4 hN hi (.inl hx) rv (fun s3 I5=>assignInOrder_nil (wpAny_pure ?_)) (.inr hx)))
 rw[List.set_comm _ _ (Ne.symm hij)]at I5
 exact⟨_,H1,I5,q1⟩
end
section
variable {X:Cx}{pos:Pos}
noncomputable def zC(c:TT)(tb:TS):TS:=fun D σ H=>∃W:Nat->St->Hp->Prop,(∃m,W m σ H)/\∀m σ H,W m σ H ->
 c σ H fun b H1=>if b=true then ∃N:St->Hp->Prop,(∀σ' H',N σ' H'->∃m',m' < m/\W m' σ' H')/\tb {D with nx:=N,ct:=N,bk:=D.nx} σ H1 else D.nx σ H1
theorem uz{c:Expr}{body:List Stmt}{tc:TT}{tb:TS}(hp:PassesOwn (model X.prog X.w) X.A X.env X.xe)(hc:PT X c tc)(hb:qi X body tb):PS X (.While c body [] pos) (zC tc tb):=by
 intro pins s σ H D I h
 obtain⟨W,⟨m0,w0⟩,turn⟩:=h
 refine wpAny_While (codeAny_whileLoop (fun n s'=>∃σ' H',Inv X pins σ' H' s'/\W n σ' H') ?_ m0 ⟨σ,H,I,w0⟩)
 rintro n s1 ⟨σ1,H1,I1,w1⟩
 refine wpAny_passesOwn hp (bR (hc pins s1 σ1 H1 _ I1 (turn n σ1 H1 w1)) fun b s2 ⟨H2,I2,q2⟩=>?_)
 cases b with
 |true =>
  obtain⟨N,hN,q2⟩:=q2
  rw[if_pos rfl]
  refine wpAny_passesOwn hp (bR (hb pins s2 σ1 H2 _ I2 q2) fun f s3 q3=>?_)
  cases f with
  |next =>
   obtain⟨σ3,H3,I3,n3⟩:=q3
   obtain⟨m',hm,w3⟩:=hN σ3 H3 n3
   exact⟨m',hm,σ3,H3,I3,w3⟩
  |cont =>
   obtain⟨σ3,H3,I3,n3⟩:=q3
   obtain⟨m',hm,w3⟩:=hN σ3 H3 n3
   exact⟨m',hm,σ3,H3,I3,w3⟩
  |brk=>exact q3
  |ret v=>exact q3
 |false =>
  rw[if_neg Bool.false_ne_true]
  exact wpAny_execs_nil ⟨σ1,H2,I2,q2⟩
end
structure It where
 go:Nat->Hp->Prop
 yld:Nat->Hp->V->Hp->Prop
 stop:Nat->Hp->Prop
noncomputable def jT(X:Cx)(pins:List (Addr×Obj))(H:Hp)(b:Addr):Prop :=
 H b=none/\b≠X.env.locals/\b∉X.fs/\(b∈X.ex\/X.s₀.heap.objs.size<=b)/\(∀x c,X.env.cells.lookup x=some c->c≠b)/\∀p∈X.pn++pins,p.1≠b
theorem Inv.uA{X:Cx}{pins:List (Addr×Obj)}{σ:St}{H H':Hp}{s:Shared}{b:Addr}(I:Inv X pins σ H s)(hb:s.heap.objs.size<=b)(hn:H' b=none):jT X pins H' b:=by
 refine⟨hn,Nat.ne_of_gt (Nat.lt_of_lt_of_le I.lt hb),I.wW hb,.inr (Nat.le_trans I.sz hb),fun x c e z=>?_,fun p hp z=>?_⟩
 ·obtain⟨v,q⟩:=I.cell x c e
  exact absurd (Nat.lt_of_lt_of_le q.lt (by rw[z];exact hb)) (Nat.lt_irrefl _)
 ·exact absurd (Nat.lt_of_lt_of_le (Heap.lt_size (I.pin p hp).1) (by rw[z];exact hb)) (Nat.lt_irrefl _)
structure Turn(P:Program) (w:World) (K:PySem.W.Frag) (tg:Expr) (J:It) (fp:List Addr) (it:Addr) (tn:Nat->Heap->Prop):Prop where
 mem:it∈fp
 obj:∀i h,tn i h->∀b∈fp,∃o,h.get? b=some o/\∀v,o.data≠.cell v
 keep:∀i h h',tn i h->(∀b∈fp,∀o,h.get? b=some o->h'.get? b=some o)->tn i h'
 item:∀(X:Cx),X.prog=P->X.w=w->X.K=K->X.calm=true->∀(i:Nat) (pins:List (Addr×Obj)) (s:Shared) (σ:St) (H:Hp) (E:Value->Shared->Prop),Inv X pins σ H s->(∀b∈fp,jT X pins H b)->tn i s.heap->J.go i H ->
  wpAny (model P w) X.A (pyNext (.ref it)) (fun r s1=>∃u,r=some u /\
   wpAny (model P w) X.A (letOwnedTupleGo tg (.ref it) u) (fun _ s2=>∃x H',Inv X pins σ H' s2/\RelV x u/\J.yld i H x H'/\tn (i+1) s2.heap/\∀b∈fp,H' b=none) E s1) E s
 done:∀(X:Cx),X.prog=P->X.w=w->X.K=K->X.calm=true->∀(i:Nat) (pins:List (Addr×Obj)) (s:Shared) (σ:St) (H:Hp) (E:Value->Shared->Prop),Inv X pins σ H s->(∀b∈fp,jT X pins H b)->tn i s.heap->J.stop i H ->
  wpAny (model P w) X.A (pyNext (.ref it)) (fun r s1=>r=none/\Inv X pins σ H s1) E s
 self:∀(A:Around) (i:Nat) (s:Shared) (Q:Value->Shared->Prop) (E:Value->Shared->Prop),tn i s.heap->Q (.ref it) s->wpAny (model P w) A (pyIter (.ref it)) Q E s
noncomputable abbrev TI:=St->Hp->(It->Hp->Prop)->Prop
noncomputable def C0(X:Cx)(pins:List (Addr×Obj))(σ:St)(tg:Expr)(R:It->Hp->Prop)(itv:Value)(s2:Shared):Prop :=
 ∃(it:Addr) (fp:List Addr) (tn:Nat->Heap->Prop) (J:It) (H':Hp),itv=.ref it/\Inv X pins σ H' s2/\Turn X.prog X.w X.K tg J fp it tn/\tn 0 s2.heap/\(∀b∈fp,jT X pins H' b)/\R J H'
noncomputable def PI(X:Cx)(tg iter:Expr)(wi:TI):Prop :=
 ∀(pins:List (Addr×Obj)) (s:Shared) (σ:St) (H:Hp) (R:It->Hp->Prop),Inv X pins σ H s->wi σ H R ->
  wpAny (model X.prog X.w) X.A (eval iter X.env) (fun v s1=>wpAny (model X.prog X.w) X.A (pyIter v) (C0 X pins σ tg R) X.xe s1) X.xe s
theorem uB {M : Model} {A : Around} {E : Value → Shared → Prop} {s : Shared} {tg : Expr} {it : Addr} {u : Value} {o : Obj} {n : String} {vs : Array Value} {Q : Unit → Shared → Prop} (ho : s.heap.get? it = some o) (hc : o.cls = .type n) (hd : o.data = .fields vs)
    (hn : ["enumerate", "zip", "dict_itemiterator", "dict_reverseitemiterator", "odict_iterator", "itertools.zip_longest", "itertools.pairwise"].contains n = false) (hQ : Q () s) : wpAny M A (letOwnedTupleGo tg (.ref it) u) Q E s := by
  unfold letOwnedTupleGo
  cases tg <;> first
    | exact wpAny_pure hQ
    | (cases u <;> first
        | exact wpAny_pure hQ
        | (refine wpAny_bind (wpAny_load ho ?_)
           rw [hc, hd]
           show wpAny M A (if (["enumerate", "zip", "dict_itemiterator", "dict_reverseitemiterator", "odict_iterator", "itertools.zip_longest", "itertools.pairwise"].contains n && vs[0]? == some (rawInt _)) = true then _ else _) Q E s
           rw [if_neg (by intro h; rw [hn, Bool.false_and] at h; cases h)]
           exact wpAny_pure hQ))
noncomputable def yT(K:PySem.W.Frag)(a:Addr):It :=
 ⟨fun i H=>∃xs x,bJ K H a xs/\xs[i]?=some x,fun i H x H'=>H'=H/\∀xs,bJ K H a xs->xs[i]?=some x,fun i H=>∃xs,bJ K H a xs/\xs.length<=i⟩
noncomputable def uC(K:PySem.W.Frag)(a:Addr):It :=
 ⟨fun i H=>∃xs x,aJ K H a xs/\xs[i]?=some x,fun i H x H'=>H'=H/\∀xs,aJ K H a xs->xs[i]?=some x,fun i H=>∃xs,aJ K H a xs/\xs.length<=i⟩
noncomputable def zD(lo:Int)(n:Nat):It:=⟨fun i _=>i<n,fun i H x H'=>H'=H/\x=.int (lo+i),fun i _=>n<=i⟩
theorem sL{P:Program}{w:World}{K:PySem.W.Frag}{tg:Expr}(a it:Addr):Turn P w K tg (yT K a) [it] it (fun i h=>h.IsListIter it a i) where
 mem:=by simp
 obj:=fun i h st b hb=>by
  have e:b=it:=by simpa using hb
  subst e
  obtain⟨o,e,c,d⟩:=st
  exact⟨o,e,fun v z=>by rw[d]at z;cases z⟩
 keep:=fun i h h' st k=>st.at fun o e=>k it (by simp) o e
 item:=by
  intro X hP hw hK hc i pins s σ H E I hf st hg
  subst hP hw hK
  obtain⟨xs,x,hq,hx⟩:=hg
  obtain⟨its,rv,p,hz⟩:=I.list hq
  obtain⟨u,hu,ru⟩:=rv.get hx
  obtain⟨f0,f1,f2,f3,f4,f5⟩:=hf it (by simp)
  refine wpAny_pyNext_list_item st p.isList (x:=u) (by simpa using hu) fun h' st' sb=>?_
  have I1:Inv X pins σ H {s with heap:=h'}:=I.turned (t':=s.toks) (fun b o hb e=>(sb.2 b hb).trans e) f0 f1 f3 f4 f5
  obtain⟨o,e,c,d⟩:=id st'
  exact⟨u,rfl,uB (s:={s with heap:=h'}) e c d (by decide) ⟨x,H,I1,ru,⟨rfl,fun ys hy=>by rw[I.om hy hq];exact hx⟩,st',fun b hb=>(hf b hb).1⟩⟩
 done:=by
  intro X hP hw hK hc i pins s σ H E I hf st hg
  subst hP hw hK
  obtain⟨xs,hq,hx⟩:=hg
  obtain⟨its,rv,p,hz⟩:=I.list hq
  obtain⟨f0,f1,f2,f3,f4,f5⟩:=hf it (by simp)
  have hl:=rv.length
  exact wpAny_pyNext_list_end (I.ok.hd hc) st p.isList (by simp;omega) fun h' eb=>⟨rfl,I.turned (t':=s.toks) (fun b o hb e=>eb b o hb e) f0 f1 f3 f4 f5⟩
 self:=fun _ _ _ _ _ st h=>wpAny_pyIter_listiter st h
theorem qj{P:Program}{w:World}{K:PySem.W.Frag}{tg:Expr}(a it:Addr):Turn P w K tg (uC K a) [it] it (fun i h=>h.IsTupleIter it a i) where
 mem:=by simp
 obj:=fun i h st b hb=>by
  have e:b=it:=by simpa using hb
  subst e
  obtain⟨o,e,c,d⟩:=st
  exact⟨o,e,fun v z=>by rw[d]at z;cases z⟩
 keep:=fun i h h' st k=>st.at fun o e=>k it (by simp) o e
 item:=by
  intro X hP hw hK hc i pins s σ H E I hf st hg
  subst hP hw hK
  obtain⟨xs,x,hq,hx⟩:=hg
  obtain⟨its,rv,p,hz⟩:=I.tuple hq
  obtain⟨u,hu,ru⟩:=rv.get hx
  obtain⟨f0,f1,f2,f3,f4,f5⟩:=hf it (by simp)
  refine wpAny_pyNext_tuple_item st (show s.heap.IsTuple a its.toArray from p) (x:=u) (by simpa using hu) fun h' st' sb=>?_
  have I1:Inv X pins σ H {s with heap:=h'}:=I.turned (t':=s.toks) (fun b o hb e=>(sb.2 b hb).trans e) f0 f1 f3 f4 f5
  obtain⟨o,e,c,d⟩:=id st'
  exact⟨u,rfl,uB (s:={s with heap:=h'}) e c d (by decide) ⟨x,H,I1,ru,⟨rfl,fun ys hy=>by rw[I.jw hy hq];exact hx⟩,st',fun b hb=>(hf b hb).1⟩⟩
 done:=by
  intro X hP hw hK hc i pins s σ H E I hf st hg
  subst hP hw hK
  obtain⟨xs,hq,hx⟩:=hg
  obtain⟨its,rv,p,hz⟩:=I.tuple hq
  obtain⟨f0,f1,f2,f3,f4,f5⟩:=hf it (by simp)
  have hl:=rv.length
  exact wpAny_pyNext_tuple_end (I.ok.hd hc) st (show s.heap.IsTuple a its.toArray from p) (by simp;omega) fun h' eb=>⟨rfl,I.turned (t':=s.toks) (fun b o hb e=>eb b o hb e) f0 f1 f3 f4 f5⟩
 self:=fun _ _ _ _ _ st h=>wpAny_pyIter_tupleiter st h
theorem qk{P:Program}{w:World}{K:PySem.W.Frag}{tg:Expr}(it:Addr)(lo:Int)(n:Nat):Turn P w K tg (zD lo n) [it] it (fun i h=>IsRangeIter h it (lo+(i:Nat)*1) ((n:Int) - (i:Nat)) 1) where
 mem:=by simp
 obj:=fun i h st b hb=>by
  have e:b=it:=by simpa using hb
  subst e
  exact⟨_,st,fun v z=>by
   have z':Data.fields _=Data.cell v:=z
   cases z'⟩
 keep:=fun i h h' st k=>k it (by simp) _ st
 item:=by
  intro X hP hw hK hc i pins s σ H E I hf st hg
  subst hP hw hK
  obtain⟨f0,f1,f2,f3,f4,f5⟩:=hf it (by simp)
  have W:=Walks.range (prog:=X.prog) (w:=X.w) (I.ok.hd hc) it lo 1 n
  refine W.item i s _ _ hg st fun v h' tk hv st' kk=>?_
  obtain⟨t,rfl⟩:=hv
  have I1:Inv X pins σ H {s with heap:=h',toks:=tk}:=I.turned (fun b o hb e=>kk b o (by simpa using hb) e) f0 f1 f3 f4 f5
  refine⟨_,rfl,uB (s:={s with heap:=h',toks:=tk}) (n:="range_iterator") st' rfl rfl (by decide) ⟨.int (lo+i),H,I1,⟨t,?_⟩,⟨rfl,rfl⟩,st',fun b hb=>(hf b hb).1⟩⟩
  rw[Int.mul_one]
 done:=by
  intro X hP hw hK hc i pins s σ H E I hf st hg
  subst hP hw hK
  obtain⟨f0,f1,f2,f3,f4,f5⟩:=hf it (by simp)
  exact wpAny_pyNext_range_end (I.ok.hd hc) st (by have:n<=i:=hg;omega) fun h' eb=>⟨rfl,I.turned (t':=s.toks) (fun b o hb e=>eb b o hb e) f0 f1 f3 f4 f5⟩
 self:=fun _ _ _ _ _ st h=>wpAny_pyIter_rangeiter st h
section
variable {X:Cx}{tg:Expr}
noncomputable def yU(K:PySem.W.Frag)(tl:TE):TI:=fun σ H R=>tl σ H fun x H1=>∃a,x=.ref a/\(∃xs,bJ K H1 a xs)/\R (yT K a) H1
noncomputable def zE(K:PySem.W.Frag)(tl:TE):TI:=fun σ H R=>tl σ H fun x H1=>∃a,x=.ref a/\(∃xs,aJ K H1 a xs)/\R (uC K a) H1
theorem cO{l:Expr}{tl:TE}(hl:PE X l tl):PI X tg l (yU X.K tl):=by
 intro pins s σ H R I h
 refine bR (hl pins s σ H _ I h) fun v s1 ⟨x,H1,I1,r1,q1⟩=>?_
 obtain⟨a,e,⟨xs,hq⟩,q⟩:=q1
 subst e
 cases r1
 obtain⟨its,rv,p,hz⟩:=I1.list hq
 refine wpAny_pyIter_list p.isList ?_
 refine⟨s1.heap.objs.size,[s1.heap.objs.size],_,_,H1,rfl,I1.kept (t':=s1.toks) fun b o e=>Heap.get?_push_of_some _ e,sL a _,⟨_,Heap.get?_push_size _ rfl,rfl,rfl⟩,fun b hb=>?_,q⟩
 have e:b=s1.heap.objs.size:=by simpa using hb
 subst e
 exact I1.uA (Nat.le_refl _) (I1.hok.fresh (Nat.le_refl _))
theorem b7{l:Expr}{tl:TE}(hl:PE X l tl):PI X tg l (zE X.K tl):=by
 intro pins s σ H R I h
 refine bR (hl pins s σ H _ I h) fun v s1 ⟨x,H1,I1,r1,q1⟩=>?_
 obtain⟨a,e,⟨xs,hq⟩,q⟩:=q1
 subst e
 cases r1
 obtain⟨its,rv,p,hz⟩:=I1.tuple hq
 refine wpAny_pyIter_tuple (show s1.heap.IsTuple a its.toArray from p) ?_
 refine⟨s1.heap.objs.size,[s1.heap.objs.size],_,_,H1,rfl,I1.kept (t':=s1.toks) fun b o e=>Heap.get?_push_of_some _ e,qj a _,⟨_,Heap.get?_push_size _ rfl,rfl,rfl⟩,fun b hb=>?_,q⟩
 have e:b=s1.heap.objs.size:=by simpa using hb
 subst e
 exact I1.uA (Nat.le_refl _) (I1.hok.fresh (Nat.le_refl _))
theorem uD{pins:List (Addr×Obj)}{σ:St}{H:Hp}{s:Shared}{R:It->Hp->Prop}{E:Value->Shared->Prop}{lo hi:Int}{t u v:Tok}{tk:Nat}(I:Inv X pins σ H s)(h1:-(2 ^ 62)<=lo)(h2:lo<2 ^ 62)(h3:-(2 ^ 62)<=hi)(h4:hi<2 ^ 62)
  (q:R (zD lo (hi-lo).toNat) H):wpAny (model X.prog X.w) X.A (pyIter (.ref s.heap.objs.size)) (C0 X pins σ tg R) E {s with heap:=s.heap.push {cls:=.type "range",data:=.fields #[.int lo t,.int hi u,.int 1 v]},toks:=tk}:=by
 refine wpAny_pyIter_range (IsRange.new ..) (small_one h1 h2 h3 h4) ?_
 have I1:Inv X pins σ H {s with heap:=s.heap.push {cls:=.type "range",data:=.fields #[.int lo t,.int hi u,.int 1 v]},toks:=tk}:=I.kept fun b o e=>Heap.get?_push_of_some _ e
 refine⟨(s.heap.push {cls:=.type "range",data:=.fields #[.int lo t,.int hi u,.int 1 v]}).objs.size,[(s.heap.push {cls:=.type "range",data:=.fields #[.int lo t,.int hi u,.int 1 v]}).objs.size],_,_,H,rfl,
  I1.kept (t':=tk) fun b o e=>Heap.get?_push_of_some _ e,qk _ lo (hi-lo).toNat,?_,fun b hb=>?_,q⟩
 ·have e1:lo+((0:Nat):Int)*1=lo:=by simp
  have e2:(((hi-lo).toNat:Nat):Int) - ((0:Nat):Int)=Builtin.Range.rangeSize lo hi 1:=by rw[rangeSize_one];split<;>omega
  show IsRangeIter _ _ (lo+((0:Nat):Int)*1) ((((hi-lo).toNat:Nat):Int) - ((0:Nat):Int)) 1
  rw[e1,e2]
  exact Heap.get?_push_size _ rfl
 ·have e:b=(s.heap.push {cls:=.type "range",data:=.fields #[.int lo t,.int hi u,.int 1 v]}).objs.size:=by simpa using hb
  subst e
  exact I1.uA (Nat.le_refl _) (I1.hok.fresh (Nat.le_refl _))
noncomputable def A5(ta:TA):TI:=fun σ H R=>ta σ H fun vs H1=>∃j:Int,vs=[.int j]/\-(2 ^ 62)<=j/\j<2 ^ 62/\R (zD 0 j.toNat) H1
theorem fD{a:Expr}{ta:TA}{p pos:Pos}(hg:Gl X "range")(hm:X.mg "range"=none)(ha:PA X [a] ta)(hs:starEach [a] X.env=[(false,eval a X.env)]:=by rfl):PI X tg (.Call (.Name "range" p) [a] [] pos) (A5 ta):=by
 intro pins s σ H R I h
 refine Call_ (gz I hg hm boot_range (PyProof.Rows.callWith_type1 (bR (ha pos pins s σ H _ I h) fun us s1 ⟨vs,H1,I1,r1,q1⟩=>?_) hs rfl))
 obtain⟨j,e,q1,q2,q⟩:=q1
 subst e
 cases r1 with
 |cons r rr =>
  cases rr
  obtain⟨t,rfl⟩:=r
  exact call_range_1 (uD I1 (by omega) (by omega) q1 q2 (by simpa using q))
noncomputable def A6(wi:TI)(g:TG)(tb:TS):TS:=fun D σ H=>wi σ H fun J H1=>∃W:Nat->Nat->St->Hp->Prop,(∃m,W 0 m σ H1)/\∀i m σ H,W i m σ H ->
 (J.stop i H/\D.nx σ H)\/(J.go i H/\∃N:St->Hp->Prop,(∀σ' H',N σ' H'->∃m',m' < m/\W (i+1) m' σ' H')/\∀x H',J.yld i H x H'->g x σ H' fun σ2 H2=>tb {D with nx:=N,ct:=N,bk:=D.nx} σ2 H2)
noncomputable def jx(fp:List Addr)(h:Heap):List (Addr×Obj):=fp.filterMap fun b=>(h.get? b).map fun o=>(b,o)
theorem di{fp:List Addr}{h:Heap}{b:Addr}{o:Obj}(hb:b∈fp)(e:h.get? b=some o):(b,o)∈jx fp h:=List.mem_filterMap.mpr ⟨b,hb,by rw[e];rfl⟩
theorem sN{fp:List Addr}{h:Heap}{p:Addr×Obj}(hp:p∈jx fp h):p.1∈fp/\h.get? p.1=some p.2:=by
 obtain⟨b,hb,e⟩:=List.mem_filterMap.mp hp
 cases q:h.get? b with
 |none=>rw[q]at e;cases e
 |some o =>
  rw[q]at e
  have e':(b,o)=p:=Option.some.inj e
  subst e'
  exact⟨hb,q⟩
theorem Inv.pinned{pins:List (Addr×Obj)}{σ:St}{H:Hp}{s:Shared}{fp:List Addr}(I:Inv X pins σ H s)(hf:∀b∈fp,jT X pins H b)(ho:∀b∈fp,∃o,s.heap.get? b=some o/\∀v,o.data≠.cell v):Inv X (pins++jx fp s.heap) σ H s :=
 I.dN fun p hp=>(List.mem_append.mp hp).elim (fun z=>I.pin p (List.mem_append_right _ z)) fun z=>by
  obtain⟨hb,e⟩:=sN z
  obtain⟨f0,f1,f2,_⟩:=hf p.1 hb
  obtain⟨o,e',d⟩:=ho p.1 hb
  rw[e]at e';cases e'
  exact⟨e,f0,f1,f2,d⟩
theorem Inv.j9{pins pl:List (Addr×Obj)}{σ:St}{H:Hp}{s:Shared}(I:Inv X (pins++pl) σ H s):Inv X pins σ H s:=I.dN fun p hp=>I.pin p (List.mem_append_right _ (List.mem_append_left _ hp))
theorem fV{iter:Expr}{body:List Stmt}{wi:TI}{g:TG}{tb:TS}{pos:Pos}(hp:PassesOwn (model X.prog X.w) X.A X.env X.xe)(hc:X.calm=true)(hi:PI X tg iter wi)(hg:PG X tg g)(hb:qi X body tb)
  (hs:∀x,foldedSetIterable iter X.env x=pure x:=by intro _;rfl):PS X (.For tg iter body [] pos) (A6 wi g tb):=by
 intro pins s σ H D I h
 refine wpAny_For (bR (hi pins s σ H _ I h) fun v s1 h1=>bR h1 fun itv s2 h2=>?_) hs
 obtain⟨it,fp,tn,J,H2,e,I2,T,st2,f2,W,⟨m0,w0⟩,turn⟩:=h2
 subst e
 -- what stays true of the iterator's objects through the loop
 have stat:∀{H':Hp},(∀b∈fp,H' b=none)->∀b∈fp,jT X pins H' b:=fun hn b hb=>⟨hn b hb,(f2 b hb).2⟩
 refine codeAny_forLoop_any (fun n s'=>∃i σ' H',Inv X pins σ' H' s'/\tn i s'.heap/\(∀b∈fp,H' b=none)/\W i n σ' H') ?_ m0 ⟨0,σ,H2,I2,st2,fun b hb=>(f2 b hb).1,w0⟩
 rintro n s3 ⟨i,σ3,H3,I3,st3,fr3,w3⟩
 rcases turn i n σ3 H3 w3 with⟨stop,qn⟩|⟨go,N,hN,step⟩
 ·refine wpAny_passesOwn hp (bR (T.done X rfl rfl rfl hc i pins s3 σ3 H3 X.xe I3 (stat fr3) st3 stop) fun r s4 ⟨hr,I4⟩=>?_)
  subst hr
  exact wpAny_execs_nil ⟨σ3,H3,I4,qn⟩
 ·refine wpAny_passesOwn hp (bR (T.item X rfl rfl rfl hc i pins s3 σ3 H3 X.xe I3 (stat fr3) st3 go) fun r s4 ⟨u,hr,h4⟩=>?_)
  subst hr
  refine wpAny_passesOwn hp (bR h4 fun _ s5 ⟨x,H5,I5,r5,y5,st5,fr5⟩=>?_)
  have I5':=I5.pinned (stat fr5) (T.obj _ _ st5)
  refine wpAny_passesOwn hp (bR (hg _ s5 σ3 H5 x u _ I5' r5 (step x H5 y5)) fun _ s6 ⟨σ6,H6,I6,q6⟩=>?_)
  refine wpAny_passesOwn hp (bR (hb _ s6 σ6 H6 _ I6 q6) fun f s7 q7=>?_)
  have again:∀{σ7:St}{H7:Hp},Inv X (pins++jx fp s5.heap) σ7 H7 s7->N σ7 H7->∃m,m<n/\∃i σ' H',Inv X pins σ' H' s7/\tn i s7.heap/\(∀b∈fp,H' b=none)/\W i m σ' H':=fun{σ7 H7} I7 n7=>by
   obtain⟨m',hm,w7⟩:=hN σ7 H7 n7
   refine⟨m',hm,i+1,σ7,H7,I7.j9,T.keep _ _ _ st5 fun b hb o e=>(I7.pin (b,o) (List.mem_append_right _ (List.mem_append_right _ (di hb e)))).1,fun b hb=>?_,w7⟩
   obtain⟨o,e,d⟩:=T.obj _ _ st5 b hb
   exact(I7.pin (b,o) (List.mem_append_right _ (List.mem_append_right _ (di hb e)))).2.1
  cases f with
  |next=>obtain⟨σ7,H7,I7,n7⟩:=q7;exact again I7 n7
  |cont=>obtain⟨σ7,H7,I7,n7⟩:=q7;exact again I7 n7
  |brk=>obtain⟨σ7,H7,I7,q7⟩:=q7;exact⟨σ7,H7,I7.j9,q7⟩
  |ret v=>obtain⟨x7,σ7,H7,I7,r7,q7⟩:=q7;exact⟨x7,σ7,H7,I7.j9,r7,q7⟩
end
theorem kc{K:PySem.W.Frag}{a:Addr}{xs:List V}{g:TG}{tb:TS}{D:Ends}{σ:St}{H:Hp}(Pv:Nat->St->Hp->Prop)(h0:Pv 0 σ H)(hl:∀i σ H,i<=xs.length->Pv i σ H->bJ K H a xs)
  (hs:∀i x σ H,xs[i]?=some x->Pv i σ H->g x σ H fun σ2 H2=>tb {D with nx:=Pv (i+1),ct:=Pv (i+1),bk:=D.nx} σ2 H2) (hd:∀σ H,Pv xs.length σ H->D.nx σ H) :
  ∃W:Nat->Nat->St->Hp->Prop,(∃m,W 0 m σ H)/\∀i m σ H,W i m σ H ->
   ((yT K a).stop i H/\D.nx σ H)\/((yT K a).go i H/\∃N:St->Hp->Prop,(∀σ' H',N σ' H'->∃m',m' < m/\W (i+1) m' σ' H')/\∀x H',(yT K a).yld i H x H'->g x σ H' fun σ2 H2=>tb {D with nx:=N,ct:=N,bk:=D.nx} σ2 H2):=by
 refine⟨fun i m σ H=>m=xs.length-i/\i<=xs.length/\Pv i σ H,⟨xs.length,by simp,Nat.zero_le _,h0⟩,?_⟩
 rintro i m σ H ⟨rfl,hi,p⟩
 have q:=hl i σ H hi p
 by_cases hlt:i<xs.length
 ·refine .inr ⟨⟨xs,xs[i],q,by simp[hlt]⟩,Pv (i+1),fun σ' H' p'=>⟨xs.length - (i+1),by omega,rfl,hlt,p'⟩,fun x H' y=>?_⟩
  obtain⟨e,y⟩:=y
  subst e
  exact hs i x σ _ (y xs q) p
 ·have e:i=xs.length:=by omega
  subst e
  exact .inl ⟨⟨xs,q,Nat.le_refl _⟩,hd σ H p⟩
theorem i3{K:PySem.W.Frag}{a:Addr}{xs:List V}{g:TG}{tb:TS}{D:Ends}{σ:St}{H:Hp}(Pv:Nat->St->Hp->Prop)(h0:Pv 0 σ H)(hl:∀i σ H,i<=xs.length->Pv i σ H->aJ K H a xs)
  (hs:∀i x σ H,xs[i]?=some x->Pv i σ H->g x σ H fun σ2 H2=>tb {D with nx:=Pv (i+1),ct:=Pv (i+1),bk:=D.nx} σ2 H2) (hd:∀σ H,Pv xs.length σ H->D.nx σ H) :
  ∃W:Nat->Nat->St->Hp->Prop,(∃m,W 0 m σ H)/\∀i m σ H,W i m σ H ->
   ((uC K a).stop i H/\D.nx σ H)\/((uC K a).go i H/\∃N:St->Hp->Prop,(∀σ' H',N σ' H'->∃m',m' < m/\W (i+1) m' σ' H')/\∀x H',(uC K a).yld i H x H'->g x σ H' fun σ2 H2=>tb {D with nx:=N,ct:=N,bk:=D.nx} σ2 H2):=by
 refine⟨fun i m σ H=>m=xs.length-i/\i<=xs.length/\Pv i σ H,⟨xs.length,by simp,Nat.zero_le _,h0⟩,?_⟩
 rintro i m σ H ⟨rfl,hi,p⟩
 have q:=hl i σ H hi p
 by_cases hlt:i<xs.length
 ·refine .inr ⟨⟨xs,xs[i],q,by simp[hlt]⟩,Pv (i+1),fun σ' H' p'=>⟨xs.length - (i+1),by omega,rfl,hlt,p'⟩,fun x H' y=>?_⟩
  obtain⟨e,y⟩:=y
  subst e
  exact hs i x σ _ (y xs q) p
 ·have e:i=xs.length:=by omega
  subst e
  exact .inl ⟨⟨xs,q,Nat.le_refl _⟩,hd σ H p⟩
theorem lX{lo:Int}{n:Nat}{g:TG}{tb:TS}{D:Ends}{σ:St}{H:Hp}(Pv:Nat->St->Hp->Prop)(h0:Pv 0 σ H)
  (hs:∀i σ H,i<n->Pv i σ H->g (.int (lo+i)) σ H fun σ2 H2=>tb {D with nx:=Pv (i+1),ct:=Pv (i+1),bk:=D.nx} σ2 H2) (hd:∀σ H,Pv n σ H->D.nx σ H) :
  ∃W:Nat->Nat->St->Hp->Prop,(∃m,W 0 m σ H)/\∀i m σ H,W i m σ H ->
   ((zD lo n).stop i H/\D.nx σ H)\/((zD lo n).go i H/\∃N:St->Hp->Prop,(∀σ' H',N σ' H'->∃m',m' < m/\W (i+1) m' σ' H')/\∀x H',(zD lo n).yld i H x H'->g x σ H' fun σ2 H2=>tb {D with nx:=N,ct:=N,bk:=D.nx} σ2 H2):=by
 refine⟨fun i m σ H=>m=n-i/\i<=n/\Pv i σ H,⟨n,by simp,Nat.zero_le _,h0⟩,?_⟩
 rintro i m σ H ⟨rfl,hi,p⟩
 by_cases hlt:i<n
 ·refine .inr ⟨hlt,Pv (i+1),fun σ' H' p'=>⟨n - (i+1),by omega,rfl,hlt,p'⟩,fun x H' y=>?_⟩
  obtain⟨e,y⟩:=y
  subst e y
  exact hs i σ _ hlt p
 ·have e:i=n:=by omega
  subst e
  exact .inl ⟨Nat.le_refl _,hd σ H p⟩
noncomputable abbrev R2:=V->V->Hp->VK->Prop
noncomputable def i4(X:Cx)(f:Value->Value->Sem Value)(r:R2):Prop :=
 ∀(pins:List (Addr×Obj)) (s:Shared) (σ:St) (H:Hp) (x y:V) (v u:Value) (Q:VK),Inv X pins σ H s->RelV x v->RelV y u->r x y H Q ->
  wpAny (model X.prog X.w) X.A (f v u) (EP X pins σ Q) X.xe s
noncomputable def Cu(X:Cx)(f:Value->Sem Value)(r:V->Hp->VK->Prop):Prop :=
 ∀(pins:List (Addr×Obj)) (s:Shared) (σ:St) (H:Hp) (x:V) (v:Value) (Q:VK),Inv X pins σ H s->RelV x v->r x H Q ->
  wpAny (model X.prog X.w) X.A (f v) (EP X pins σ Q) X.xe s
noncomputable def dO(X:Cx)(f:Value)(r:List V->Hp->VK->Prop):Prop :=
 ∀(pins:List (Addr×Obj)) (s:Shared) (σ:St) (H:Hp) (xs:List V) (us:List Value) (Q:VK),Inv X pins σ H s->Vals xs us->r xs H Q ->
  wpAny (model X.prog X.w) X.A (call f us) (EP X pins σ Q) X.xe s
noncomputable def Cv(X:Cx)(r:V->Hp->(Bool->Hp->Prop)->Prop):Prop :=
 ∀(pins:List (Addr×Obj)) (s:Shared) (σ:St) (H:Hp) (x:V) (v:Value) (Q:Bool->Hp->Prop),Inv X pins σ H s->RelV x v->r x H Q ->
  wpAny (model X.prog X.w) X.A (truthy v) (TP X pins σ Q) X.xe s
noncomputable def uE(r:R2)(ta tb:TE):TE:=fun σ H Q=>ta σ H fun x H1=>tb σ H1 fun y H2=>r x y H2 Q
noncomputable def C7(r:V->Hp->VK->Prop)(ta:TE):TE:=fun σ H Q=>ta σ H fun x H1=>r x H1 Q
noncomputable def rI(C:Int->Int->Prop)(g:Int->Int->V):R2:=fun x y H Q=>∃i j,x=.int i/\y=.int j/\C i j/\Q (g i j) H
noncomputable def zF(g:Int->Int->V):R2:=fun x y H Q=>∃i j,x=.int i/\y=.int j/\Q (g i j) H
noncomputable def rU(g:Int->V):V->Hp->VK->Prop:=fun x H Q=>∃i,x=.int i/\Q (g i) H
section
variable {X:Cx}{a b c:Expr}{ta tb tc:TE}{pos:Pos}
theorem zG(ha:PE X a ta)(hb:PE X b tb){pins:List (Addr×Obj)}{s:Shared}{σ:St}{H:Hp}{R:V->V->Hp->Prop}(I:Inv X pins σ H s)
  (h:ta σ H fun x H1=>tb σ H1 fun y H2=>R x y H2) {Q:Value->Shared->Prop}{f:Value->Value->Sem Value}
  (hf:∀v u s2 x y H2,Inv X pins σ H2 s2->RelV x v->RelV y u->R x y H2->wpAny (model X.prog X.w) X.A (f v u) Q X.xe s2) :
  wpAny (model X.prog X.w) X.A (eval a X.env) (fun v s₁=>wpAny (model X.prog X.w) X.A (eval b X.env) (fun u s₂=>wpAny (model X.prog X.w) X.A (f v u) Q X.xe s₂) X.xe s₁) X.xe s:=by
 refine bR (ha pins s σ H _ I h) fun v s1 ⟨x,H1,I1,r1,q1⟩=>?_
 refine bR (hb pins s1 σ H1 _ I1 q1) fun u s2 ⟨y,H2,I2,r2,q2⟩=>?_
 exact hf v u s2 x y H2 I2 r1 r2 q2
theorem bw{op:Operator}{r:R2}(ho:i4 X (binaryOp op) r)(ha:PE X a ta)(hb:PE X b tb):PE X (.BinOp a op b pos) (uE r ta tb):=by
 intro pins s σ H Q I h
 exact wpAny_BinOp (zG ha hb I h fun v u s2 x y H2 I2 rx ry q=>ho pins s2 σ H2 x y v u Q I2 rx ry q)
theorem jI{op:UnaryOp}{r:V->Hp->VK->Prop}(ho:Cu X (unaryOp op) r)(ha:PE X a ta):PE X (.UnaryOp op a pos) (C7 r ta):=by
 intro pins s σ H Q I h
 exact UnaryOp_ (bR (ha pins s σ H _ I h) fun v s1 ⟨x,H1,I1,r1,q1⟩=>ho pins s1 σ H1 x v Q I1 r1 q1)
theorem BX{f:Value->Value->Sem Value}{C:Int->Int->Prop}{g:Int->Int->Int}
  (rule:∀(i j:Int) (t u:Tok) (s:Shared) (Q:Value->Shared->Prop) (E:Value->Shared->Prop),C i j->Q (.int (g i j) s.toks) {s with toks:=s.toks+1}->wpAny (model X.prog X.w) X.A (f (.int i t) (.int j u)) Q E s) :
  i4 X f (rI C fun i j=>.int (g i j)):=by
 intro pins s σ H x y v u Q I rx ry h
 obtain⟨i,j,rfl,rfl,hc,q⟩:=h
 obtain⟨t,rfl⟩:=rx
 obtain⟨t',rfl⟩:=ry
 exact rule i j t t' s _ _ hc ⟨.int (g i j),H,I.tok _,⟨_,rfl⟩,q⟩
theorem A7{f:Value->Value->Sem Value}{g:Int->Int->Int}
  (rule:∀(i j:Int) (t u:Tok) (s:Shared) (Q:Value->Shared->Prop) (E:Value->Shared->Prop),Q (.int (g i j) s.toks) {s with toks:=s.toks+1}->wpAny (model X.prog X.w) X.A (f (.int i t) (.int j u)) Q E s) :
  i4 X f (zF fun i j=>.int (g i j)):=by
 intro pins s σ H x y v u Q I rx ry h
 obtain⟨i,j,rfl,rfl,q⟩:=h
 obtain⟨t,rfl⟩:=rx
 obtain⟨t',rfl⟩:=ry
 exact rule i j t t' s _ _ ⟨.int (g i j),H,I.tok _,⟨_,rfl⟩,q⟩
theorem zH{f:Value->Value->Sem Value}{g:Int->Int->Bool}
  (rule:∀(i j:Int) (t u:Tok) (s:Shared) (Q:Value->Shared->Prop) (E:Value->Shared->Prop),Q (.bool (g i j)) s->wpAny (model X.prog X.w) X.A (f (.int i t) (.int j u)) Q E s) :
  i4 X f (zF fun i j=>.bl (g i j)):=by
 intro pins s σ H x y v u Q I rx ry h
 obtain⟨i,j,rfl,rfl,q⟩:=h
 obtain⟨t,rfl⟩:=rx
 obtain⟨t',rfl⟩:=ry
 exact rule i j t t' s _ _ ⟨.bl (g i j),H,I,rfl,q⟩
noncomputable def A8(i j:Int):Prop:=0<j/\j<1073741824
noncomputable def A9(i j:Int):Prop:=0<=j/\j<=1000000/\i.natAbs<2 ^ 64
noncomputable def wZ(i j:Int):Prop:=(-(2 ^ 64)<i/\i<2 ^ 64)\/(-(2 ^ 64)<j/\j<2 ^ 64)
theorem wZ.ok{i j:Int}(h:wZ i j):IntMulOk i j:=by
 rcases h with⟨h1,h2⟩|⟨h1,h2⟩
 ·exact .of_left (intBits_le_64 h1 h2)
 ·exact .of_right (intBits_le_64 h1 h2)
theorem cQ:i4 X (binaryOp .Add) (zF fun i j=>.int (i+j)):=A7 fun _ _ _ _ _ _ _ q=>add_int q
theorem ni:i4 X (binaryOp .Sub) (zF fun i j=>.int (i-j)):=A7 fun _ _ _ _ _ _ _ q=>sub_int q
theorem dj:i4 X (binaryOp .Mult) (rI wZ fun i j=>.int (i*j)):=BX fun _ _ _ _ _ _ _ hc q=>mul_int q hc.ok
theorem eZ:i4 X (binaryOp .FloorDiv) (rI A8 fun i j=>.int (i / j)):=BX fun i j _ _ _ _ _ hc q=>by
 have h1:(0:Int)<j:=hc.1
 have h2:j<1073741824:=hc.2
 exact floordiv_int (by omega) (by rw[Int.fdiv_eq_ediv_of_nonneg i (by omega)];exact q) (.inl (PyProof.noPylong_small (by omega)))
theorem eF:i4 X (binaryOp .Mod) (rI (fun _ j=>0<j) fun i j=>.int (i % j)):=BX fun i j _ _ _ _ _ hc q=>by
 have h1:(0:Int)<j:=hc
 exact mod_int' (by omega) (by rw[Int.fmod_eq_emod_of_nonneg i (by omega)];exact q)
theorem zI:i4 X (binaryOp .Pow) (rI A9 fun i j=>.int (i ^ j.toNat)):=BX fun _ _ _ _ _ _ _ hc q=>pow_int_small hc.1 hc.2.1 hc.2.2 q
theorem C8{f:Value->Sem Value}{g:Int->Int}
  (rule:∀(i:Int) (t:Tok) (s:Shared) (Q:Value->Shared->Prop) (E:Value->Shared->Prop),Q (.int (g i) s.toks) {s with toks:=s.toks+1}->wpAny (model X.prog X.w) X.A (f (.int i t)) Q E s) :
  Cu X f (rU fun i=>.int (g i)):=by
 intro pins s σ H x v Q I rx h
 obtain⟨i,rfl,q⟩:=h
 obtain⟨t,rfl⟩:=rx
 exact rule i t s _ _ ⟨.int (g i),H,I.tok _,⟨_,rfl⟩,q⟩
theorem gG:Cu X (unaryOp .USub) (rU fun i=>.int (-i)):=C8 fun _ _ _ _ _ q=>neg_int q
end
noncomputable def Ba:V->V->Bool
 |.cW,.cW=>true|.cW,.int _=>true|.int _,.cW=>true|.cW,.bl _=>true|.bl _,.cW=>true|.cW,.str _=>true|.str _,.cW=>true
 |.int _,.int _=>true|.bl _,.bl _=>true|.str _,.str _=>true|.byt _,.byt _=>true
 |.int _,.str _=>true|.str _,.int _=>true|.bl _,.str _=>true|.str _,.bl _=>true
 |_,_=>false
noncomputable def C9:R2:=fun x y H Q=>Ba x y=true/\Q (.bl (decide (x=y))) H
noncomputable def C1:R2:=fun x y H Q=>Ba x y=true/\Q (.bl (!decide (x=y))) H
theorem qT{i j:Int}:decide (V.int i=V.int j)=(i == j):=by
 rw[Bool.eq_iff_iff]
 simp
theorem uF{i j:Bool}:decide (V.bl i=V.bl j)=(i == j):=by
 rw[Bool.eq_iff_iff]
 simp
theorem qU{i j:Str}:decide (V.str i=V.str j)=(i == j):=by
 rw[Bool.eq_iff_iff]
 simp
theorem qV{i j:Array UInt8}:decide (V.byt i=V.byt j)=(i.toList == j.toList):=by
 rw[Bool.eq_iff_iff]
 cases i
 cases j
 simp
section
variable {X:Cx}{a b c:Expr}{ta tb tc:TE}{pos:Pos}
theorem bh{pins:List (Addr×Obj)}{σ:St}{H:Hp}{s:Shared}{Q:VK}{k k':Bool}(I:Inv X pins σ H s)(q:Q (.bl k) H)(e:k=k'):EP X pins σ Q (.bool k') s:=by
 subst e
 exact⟨.bl k,H,I,rfl,q⟩
theorem cu:i4 X (compareOp .Eq) C9:=by
 intro pins s σ H x y v u Q I rx ry h
 obtain⟨hs,q⟩:=h
 cases x with
 |cW =>
  cases rx
  cases y with
  |cW=>cases ry;exact PySem.EqNone.eq_none_none (bh I q (by simp))
  |bl j=>cases ry;exact PySem.EqNone.eq_none_bool (bh I q (by simp))
  |int j=>obtain⟨t',rfl⟩:=ry;exact PySem.EqNone.eq_none_int (bh I q (by simp))
  |str j=>obtain⟨t',rfl⟩:=ry;exact PySem.EqNone.eq_none_str (bh I q (by simp))
  |_=>exact absurd (show false=true from hs) Bool.false_ne_true
 |bl i =>
  cases rx
  cases y with
  |cW=>cases ry;exact PySem.EqNone.eq_bool_none (bh I q (by simp))
  |bl j=>cases ry;exact eq_bool (bh I q uF)
  |str j=>obtain⟨t',rfl⟩:=ry;exact PySem.EqMixed.eq_bool_str (bh I q (by simp))
  |_=>exact absurd (show false=true from hs) Bool.false_ne_true
 |int i =>
  obtain⟨t,rfl⟩:=rx
  cases y with
  |cW=>cases ry;exact PySem.EqNone.eq_int_none (bh I q (by simp))
  |int j=>obtain⟨t',rfl⟩:=ry;exact eq_int (bh I q qT)
  |str j=>obtain⟨t',rfl⟩:=ry;exact PySem.EqMixed.eq_int_str (bh I q (by simp))
  |_=>exact absurd (show false=true from hs) Bool.false_ne_true
 |str i =>
  obtain⟨t,rfl⟩:=rx
  cases y with
  |cW=>cases ry;exact PySem.EqNone.eq_str_none (bh I q (by simp))
  |bl j=>cases ry;exact PySem.EqMixed.eq_str_bool (bh I q (by simp))
  |int j=>obtain⟨t',rfl⟩:=ry;exact PySem.EqMixed.eq_str_int (bh I q (by simp))
  |str j=>obtain⟨t',rfl⟩:=ry;exact eq_str (bh I q qU)
  |_=>exact absurd (show false=true from hs) Bool.false_ne_true
 |byt i =>
  obtain⟨t,rfl⟩:=rx
  cases y with
  |byt j=>obtain⟨t',rfl⟩:=ry;exact PySem.W.eq_bytes (bh I q qV)
  |_=>exact absurd (show false=true from hs) Bool.false_ne_true
 |_=>cases y<;>exact absurd (show false=true from hs) Bool.false_ne_true
theorem Bb:i4 X (compareOp .NotEq) C1:=by
 intro pins s σ H x y v u Q I rx ry h
 obtain⟨hs,q⟩:=h
 cases x with
 |cW =>
  cases rx
  cases y with
  |cW=>cases ry;exact PySem.EqNone.ne_none_none (bh I q (by simp))
  |bl j=>cases ry;exact PySem.EqNone.ne_none_bool (bh I q (by simp))
  |int j=>obtain⟨t',rfl⟩:=ry;exact PySem.EqNone.ne_none_int (bh I q (by simp))
  |str j=>obtain⟨t',rfl⟩:=ry;exact PySem.EqNone.ne_none_str (bh I q (by simp))
  |_=>exact absurd (show false=true from hs) Bool.false_ne_true
 |bl i =>
  cases rx
  cases y with
  |cW=>cases ry;exact PySem.EqNone.ne_bool_none (bh I q (by simp))
  |bl j=>cases ry;exact ne_bool (bh I q (congrArg not uF))
  |str j=>obtain⟨t',rfl⟩:=ry;exact PySem.EqMixed.ne_bool_str (bh I q (by simp))
  |_=>exact absurd (show false=true from hs) Bool.false_ne_true
 |int i =>
  obtain⟨t,rfl⟩:=rx
  cases y with
  |cW=>cases ry;exact PySem.EqNone.ne_int_none (bh I q (by simp))
  |int j=>obtain⟨t',rfl⟩:=ry;exact ne_int (bh I q (congrArg not qT))
  |str j=>obtain⟨t',rfl⟩:=ry;exact PySem.EqMixed.ne_int_str (bh I q (by simp))
  |_=>exact absurd (show false=true from hs) Bool.false_ne_true
 |str i =>
  obtain⟨t,rfl⟩:=rx
  cases y with
  |cW=>cases ry;exact PySem.EqNone.ne_str_none (bh I q (by simp))
  |bl j=>cases ry;exact PySem.EqMixed.ne_str_bool (bh I q (by simp))
  |int j=>obtain⟨t',rfl⟩:=ry;exact PySem.EqMixed.ne_str_int (bh I q (by simp))
  |str j=>obtain⟨t',rfl⟩:=ry;exact ne_str (bh I q (congrArg not qU))
  |_=>exact absurd (show false=true from hs) Bool.false_ne_true
 |byt i =>
  obtain⟨t,rfl⟩:=rx
  cases y with
  |byt j=>obtain⟨t',rfl⟩:=ry;exact PySem.W.ne_bytes (bh I q (congrArg not qV))
  |_=>exact absurd (show false=true from hs) Bool.false_ne_true
 |_=>cases y<;>exact absurd (show false=true from hs) Bool.false_ne_true
theorem i5:i4 X (compareOp .Lt) (zF fun i j=>.bl (decide (i<j))):=zH fun _ _ _ _ _ _ _ q=>lt_int q
theorem oq:i4 X (compareOp .Gt) (zF fun i j=>.bl (decide (j<i))):=zH fun _ _ _ _ _ _ _ q=>gt_int q
theorem Bc:i4 X (compareOp .GtE) (zF fun i j=>.bl (decide (j<=i))):=zH fun _ _ _ _ _ _ _ q=>ge_int q
theorem bK(b:Expr){op:CmpOp}(h:op≠.In:=by decide)(h2:op≠.NotIn:=by decide):behindInMarks op b=false:=by
 have e1:(op == CmpOp.In)=false:=by cases op<;>first|rfl|exact absurd rfl h
 have e2:(op == CmpOp.NotIn)=false:=by cases op<;>first|rfl|exact absurd rfl h2
 cases b<;>simp[behindInMarks,e1,e2]
theorem nj{op:CmpOp}{r:R2}(ho:i4 X (compareOp op) r)(ha:PE X a ta)(hb:PE X b tb)(hm:behindInMarks op b=false):PE X (.Compare a [op] [b] pos) (uE r ta tb):=by
 intro pins s σ H Q I h
 exact wpAny_Compare1 (zG ha hb I h fun v u s2 x y H2 I2 rx ry q=>ho pins s2 σ H2 x y v u Q I2 rx ry q) hm
noncomputable def yV(t:TE):TT:=fun σ H Q=>t σ H fun x H'=>∃k,x=.bl k/\Q k H'
theorem aS{op:CmpOp}{r:R2}(ho:i4 X (compareOp op) r)(ha:PE X a ta)(hb:PE X b tb)(hm:behindInMarks op b=false):PT X (.Compare a [op] [b] pos) (yV (uE r ta tb)):=by
 intro pins s σ H Q I h
 refine wpAny_isTrue_Compare1 (bR (ha pins s σ H _ I h) fun v s1 ⟨x,H1,I1,r1,q1⟩=>bR (hb pins s1 σ H1 _ I1 q1) fun u s2 ⟨y,H2,I2,r2,q2⟩ =>
  bR (ho pins s2 σ H2 x y v u _ I2 r1 r2 q2) fun c s3 ⟨z,H3,I3,r3,k,e,q3⟩=>?_) hm
 subst e
 cases r3
 exact wpAny_truthy_bool ⟨H3,I3,q3⟩
noncomputable def zJ(K:PySem.W.Frag)(x:V)(H:Hp)(k:Bool):Prop :=
 match x with
 |.cW=>k=false
 |.bl b=>k=b
 |.int i=>k=(i != 0)
 |.str y=>y.length<=sizeLine/\k=((y.length:Int) != 0)
 |.byt y=>y.size<=sizeLine/\k=((y.size:Int) != 0)
 |.ref p=>(∃xs,bJ K H p xs/\k=!xs.isEmpty)\/(∃xs,aJ K H p xs/\k=!xs.isEmpty)\/∃kvs,H p=some (.dK kvs)/\k=!kvs.isEmpty
 |_=>False
theorem ql{κ:Type}{kvs:List (κ×V)}{vs:List (κ×Value)}(r:KV kvs vs):(!vs.isEmpty)=!kvs.isEmpty:=by
 cases r<;>rfl
theorem kh{xs:List V}{its:List Value}(r:Vals xs its):(!its.toArray.isEmpty)=!xs.isEmpty:=by
 cases r<;>simp
theorem gJ:(sizeLine:Nat)<2 ^ 63:=by rw[sizeLine_eq];decide
theorem zK:Cv X (fun x H Q=>∃k,zJ X.K x H k/\Q k H):=by
 intro pins s σ H x v Q I rx h
 obtain⟨k,e,q⟩:=h
 have hl:=gJ
 have hs:sizeLine=16777216:=sizeLine_eq
 cases x with
 |cW =>
  cases rx
  have e':k=false:=e
  subst e'
  exact truthy_none ⟨H,I,q⟩
 |bl b =>
  cases rx
  have e':k=b:=e
  subst e'
  exact wpAny_truthy_bool ⟨H,I,q⟩
 |int i =>
  obtain⟨t,rfl⟩:=rx
  have e':k=(i != 0):=e
  subst e'
  exact PySem.P.truthy_int ⟨H,I,q⟩
 |str y =>
  obtain⟨t,rfl⟩:=rx
  obtain⟨hy,e'⟩:y.length<=sizeLine/\k=((y.length:Int) != 0):=e
  subst e'
  exact PySem.P.truthy_str (by omega) ⟨H,I.tok _,q⟩
 |byt y =>
  obtain⟨t,rfl⟩:=rx
  obtain⟨hy,e'⟩:y.size<=sizeLine/\k=((y.size:Int) != 0):=e
  subst e'
  exact PySem.W.truthy_bytes (by omega) ⟨H,I.tok _,q⟩
 |ref p =>
  cases rx
  have e':(∃xs,bJ X.K H p xs/\k=!xs.isEmpty)\/(∃xs,aJ X.K H p xs/\k=!xs.isEmpty)\/∃kvs,H p=some (.dK kvs)/\k=!kvs.isEmpty:=e
  rcases e' with⟨xs,hx,e'⟩|⟨xs,hx,e'⟩|⟨kvs,hx,e'⟩
  ·subst e'
   obtain⟨its,r,pl,hz⟩:=I.list hx
   have hlen:=r.length
   exact wpAny_truthy_list pl.isList (by simp only[List.size_toArray];omega) ⟨H,I.tok _,by rw[kh r];exact q⟩
  ·subst e'
   obtain⟨its,r,pl,hz⟩:=I.tuple hx
   have hlen:=r.length
   exact truthy_tuple pl (by simp only[List.size_toArray];omega) ⟨H,I.tok _,by rw[kh r];exact q⟩
  ·subst e'
   obtain⟨hz,hS,vs,r,m⟩:kvs.length<=sizeLine/\(p == sysModules)=false/\∃vs,KV kvs vs/\s.heap.DictOf (bz X.prog X.w) p vs:=I.hok p _ hx
   have hlen:kvs.length=vs.length:=Paired.length r
   exact wpAny_truthy_dict hS m (by omega) ⟨H,I.tok _,by rw[ql r];exact q⟩
 |_=>exact(show False from e).elim
theorem uG(ha:PE X a ta)(he:∀whole,isTrue a X.env whole=(do let v ←whole;standAt a.pos;holding [v] (truthy v))) :
  PT X a (fun σ H Q=>ta σ H fun x H'=>∃k,zJ X.K x H' k/\Q k H'):=by
 intro pins s σ H Q I h
 exact isTrue_plain (bR (ha pins s σ H _ I h) fun v s1 ⟨x,H1,I1,r1,q1⟩=>zK pins s1 σ H1 x v Q I1 r1 q1) (he _)
theorem fW:i4 X (binaryOp .Add) (fun x y H Q=>∃i j,x=.str i/\y=.str j/\i.length+j.length<=sizeLine/\Q (.str (i++j)) H):=by
 intro pins s σ H x y v u Q I rx ry h
 obtain⟨i,j,rfl,rfl,hz,q⟩:=h
 obtain⟨t,rfl⟩:=rx
 obtain⟨t',rfl⟩:=ry
 exact add_str (fun t' tk=>⟨.str (i++j),H,I.tok _,⟨_,rfl⟩,q⟩) hz
theorem vals1{x:V}{us:List Value}(r:Vals [x] us):∃u,us=[u]/\RelV x u:=by
 cases r with
 |cons r1 r2=>cases r2;exact⟨_,rfl,r1⟩
theorem vals2{x y:V}{us:List Value}(r:Vals [x,y] us):∃u w',us=[u,w']/\RelV x u/\RelV y w':=by
 cases r with
 |cons r1 r2 =>
  cases r2 with
  |cons r3 r4=>cases r4;exact⟨_,_,rfl,r1,r3⟩
theorem sO(hc:X.calm=true):dO X (.builtin "max") (fun xs H Q=>∃i j,xs=[.int i,.int j]/\Q (.int (if j>i then j else i)) H):=by
 intro pins s σ H xs us Q I r h
 obtain⟨i,j,rfl,q⟩:=h
 obtain⟨u,w',rfl,⟨t,rfl⟩,⟨t',rfl⟩⟩:=vals2 r
 refine max_two_ints (I.ok.hd hc) fun h' tk k=>⟨_,H,I.kept k,?_,q⟩
 by_cases hj:j>i
 ·rw[if_pos hj,if_pos hj];exact⟨_,rfl⟩
 ·rw[if_neg hj,if_neg hj];exact⟨_,rfl⟩
theorem lY:dO X (.type "int") (fun xs H Q=>(∃i,xs=[.int i]/\Q (.int i) H)\/∃k,xs=[.bl k]/\Q (.int (if k then 1 else 0)) H):=by
 intro pins s σ H xs us Q I r h
 rcases h with⟨i,rfl,q⟩|⟨k,rfl,q⟩
 ·obtain⟨u,rfl,t,rfl⟩:=vals1 r
  exact call_int_int ⟨.int i,H,I,⟨_,rfl⟩,q⟩
 ·obtain⟨u,rfl,r1⟩:=vals1 r
  cases r1
  exact call_int_bool ⟨.int (if k then 1 else 0),H,I.tok _,⟨_,rfl⟩,q⟩
end
section
variable {prog:Program}{w:World}{A:Around}{E:Value->Shared->Prop}{s:Shared}{K:PySem.W.Frag}{x dx C f:Addr}{mA:Str->Option Value}{name:Str}{v:Value}
end
noncomputable def xg(f:Str)(v:V):List (Str×V)->List (Str×V)
 | []=>[(f,v)]
 |(g,x)::r=>if g=f then(g,v)::r else(g,x)::xg f v r
theorem gy.some_of{v:V}{o:Option Value}(r:gy (some v) o):∃u,o=some u/\RelV v u:=by
 cases o with
 |none=>exact(show False from r).elim
 |some u=>exact⟨u,rfl,r⟩
section
variable {P:Program}{w:World}{H H':Hp}{h h':Heap}{a C dx:Addr}{fs fs':List (Str×V)}
end
section
variable {X:Cx}{pins:List (Addr×Obj)}{σ:St}{H:Hp}{s:Shared}{a C dx:Addr}{fs:List (Str×V)}{f:Str}{v:V}{A:Around}{E:Value->Shared->Prop}
end
section
variable {X:Cx}{o e value:Expr}{f:Str}{pos pos' tpos:Pos}{ta tv:TE}
end
section
variable {X:Cx}{pins:List (Addr×Obj)}{σ:St}{H:Hp}{s:Shared}{A:Around}{E:Value->Shared->Prop}{Q:Value->Shared->Prop}{c:Value}{b:Bool}
end
structure eW(k:Nat) (A:Around):Prop where
 hd:A.handled=none
 dp:A.depth+3*k+5<recursionLimit
 un:A.units+16*k+200<cLine
 gd:A.guards=some []
theorem eW.mono{j k:Nat}{A:Around}(r:eW k A)(h:j<=k):eW j A:=⟨r.hd,by have:=r.dp;omega,by have:=r.un;omega,r.gd⟩
theorem eW.deeper{k:Nat}{A:Around}(r:eW (k+1) A)(env:Env):eW k (A.deeper env) :=
 ⟨r.hd,by have:=r.dp;show A.depth+1+3*k+5<_;omega,by have:=r.un;show A.units+3+16*k+200<_;omega,r.gd⟩
theorem eW.depth{k:Nat}{A:Around}(r:eW k A):A.depth<recursionLimit:=by have:=r.dp;omega
theorem eW.units{k:Nat}{A:Around}(r:eW k A):A.units+64<cLine:=by have:=r.un;omega
noncomputable def jU:TA:=fun _ H Q=>Q [] H
noncomputable def dQ(ta:TE)(tr:TA):TA:=fun σ H Q=>ta σ H fun x H1=>tr σ H1 fun xs H2=>Q (x::xs) H2
section
variable {X:Cx}{e:Expr}{es:List Expr}{te:TE}{t:TA}{pos:Pos}
theorem ah:PA X [] jU:=fun _ _ _ _ H Q I h=>Calls.spliced_nil ⟨[],H,I,.nil,h⟩
theorem aQ(ha:PE X e te)(hr:PA X es t)(hs:starEach (e::es) X.env=(false,eval e X.env)::starEach es X.env:=by rfl):PA X (e::es) (dQ te t):=by
 intro pos pins s σ H Q I h
 rw[hs]
 show wpAny _ _ (spliced ((false,eval e X.env)::backTo pos (starEach es X.env))) _ _ s
 refine Calls.spliced_cons (bR (ha pins s σ H _ I h) fun u s1 ⟨x,H1,I1,r1,q1⟩=>?_)
 exact bR (hr pos pins s1 σ H1 _ I1 q1) fun us s2 ⟨xs,H2,I2,r2,q2⟩=>⟨x::xs,H2,I2,.cons r1 r2,q2⟩
noncomputable def ou(t:TA):TE:=fun σ H Q=>t σ H fun xs H1=>xs.length<=sizeLine/\∀p,H1 p=none->Q (.ref p) (upd H1 p (.tup xs))
noncomputable def uH(t:TA):TE:=fun σ H Q=>t σ H fun xs H1=>xs.length<=sizeLine/\∀p,H1 p=none->Q (.ref p) (upd H1 p (.lst xs))
theorem bZ{x1}(h:PA X es t):PE X (.Tuple es x1 pos) (ou t):=by
 intro pins s σ H Q I hq
 refine wpAny_Tuple_spliced (bR (h pos pins s σ H _ I hq) fun us s1 ⟨xs,H1,I1,r,z,q⟩=>⟨by rw[←r.length];exact z,?_⟩)
 have hf:H1 s1.heap.objs.size=none:=I1.hok.fresh (Nat.le_refl _)
 refine⟨.ref s1.heap.objs.size,upd H1 s1.heap.objs.size (.tup xs),I1.laid (t':=s1.toks) (fun b u e=>Heap.get?_push_of_some _ e) (Nat.le_refl _) ?_,rfl,q _ hf⟩
 exact⟨z,us,r,⟨_,Heap.get?_push_size _ rfl,rfl,_,rfl⟩,_,Heap.get?_push_size _ rfl,rfl⟩
theorem bj(h:PA X es t):PE X (.List es pos) (uH t):=by
 intro pins s σ H Q I hq
 refine wpAny_List_spliced (bR (h pos pins s σ H _ I hq) fun us s1 ⟨xs,H1,I1,r,z,q⟩=>⟨by rw[←r.length];exact z,?_⟩)
 have hf:H1 s1.heap.objs.size=none:=I1.hok.fresh (Nat.le_refl _)
 refine⟨.ref s1.heap.objs.size,upd H1 s1.heap.objs.size (.lst xs),I1.laid (t':=s1.toks) (fun b u e=>Heap.get?_push_of_some _ e) (Nat.le_refl _) ?_,rfl,q _ hf⟩
 exact⟨z,us,0,r,Heap.get?_push_size _ rfl⟩
end
noncomputable abbrev Sp:=List V->Hp->VK->XK->Prop
noncomputable abbrev ug:=List Env->Hp->Shared->XK->Value->Shared->Prop
structure xh(P:Program) (w:World) (K:PySem.W.Frag) (mg:Str->Option Value) (base:Heap) (A:Around) (outer:List Env) (s:Shared) (H:Hp):Prop where
 frames:A.frames=some outer
 mod:Mod K mg base
 bs:∀b o,base.get? b=some o->s.heap.get? b=some o/\H b=none
 bsz:base.objs.size<=s.heap.objs.size
 j6:s.heap.FunFrames base outer
 frf:∀b∈frs outer,H b=none
 hok:iV P w H s.heap
 bare:AllBare s.gens
noncomputable def CE(outer:List Env)(P:Program)(w:World)(H:Hp)(s:Shared)(Q:VK)(u:Value)(s':Shared):Prop :=
 ∃v H',s'.os=s.os/\AllBare s'.gens/\Un (frs outer) [] H H' s.heap s'.heap/\iV P w H' s'.heap/\RelV v u/\Q v H'
noncomputable def CR(CX:ug)(outer:List Env)(P:Program)(w:World)(H:Hp)(s:Shared)(Q:VK)(E:XK)(r:Result)(s':Shared):Prop :=
 match r with
 |.ok (.ret u)=>CE outer P w H s Q u s'
 |.ok _=>False
 |.error e=>CX outer H s E e s'
structure cA(P:Program) (w:World) (K:PySem.W.Frag) (mg:Str->Option Value) (base:Heap) (CX:ug) (k:Nat) (f:Addr) (fd:FuncData) (ps:List Str) (sp:Sp):Prop where
 len:∀vs H Q E,sp vs H Q E->vs.length=ps.length
 run:∀(A:Around) (outer:List Env) (s:Shared) (H:Hp) (args:Args) (us:List Value) (vs:List V) (Q:VK) (E:XK),eW k A->xh P w K mg base A outer s H->BindsTo s fd args (ps.zip us)->Vals vs us->sp vs H Q E ->
  codeAny (model P w) A (.call (.ref f) args) (CR CX outer P w H s Q E) s
section
variable {X:Cx}{pins:List (Addr×Obj)}{σ:St}{H:Hp}{s s':Shared}
theorem Inv.Cw(I:Inv X pins σ H s):xh X.prog X.w X.K X.mg X.base X.A X.stack s H :=
 ⟨I.ok.frames,I.ok.mod,I.bs,Nat.le_trans I.ok.bsz I.sz,I.stack,I.qR,I.hok,I.bare⟩
theorem Inv.after{Q:VK}{u:Value}(I:Inv X pins σ H s)(h:CE X.stack X.prog X.w H s Q u s'):EP X pins σ Q u s':=by
 obtain⟨v,H',os,bare,un,hok,r,q⟩:=h
 obtain⟨hh,g,d,t,os'⟩:=s'
 obtain rfl:os'=s.os:=os
 exact⟨v,H',I.call (h':=hh) (g':=g) (d':=d) (t':=t) (ch:=[]) un hok bare (fun b z=>absurd z (by simp)),r,q⟩
end
noncomputable def qW(sp:Sp)(dvs:List V)(E:XK)(t:TA):TE:=fun σ H Q=>t σ H fun vs H1=>sp (vs++dvs) H1 Q E
noncomputable def Binds(K:PySem.W.Frag)(fd:FuncData)(ps:List Str)(ds:List Value):Prop :=
 ∀(s:Shared) (us:List Value),K.In s.heap->(us++ds).length=ps.length->BindsTo s fd ⟨us,[]⟩ (ps.zip (us++ds))
theorem Binds.all{K:PySem.W.Frag}{fd:FuncData}{ps:List Str}(h:∀us:List Value,us.length=ps.length->bindArgs fd ⟨us,[]⟩=pure (ps.zip us)):Binds K fd ps []:=fun s us _ hl=>by
 rw[List.append_nil]at hl⊢
 exact .of_eq (h us hl)
noncomputable def Passes(CX:ug)(X:Cx)(E:XK):Prop:=∀(pins:List (Addr×Obj)) (σ:St) (H:Hp) (s:Shared) (e:Value) (s':Shared),Inv X pins σ H s->CX X.stack H s E e s'->X.xe e s'
section
variable {X:Cx}{CX:ug}{k:Nat}{f C:Addr}{fd:FuncData}{ps:List Str}{sp:Sp}{dvs:List V}{ds:List Value}{E:XK}{x m:Str}{p pos apos:Pos}{e o:Expr}{es:List Expr}{ta:TE}{t:TA}
theorem zL{pins:List (Addr×Obj)}{σ:St}{H:Hp}{s:Shared}{Q:VK}{us:List Value}{vs:List V}(F:cA X.prog X.w X.K X.mg X.base CX k f fd ps sp)(hr:eW k X.A)(hb:Binds X.K fd ps ds)(hd:Vals dvs ds)(hx:Passes CX X E)
  (I:Inv X pins σ H s) (r:Vals vs us) (h:sp (vs++dvs) H Q E):wpAny (model X.prog X.w) X.A (call (.ref f) us) (EP X pins σ Q) X.xe s:=by
 have r2:Vals (vs++dvs) (us++ds):=r.append hd
 have hl:(us++ds).length=ps.length:=by rw[←r2.length];exact F.len _ _ _ _ h
 refine wpAny_call (codeAny_mono (F.run X.A X.stack s H ⟨us,[]⟩ (us++ds) (vs++dvs) Q E hr I.Cw (hb s us I.wV hl) r2 h) fun r s' hq=>?_)
 cases r with
 |error e=>exact hx pins σ H s e s' I hq
 |ok fl =>
  cases fl with
  |ret u=>exact I.after hq
  |next=>exact False.elim hq
  |brk=>exact False.elim hq
  |cont=>exact False.elim hq
theorem xm(F:cA X.prog X.w X.K X.mg X.base CX k f fd ps sp)(hr:eW k X.A)(hg:Gl X x)(hm:X.mg x=some (.ref f))(hk:PySem.W.keepIn X.K (.ref f)=true)(hb:Binds X.K fd ps ds)(hd:Vals dvs ds)(hx:Passes CX X E)
  (ha:PA X (e::es) t) (hdb:(x == ("__debug__":Str))=false:=by decide) (he:starEach (e::es) X.env=(false,eval e X.env)::starEach es X.env:=by rfl) (hpl:(backTo pos (starEach es X.env)).any (·.1)=false:=by rfl) :
  PE X (.Call (.Name x p) (e::es) [] pos) (qW sp dvs E t):=by
 intro pins s σ H Q I h
 refine wpAny_Call_Name_kw (qS I hg hm ?_ hdb)
 refine PySem.W.callWith_K (h₀:=X.base) I.ok.mod.kin hk (bR (ha pos pins s σ H _ I h) fun us s1 ⟨vs,H1,I1,r,q⟩=>⟨I1.wV,?_⟩) he hpl
 exact zL F hr hb hd hx I1 r q
end
section
variable {X:Cx}{CX:ug}{k:Nat}{f C:Addr}{fd:FuncData}{ps ks:List Str}{sp:Sp}{E:XK}{x m:Str}{p pos apos kpos:Pos}{e o:Expr}{es:List Expr}{kws:List Keyword}{te ta:TE}{t tk:TA}{nm:Option Str}
variable {g:List Value->List Value->List Value}{gV:List V->List V->List V}
end
structure aZ(N P:List Str) (sc:Scope):Prop where
 kind:sc.kind=.function
 co:sc.isCoroutine=false
 gen:sc.isGenerator=false
 nd:N.Nodup
 pre:N.take P.length=P
 par:∀x∈P,sc.names.lookup x=some .local\/sc.names.lookup x=some .cell
 nofree:∀y∈sc.names,y.2≠.free
theorem lZ{kindOf:Str->Option NameKind}{x:Str}:∀{binds:List (Str×Value)}{m:Str->Option Value},(∀v,(x,v)∉binds)->bindL kindOf binds m x=m x
 | [],_,_=>rfl
 |(n,v)::r,m,h=>by
  unfold bindL
  rw[lZ fun w hw=>h w (List.mem_cons_of_mem _ hw)]
  split
  ·have:x≠n:=by rintro rfl;exact h v List.mem_cons_self
   simp[this]
  ·rfl
theorem mh{kindOf:Str->Option NameKind}{x:Str}:∀{binds:List (Str×Value)}{m:Str->Option Value},(∀v,(x,v)∉binds)->bindC kindOf binds m x=m x
 | [],_,_=>rfl
 |(n,v)::r,m,h=>by
  unfold bindC
  rw[mh fun w hw=>h w (List.mem_cons_of_mem _ hw)]
  split
  ·rfl
  ·have:x≠n:=by rintro rfl;exact h v List.mem_cons_self
   simp[this]
theorem mj{kindOf:Str->Option NameKind}{x:Str}{v:Value}:∀{P:List Str}{vs:List Value}{i:Nat}{m:Str->Option Value},P.Nodup->P[i]?=some x->vs[i]?=some v->kindOf x=some .local ->
  bindL kindOf (P.zip vs) m x=some v
 | [],_,_,_,_,h,_,_=>by simp at h
 |_::_,[],_,_,_,_,h,_=>by simp at h
 |p::P,w::vs,0,m,nd,h1,h2,hk=>by
  simp at h1 h2;subst h1;subst h2
  show bindL kindOf ((p,w)::P.zip vs) m p=_
  unfold bindL
  rw[lZ fun v hv=>(List.nodup_cons.mp nd).1 (List.of_mem_zip hv).1,if_pos hk]
  simp
 |p::P,w::vs,i+1,m,nd,h1,h2,hk=>by
  show bindL kindOf ((p,w)::P.zip vs) m x=_
  unfold bindL
  exact mj (i:=i) (List.nodup_cons.mp nd).2 (by simpa using h1) (by simpa using h2) hk
theorem mq{kindOf:Str->Option NameKind}{x:Str}{v:Value}:∀{P:List Str}{vs:List Value}{i:Nat}{m:Str->Option Value},P.Nodup->P[i]?=some x->vs[i]?=some v->kindOf x≠some .local ->
  bindC kindOf (P.zip vs) m x=some v
 | [],_,_,_,_,h,_,_=>by simp at h
 |_::_,[],_,_,_,_,h,_=>by simp at h
 |p::P,w::vs,0,m,nd,h1,h2,hk=>by
  simp at h1 h2;subst h1;subst h2
  show bindC kindOf ((p,w)::P.zip vs) m p=_
  unfold bindC
  rw[mh fun v hv=>(List.nodup_cons.mp nd).1 (List.of_mem_zip hv).1,if_neg hk]
  simp
 |p::P,w::vs,i+1,m,nd,h1,h2,hk=>by
  show bindC kindOf ((p,w)::P.zip vs) m x=_
  unfold bindC
  exact mq (i:=i) (List.nodup_cons.mp nd).2 (by simpa using h1) (by simpa using h2) hk
noncomputable def start(N:List Str)(vs:List V):St:=vs.map some++List.replicate (N.length-vs.length) none
noncomputable def nq(CX:ug)(P:Program)(w:World)(K:PySem.W.Frag)(mg:Str->Option Value)(base:Heap)(N:List Str)(qual:Str)(scope:Scope)(f:Addr)(cd:Value)(A:Around)(outer:List Env)(s:Shared)(H:Hp)(E:XK):Cx where
 prog:=P
 w:=w
 K:=K
 mg:=mg
 base:=base
 A:=A.deeper (envOfC qual scope s.heap.objs.size f cd)
 N:=N
 s₀:=s
 H₀:=H
 env:=envOfC qual scope s.heap.objs.size f cd
 outer:=outer
 stack:=envOfC qual scope s.heap.objs.size f cd::outer
 ex:=[]
 calm:=true
 fn:=fun _=>true
 pn:=[]
 xe:=fun e s'=>wpAny (model P w) (A.deeper (envOfC qual scope s.heap.objs.size f cd)) (leaving (envOfC qual scope s.heap.objs.size f cd) e) (fun _ s''=>CX outer H s E e s'') (fun e' s''=>CX outer H s E e' s'') s'
theorem oz{sc:Scope}{n:Nat}{x:Str}(h:sc.names.lookup x=some .cell):∃c,(cellsFrom n sc.names []).lookup x=some c:=by
 have q:=PySem.W.cellsFrom_some sc.names n [] (.inl h)
 exact Option.isSome_iff_exists.mp q
theorem sQ{CX:ug}{P:Program}{w:World}{K:PySem.W.Frag}{mg:Str->Option Value}{base:Heap}{N ps:List Str}{qual:Str}{scope:Scope}{f:Addr}{cd:Value}{A:Around}{outer:List Env}{s s1:Shared}{H:Hp}{E:XK}{us:List Value}{vs:List V}
  (S:aZ N ps scope) (hd:A.handled=none) (e0:xh P w K mg base A outer s H) (hl:vs.length=ps.length) (r:Vals vs us)
  (x:InCallC s s.heap.objs.size (bindL (envOfC qual scope s.heap.objs.size f cd).kindOf (ps.zip us) fun _=>none) (cellsFrom (s.heap.objs.size+1) scope.names []) (bindC (envOfC qual scope s.heap.objs.size f cd).kindOf (ps.zip us) fun _=>none) s1) :
  Inv (nq CX P w K mg base N qual scope f cd A outer s H E) [] (start N vs) H s1:=by
 have hpl:ps.length<=N.length:=by have:=congrArg List.length S.pre;rw[List.length_take]at this;omega
 obtain⟨h1,tk,rfl,hk⟩:=x.done
 have noA:∀b:Addr,b∉(nq CX P w K mg base N qual scope f cd A outer s H E).ex:=fun b z=>absurd (show b∈([]:List Addr)from z) (by simp)
 refine⟨⟨e0.mod,S.kind,rfl,rfl,Nat.le_refl _,fun y z c h1 h2=>?_,fun y hy=>?_,fun y c _ h=>?_,fun _=>hd,Around.frames_deeper e0.frames,.inr ⟨rfl,rfl⟩,fun b z=>absurd z (noA b),e0.bs,e0.bsz,fun b _ _=>noA b,fun b z=>absurd z (noA b),e0.j6,e0.frf⟩,
  rfl,e0.bare,Un.kept hk,⟨_,x.toInCall.ns,fun i y v h1 h2 h3=>?_⟩,fun y c h=>⟨_,x.cell y c h⟩,e0.hok.fresh (Nat.le_refl _),fun y c h=>?_,fun p hp=>absurd (show p∈([]:List (Addr×Obj))from hp) (by simp),e0.hok.kept hk,?_⟩
 ·exact name_of_addr x.apart (PySem.mem_of_lookup h1) (PySem.mem_of_lookup h2)
 ·have hy:scope.names.lookup y=some .cell\/scope.names.lookup y=some .free:=hy
  rcases hy with hy|hy
  ·exact oz hy
  ·exact absurd rfl (S.nofree _ (PySem.mem_of_lookup hy))
 ·exact Nat.le_of_lt (x.above y c (PySem.mem_of_lookup h))
 ·have hi:i<vs.length:=by
   unfold start at h2
   by_cases hi:i<vs.length
   ·exact hi
   ·rw[List.getElem?_append_right (by simpa using hi)]at h2
    rw[List.getElem?_replicate]at h2
    split at h2<;>cases h2
  have ha:vs[i]?=some v:=by
   unfold start at h2
   rw[List.getElem?_append_left (by simpa using hi),List.getElem?_map]at h2
   cases e:vs[i]? with
   |none=>rw[e]at h2;cases h2
   |some a=>rw[e]at h2;cases h2;rfl
  obtain⟨u,hu,rv⟩:=r.get ha
  have hp:ps[i]?=some y:=by
   rw[←S.pre,List.getElem?_take_of_lt (by omega)];exact h1
  have ndP:ps.Nodup:=by rw[←S.pre];exact S.nd.sublist (List.take_sublist _ _)
  refine⟨u,rv,?_⟩
  rcases S.par y (List.mem_of_getElem? hp)with k|k
  ·exact .inl ⟨k,mj ndP hp hu k⟩
  ·obtain⟨c,e⟩:=oz (n:=s.heap.objs.size+1) k
   refine .inr ⟨.inl k,c,e,?_⟩
   have q:=x.cell y c e
   rw[mq ndP hp hu (by show scope.names.lookup y≠_;rw[k];decide)]at q
   exact q
 ·exact e0.hok.fresh (Nat.le_of_lt (x.above y c (PySem.mem_of_lookup h)))
 ·unfold start
  show _=N.length
  rw[List.length_append,List.length_map,List.length_replicate]
  omega
theorem Bd{CX:ug}{P:Program}{w:World}{K:PySem.W.Frag}{mg:Str->Option Value}{base:Heap}{k:Nat}{f:Addr}{name qual:Str}{params:Arguments}{body:List Stmt}{scope:Scope}{dV kV doc pm cdv ct oc:Value}{an od:Option Addr}
  {osl:Array (Option Value)}{N ps:List Str}{sp:Sp}(lk:K.lookup f=some ⟨oc,od,.func (PySem.W.fnOf name qual params body scope dV kV doc pm an cdv ct),osl⟩) (hcd:PySem.W.codeIn K cdv qual=true) (S:aZ N ps scope)
  (len:∀vs H Q E,sp vs H Q E->vs.length=ps.length)
  (hbody:∀(A:Around) (outer:List Env) (s:Shared) (H:Hp) (vs:List V) (Q:VK) (E:XK),eW k (A.deeper (envOfC qual scope s.heap.objs.size f cdv))->sp vs H Q E ->
   ∃t,qi (nq CX P w K mg base N qual scope f cdv A outer s H E) body t/\t {nx:=fun _ H'=>Q .cW H',rt:=Q} (start N vs) H) :
  cA P w K mg base CX (k+1) f (PySem.W.fnOf name qual params body scope dV kV doc pm an cdv ct) ps sp:=by
 refine⟨len,fun A outer s H args us vs Q E hr e0 hb r hsp=>?_⟩
 have hl:=len _ _ _ _ hsp
 have KX:K.In s.heap:=e0.mod.kin.keeps fun b o e=>(e0.bs b o e).1
 have lim:s.heap.NoLimit:=e0.mod.nolimit.keeps fun b o e=>(e0.bs b o e).1
 have hkind:∀y∈ps.zip us,scope.names.lookup y.1=some .local\/(scope.names.lookup y.1=some .cell/\((cellsFrom (s.heap.objs.size+1) scope.names []).lookup y.1).isSome=true):=fun⟨n,v⟩ hy=>by
  rcases S.par n (List.of_mem_zip hy).1 with q|q
  ·exact .inl q
  ·exact .inr ⟨q,PySem.W.cellsFrom_some _ _ _ (.inl q)⟩
 refine codeAny_call_function hr.depth (KX _ _ lk) rfl S.co S.gen rfl (PySem.W.codeRec_of KX hcd) (hb _ _ _ _ ?_)
 refine wpAny_newFunctionEnv_cells S.kind hkind fun env he s1 x=>?_
 subst he
 refine⟨lim.keeps x.toInCall.keep,codeAny_func ?_⟩
 obtain⟨t,ht,hq⟩:=hbody A outer s H vs Q E (hr.deeper _) hsp
 have I:Inv (nq CX P w K mg base N qual scope f cdv A outer s H E) [] (start N vs) H s1:=sQ S hr.hd e0 hl r x
 refine wpAny_mono (ht [] s1 (start N vs) H _ I hq) (fun fl s' hs=>?_) fun e s' hs=>hs
 have fin:∀{σ':St}{H':Hp}{v:V}{u:Value},Inv (nq CX P w K mg base N qual scope f cdv A outer s H E) [] σ' H' s'->RelV v u->Q v H'->CE outer P w H s Q u s' :=
  fun{σ' H' v u} J rv q=>⟨v,H',J.os,J.bare,J.base,J.hok,rv,q⟩
 cases fl with
 |ret u =>
  obtain⟨v,σ',H',J,rv,q⟩:=hs
  exact fin J rv q
 |next =>
  obtain⟨σ',H',J,q⟩:=hs
  exact fin (v:=V.cW) (u:=Value.none) J rfl q
 |brk =>
  obtain⟨_,_,_,q⟩:=hs
  exact False.elim q
 |cont =>
  obtain⟨_,_,_,q⟩:=hs
  exact False.elim q
section
variable {X:Cx}{x:Str}{p pos:Pos}{e:Expr}{es:List Expr}{t:TA}{id T:String}{r:List V->Hp->VK->Prop}
noncomputable def Cy(r:List V->Hp->VK->Prop)(t:TA):TE:=fun σ H Q=>t σ H fun vs H1=>r vs H1 Q
theorem i6(hc:dO X (.builtin id) r)(hg:Gl X x)(hm:X.mg x=none)(hv:bootBuiltins x=some (.builtin id))(ha:PA X (e::es) t)(hn:x≠"__name__":=by decide)(hdb:(x == ("__debug__":Str))=false:=by decide)
  (he:starEach (e::es) X.env=(false,eval e X.env)::starEach es X.env:=by rfl) (hpl:(backTo pos (starEach es X.env)).any (·.1)=false:=by rfl):PE X (.Call (.Name x p) (e::es) [] pos) (Cy r t):=by
 intro pins s σ H Q I h
 refine wpAny_Call_Name_kw (gz I hg hm hv ?_ hn hdb)
 exact PyProof.Rows.callWith_builtin1 (bR (ha pos pins s σ H _ I h) fun us s1 ⟨vs,H1,I1,r1,q1⟩=>hc pins s1 σ H1 vs us Q I1 r1 q1) he hpl
theorem sR(hc:dO X (.type T) r)(hg:Gl X x)(hm:X.mg x=none)(hv:bootBuiltins x=some (.type T))(ha:PA X (e::es) t)(hn:x≠"__name__":=by decide)(hdb:(x == ("__debug__":Str))=false:=by decide)
  (he:starEach (e::es) X.env=(false,eval e X.env)::starEach es X.env:=by rfl) (hpl:(backTo pos (starEach es X.env)).any (·.1)=false:=by rfl):PE X (.Call (.Name x p) (e::es) [] pos) (Cy r t):=by
 intro pins s σ H Q I h
 refine wpAny_Call_Name_kw (gz I hg hm hv ?_ hn hdb)
 exact PyProof.Rows.callWith_type1 (bR (ha pos pins s σ H _ I h) fun us s1 ⟨vs,H1,I1,r1,q1⟩=>hc pins s1 σ H1 vs us Q I1 r1 q1) he hpl
end
end L2
namespace HT
open PySem PyProof.Rows
section
open PySem.SeqAt
open PySem.AutoSeq1 (wpAny_loadPart')
open PySem.MeetsSeq PySem.MeetsSeq2 PySem.MeetsSeq3
end
section
variable {prog:Program}{w:World}{A:Around}{E:Value->Shared->Prop}{s:Shared}
theorem xn{t b:Addr}{vs ws:List Value}{Q:Value->Shared->Prop}(ht:IsTup s.heap t vs.toArray)(hb:IsTup s.heap b ws.toArray)(hv:vs≠[])
  (h1:ws=[]->Q (.ref t) s) (h2:ws≠[]->Q (.ref s.heap.objs.size) {s with heap:=s.heap.push {cls:=.type "tuple",data:=.seq (vs++ws).toArray}})
  (hsz:vs.length+ws.length<=sizeLine):wpAny (model prog w) A (binaryOp .Add (.ref t) (.ref b)) Q E s:=by
 obtain⟨⟨cls,dd,data,sl⟩,ho,hc,n,hd⟩:=id ht
 obtain⟨⟨cls2,dd2,data2,sl2⟩,ho2,hc2,n2,hd2⟩:=id hb
 simp only at hc hd hc2 hd2
 subst hc hd hc2 hd2
 have e:vs.toArray++ws.toArray=(vs++ws).toArray:=by simp
 by_cases hw:ws=[]
 ·exact concat_meets ⟨_,ho,rfl⟩ ⟨_,ho2,rfl⟩ noFill_tuple_add seq_tuple_add PySem.F.slot_tuple_add PySem.F.entry_tuple_add (PySem.F.args_tuple_add_2 _ _)
   (tuple_addW1 t b vs.toArray ws.toArray n n2 dd dd2 sl sl2 (by simpa using hv) (by simp[hw])) ⟨ho,ho2,h1 hw⟩
 ·refine concat_meets ⟨_,ho,rfl⟩ ⟨_,ho2,rfl⟩ noFill_tuple_add seq_tuple_add PySem.F.slot_tuple_add PySem.F.entry_tuple_add (PySem.F.args_tuple_add_2 _ _)
   (tuple_addW2 t b vs.toArray ws.toArray n n2 dd dd2 sl sl2 (by simpa using hv) (by simpa using hw) (by rw[List.size_toArray,List.size_toArray];exact hsz)) ⟨ho,ho2,?_⟩
  rw[e]
  exact h2 hw
noncomputable def dm(n d:Nat):Option Int->Nat
 |none=>d
 |some v=>if v<0 then(v+(n:Int)).toNat else min v.toNat n
theorem oA(n d:Nat):dm n d none=d:=rfl
theorem nt(n d k:Nat):dm n d (some (k:Int))=min k n:=by
 show(if(k:Int)<0 then((k:Int)+(n:Int)).toNat else min (k:Int).toNat n)=min k n
 rw[if_neg (by omega),Int.toNat_natCast]
theorem zM(n d:Nat)(hd:d<=n)(o:Option Int):dm n d o<=n:=by
 cases o with
 |none=>exact hd
 |some v =>
  show(if v<0 then(v+(n:Int)).toNat else min v.toNat n)<=n
  by_cases hv:v<0
  ·rw[if_pos hv];omega
  ·rw[if_neg hv];exact Nat.min_le_right _ _
theorem qX(v:Int)(n d:Nat):(if v<0 then max (v+(n:Int)) 0 else min v (n:Int))=((dm n d (some v):Nat):Int):=by
 show(if v<0 then max (v+(n:Int)) 0 else min v (n:Int))=(((if v<0 then(v+(n:Int)).toNat else min v.toNat n):Nat):Int)
 by_cases hv:v<0
 ·simp only[if_pos hv];omega
 ·simp only[if_neg hv];omega
theorem qm(lo hi:Option Int)(n:Nat):Builtin.Slice.sliceAdjust lo hi 1 (n:Int)=(((dm n 0 lo:Nat):Int),((dm n n hi:Nat):Int)):=by
 have h1:¬((1:Int)<0):=by omega
 unfold Builtin.Slice.sliceAdjust
 simp only[h1,if_false]
 refine Prod.ext ?_ ?_
 ·cases lo with
  |none=>rfl
  |some v=>exact qX v n 0
 ·cases hi with
  |none=>rfl
  |some v=>exact qX v n n
theorem qo(i j:Nat):Builtin.Slice.slicePlaces (i:Int) (j:Int) 1=j-i:=by
 unfold Builtin.Slice.slicePlaces
 have h1:(1:Int)>0:=by omega
 simp only[h1,if_true,Int.ediv_one]
 split<;>omega
theorem eG{v:Value}{o:Option Int}{Q:Option Int->Shared->Prop}(p:IsPart v o)(h:Q o s):wpAny (model prog w) A (Builtin.Slice.slicePartIndex v) Q E s:=by
 cases p with
 |none=>exact slicePart_none h
 |int i t=>exact slicePart_int h
theorem jy{sl:Addr}{vl vu:Value}{lo hi:Option Int}{n:Nat}{Q:Int×Int×Nat->Shared->Prop}(hs:s.heap.IsSliceOf sl vl vu .none)(pl:IsPart vl lo)(pu:IsPart vu hi)
  (h:Q (((dm n 0 lo:Nat):Int),1,dm n n hi-dm n 0 lo) s):wpAny (model prog w) A (Builtin.Slice.sliceApplied (.ref sl) (pure (n:Int))) Q E s:=by
 obtain⟨os,hos,hcs,hds⟩:=id hs
 unfold Builtin.Slice.sliceApplied Builtin.Slice.sliceFields
 refine wpAny_bind (wpAny_bind (wpAny_field hos hds (x:=vl) rfl (wpAny_bind (wpAny_field hos hds (x:=vu) rfl (wpAny_bind (wpAny_field hos hds (x:=.none) rfl (wpAny_pure ?_)))))))
 refine wpAny_bind (slicePart_none ?_)
 show wpAny _ _ (if((1:Int) == 0)=true then _ else _) _ _ s
 rw[if_neg (by decide)]
 refine wpAny_bind (eG pl (wpAny_bind (eG pu (wpAny_bind (wpAny_pure ?_)))))
 show wpAny _ _ (match Builtin.Slice.sliceAdjust lo hi 1 (n:Int)with|(lo,hi)=>pure (lo,(1:Int),Builtin.Slice.slicePlaces lo hi 1)) _ _ s
 rw[qm lo hi n]
 show wpAny _ _ (pure (((dm n 0 lo:Nat):Int),(1:Int),Builtin.Slice.slicePlaces ((dm n 0 lo:Nat):Int) ((dm n n hi:Nat):Int) 1)) _ _ s
 rw[qo]
 exact wpAny_pure h
theorem uI(xs:Array Value)(i k:Nat):((List.range k).filterMap fun(m:Nat)=>xs[((i:Int)+(m:Int)*1).toNat]?).toArray=((xs.toList.drop i).take k).toArray:=by
 have e:(fun(m:Nat)=>xs[((i:Int)+(m:Int)*1).toNat]?)=fun m=>xs[i+m]?:=by
  funext m
  have:((i:Int)+(m:Int)*1).toNat=i+m:=by omega
  rw[this]
 rw[e]
 have:=pick_run xs i k
 rw[List.filterMap_map]at this
 have e2:((fun x=>xs[x]?) ∘ fun x=>i+x)=fun m=>xs[i+m]?:=rfl
 rw[e2]at this
 rw[this]
theorem i7{t sl:Addr}{items:Array Value}{vl vu:Value}{lo hi:Option Int}{Q:Value->Shared->Prop}(ht:IsTup s.heap t items)(hs:s.heap.IsSliceOf sl vl vu .none)(pl:IsPart vl lo)(pu:IsPart vu hi)
  (hw:¬(dm items.size 0 lo=0/\dm items.size items.size hi=items.size))
  (h:Q (.ref s.heap.objs.size) {s with heap:=s.heap.push {cls:=.type "tuple",data:=.seq ((items.toList.drop (dm items.size 0 lo)).take (dm items.size items.size hi-dm items.size 0 lo)).toArray}})
  (hsz:items.size<=sizeLine):wpAny (model prog w) A (getItem (.ref t) (.ref sl)) Q E s:=by
 have htake:sizeOk (.seq ((items.toList.drop (dm items.size 0 lo)).take (dm items.size items.size hi-dm items.size 0 lo)).toArray):=by
  show((items.toList.drop (dm items.size 0 lo)).take (dm items.size items.size hi-dm items.size 0 lo)).toArray.size<=sizeLine
  rw[List.size_toArray,List.length_take,List.length_drop,Array.length_toList]
  omega
 have hj:dm items.size items.size hi<=items.size:=zM _ _ (Nat.le_refl _) hi
 obtain⟨os,hos,hcs,hds⟩:=id hs
 have hTs:s.TypeIs (.ref sl) "slice":=⟨os,hos,hcs⟩
 unfold getItem
 try with_reducible refine wpAny_holding ?_
 first|refine wpAny_bind (wpAny_pure ?_)|skip
 refine wpAny_bind (wpAny_sequenceKey ht.typeIs (by decide) ?_)
 refine wpAny_bind (wpAny_callSpecial?_slot (name:=Str.ofString "__getitem__") ht.typeIs PyProof.Rows.slot_tuple_getitem
  (wpAny_call_entry PyProof.Rows.slot_tuple_getitem ht.typeIs entry_tuple_getitem ?_ (args_tuple_getitem _ _)))
 show wpAny _ _ (Builtin.Tuple.tupleItemsOf (.ref t)>>=_) _ _ s
 refine wpAny_bind (tupleItemsOf_ ht ?_)
 refine wpAny_bind (wpAny_typeOf hTs ?_)
 rw[if_pos (by decide)]
 refine wpAny_bind (jy hs pl pu ?_)
 have hno:¬((((dm items.size 0 lo:Nat):Int) == 0&&(1:Int) == 1&&(dm items.size items.size hi-dm items.size 0 lo) == items.size)=true):=by
  intro q
  rw[Bool.and_eq_true,Bool.and_eq_true]at q
  have q1:((dm items.size 0 lo:Nat):Int)=0:=eq_of_beq q.1.1
  have q2:dm items.size items.size hi-dm items.size 0 lo=items.size:=eq_of_beq q.2
  exact hw ⟨by omega,by omega⟩
 show wpAny _ _ (if(((dm items.size 0 lo:Nat):Int) == 0&&(1:Int) == 1&&(dm items.size items.size hi-dm items.size 0 lo) == items.size)=true then _ else _) _ _ s
 rw[if_neg hno,uI]
 first
  |exact wpAny_bind (m:=Builtin.Tuple.tupleExact _) (wpAny_newObj_type (wpAny_pure ⟨_,rfl,wpAny_pure h⟩) htake)
  |exact wpAny_bind (m:=Builtin.Tuple.tupleExact _) (wpAny_newObj_type (wpAny_bind (wpAny_pure (wpAny_pure ⟨_,rfl,wpAny_pure h⟩))) htake)
  |exact wpAny_bind (wpAny_bind (m:=Builtin.Tuple.tupleExact _) (wpAny_newObj_type (wpAny_pure (wpAny_pure ⟨_,rfl,wpAny_pure h⟩)) htake))
  |exact wpAny_bind (wpAny_bind (m:=Builtin.Tuple.tupleExact _) (wpAny_newObj_type (wpAny_pure ⟨_,rfl,wpAny_pure h⟩) htake))
end
end HT
namespace L2
open PySem PySem.Spec PyProof.Rows
noncomputable abbrev TO:=St->Hp->(Option Int->Hp->Prop)->Prop
noncomputable def PO(X:Cx)(e:Option Expr)(t:TO):Prop :=
 ∀(pins:List (Addr×Obj)) (s:Shared) (σ:St) (H:Hp) (Q:Option Int->Hp->Prop),Inv X pins σ H s->t σ H Q ->
  wpAny (model X.prog X.w) X.A (evalPart e X.env) (fun u s'=>∃o H',Inv X pins σ H' s'/\IsPart u o/\Q o H') X.xe s
noncomputable def xo:TO:=fun _ H Q=>Q none H
noncomputable def Be(t:TE):TO:=fun σ H Q=>t σ H fun x H1=>∃i,x=.int i/\Q (some i) H1
theorem intsAre_of{ns:List Int}:∀{us:List Value},Vals (ns.map V.int) us->IntsAre us ns:=by
 induction ns with
 |nil=>intro us r;rw[List.map_nil]at r;cases r;exact .nil
 |cons n ns ih =>
  intro us r
  rw[List.map_cons]at r
  cases r with
  |cons r1 r2 =>
   obtain⟨t,e⟩:=r1
   subst e
   exact .cons n t (ih r2)
section
variable {X:Cx}{e:Expr}{te:TE}{lo hi:Option Expr}{tl th:TO}{pos p2:Pos}
theorem cE:PO X none xo:=by
 intro pins s σ H Q I h
 rw[evalPart_none]
 exact wpAny_pure ⟨none,H,I,.none,h⟩
theorem bV(h:PE X e te):PO X (some e) (Be te):=by
 intro pins s σ H Q I hw
 rw[evalPart_some]
 refine bR (h pins s σ H _ I hw) fun u s1 ⟨x,H1,I1,r1,q1⟩=>?_
 obtain⟨i,rfl,q⟩:=q1
 obtain⟨t,rfl⟩:=r1
 exact⟨some i,H1,I1,.int i t,q⟩
noncomputable def BY(X:Cx)(r:V->Option Int->Option Int->Hp->VK->Prop):Prop :=
 ∀(pins:List (Addr×Obj)) (s:Shared) (σ:St) (H:Hp) (x:V) (v vl vu:Value) (lo hi:Option Int) (sl:Addr) (Q:VK),Inv X pins σ H s->RelV x v->s.heap.IsSliceOf sl vl vu .none->IsPart vl lo->IsPart vu hi->r x lo hi H Q ->
  ∃T id,typeLookup (.type T) "__getitem__"=pure (some (.builtin id))/\s.TypeIs v T/\wpAny (model X.prog X.w) X.A (getItem v (.ref sl)) (EP X pins σ Q) X.xe s
noncomputable def Dc(r:V->Option Int->Option Int->Hp->VK->Prop)(te:TE)(tl th:TO):TE:=fun σ H Q=>te σ H fun x H1=>tl σ H1 fun l H2=>th σ H2 fun u H3=>r x l u H3 Q
theorem b8{r:V->Option Int->Option Int->Hp->VK->Prop}(hr:BY X r)(he:PE X e te)(hl:PO X lo tl)(hu:PO X hi th):PE X (.Subscript e (.Slice lo hi none p2) pos) (Dc r te tl th):=by
 intro pins s σ H Q I h
 refine Subscript_ (bR (he pins s σ H _ I h) fun v s1 ⟨x,H1,I1,r1,q1⟩=>?_)
 refine wpAny_Slice (bR (hl pins s1 σ H1 _ I1 q1) fun vl s2 ⟨l,H2,I2,pl,q2⟩=>bR (hu pins s2 σ H2 _ I2 q2) fun vu s3 ⟨u,H3,I3,pu,q3⟩=>?_)
 rw[evalPart_none]
 refine wpAny_pure ?_
 have I4:Inv X pins σ H3 {s3 with heap:=s3.heap.push {cls:=.type "slice",data:=.fields #[vl,vu,.none]}}:=I3.kept (t':=s3.toks) fun b ob q=>Heap.get?_push_of_some _ q
 obtain⟨T,id,hT,ht,hg⟩:=hr pins {s3 with heap:=s3.heap.push {cls:=.type "slice",data:=.fields #[vl,vu,.none]}} σ H3 x v vl vu l u s3.heap.objs.size Q I4 r1 (Heap.IsSliceOf.new ..) pl pu q3
 show wpAny (model X.prog X.w) X.A (subscriptTail e (.Slice lo hi none p2) v (.ref s3.heap.objs.size)) (EP X pins σ Q) X.xe {s3 with heap:=s3.heap.push {cls:=.type "slice",data:=.fields #[vl,vu,.none]}}
 exact tail_any (ops:=[.ref s3.heap.objs.size,v]) ht hT hg (by with_unfolding_all rfl)
noncomputable def bF(xs:List V)(lo hi:Option Int):List V:=(xs.drop (HT.dm xs.length 0 lo)).take (HT.dm xs.length xs.length hi-HT.dm xs.length 0 lo)
theorem jJ(xs:List V)(lo hi:Option Int):(bF xs lo hi).length<=xs.length:=by
 unfold bF
 rw[List.length_take,List.length_drop]
 omega
noncomputable def Cz(K:PySem.W.Frag):V->Option Int->Option Int->Hp->VK->Prop:=fun x lo hi H Q=>∃a xs,x=.ref a/\aJ K H a xs /\
 ¬(HT.dm xs.length 0 lo=0/\HT.dm xs.length xs.length hi=xs.length)/\∀p,H p=none->Q (.ref p) (upd H p (.tup (bF xs lo hi)))
theorem uJ:BY X (Cz X.K):=by
 intro pins s σ H x v vl vu lo hi sl Q I rx hs pl pu h
 obtain⟨a,xs,rfl,hx,hw,q⟩:=h
 cases rx
 obtain⟨its,r,ht,hz⟩:=I.tuple hx
 have hlen:its.toArray.size=xs.length:=by rw[List.size_toArray];exact r.length.symm
 refine⟨"tuple",_,PyProof.Rows.slot_tuple_getitem.lookup,ht.typeIs,?_⟩
 refine HT.i7 ht hs pl pu (by rw[hlen];exact hw) ?_ (by rw[hlen];exact hz)
 rw[hlen]
 refine⟨.ref s.heap.objs.size,_,I.laid (t':=s.toks) (o:=.tup (bF xs lo hi)) (fun b ob q=>Heap.get?_push_of_some _ q) (Nat.le_refl _) ?_,rfl,q _ (I.hok.fresh (Nat.le_refl _))⟩
 exact⟨Nat.le_trans (jJ xs lo hi) hz,_,(r.drop (HT.dm xs.length 0 lo)).take (HT.dm xs.length xs.length hi-HT.dm xs.length 0 lo),IsTup.new _ _,_,Heap.get?_push_size _ rfl,rfl⟩
noncomputable def Bf(K:PySem.W.Frag):R2:=fun x y H Q=>∃a b xs ys,x=.ref a/\y=.ref b/\aJ K H a xs/\aJ K H b ys/\xs≠[]/\xs.length+ys.length<=sizeLine /\
 (ys=[]->Q (.ref a) H)/\(ys≠[]->∀p,H p=none->Q (.ref p) (upd H p (.tup (xs++ys))))
theorem Vals.nu{xs:List V}{us:List Value}(r:Vals xs us):us=[]↔xs=[]:=by
 cases r with
 |nil=>simp
 |cons _ _=>simp
theorem qY:i4 X (binaryOp .Add) (Bf X.K):=by
 intro pins s σ H x y v u Q I rx ry h
 obtain⟨a,b,xs,ys,rfl,rfl,ha,hb,hx,hz,q1,q2⟩:=h
 cases rx
 cases ry
 obtain⟨its,r1,p1,_⟩:=I.tuple ha
 obtain⟨its2,r2,p2,_⟩:=I.tuple hb
 refine HT.xn p1 p2 (fun z=>hx (r1.nu.mp z)) (fun z=>⟨.ref a,H,I,rfl,q1 (r2.nu.mp z)⟩) (fun z=>?_) (by rw[←r1.length,←r2.length];exact hz)
 refine⟨.ref s.heap.objs.size,_,I.laid (t':=s.toks) (o:=.tup (xs++ys)) (fun b ob q=>Heap.get?_push_of_some _ q) (Nat.le_refl _) ?_,rfl,q2 (fun w=>z (r2.nu.mpr w)) _ (I.hok.fresh (Nat.le_refl _))⟩
 exact⟨by rw[List.length_append];exact hz,_,r1.append r2,IsTup.new _ _,_,Heap.get?_push_size _ rfl,rfl⟩
end
noncomputable def wM(n:Nat)(i:Int):Option Nat:=if 0<=i then(if i<n then some i.toNat else none)else if -(n:Int)<=i then some (i+n).toNat else none
noncomputable def iI{α:Type}(xs:List α)(i:Int):Option α:=(wM xs.length i).bind fun j=>xs[j]?
theorem qZ{n:Nat}{i:Int}{j:Nat}(h:wM n i=some j):seqIndex? i n=some j/\j<n/\-(n:Int)<=i/\i<n:=by
 unfold wM at h
 by_cases h0:0<=i
 ·rw[if_pos h0]at h
  by_cases h1:i<n
  ·rw[if_pos h1]at h
   have e:i.toNat=j:=Option.some.inj h
   exact⟨by rw[seqIndex_of h0 h1,e],by omega,by omega,h1⟩
  ·rw[if_neg h1]at h;cases h
 ·rw[if_neg h0]at h
  by_cases h1:-(n:Int)<=i
  ·rw[if_pos h1]at h
   have e:(i+n).toNat=j:=Option.some.inj h
   exact⟨by rw[seqIndex_neg (by omega) h1,e],by omega,h1,by omega⟩
  ·rw[if_neg h1]at h;cases h
theorem ny{α:Type}{xs:List α}{i:Int}{v:α}(h:iI xs i=some v):∃j,seqIndex? i xs.length=some j/\xs[j]?=some v/\j<xs.length/\-(xs.length:Int)<=i/\i<xs.length:=by
 unfold iI at h
 cases e:wM xs.length i with
 |none=>rw[e]at h;cases h
 |some j =>
  rw[e]at h
  obtain⟨h1,h2,h3,h4⟩:=qZ e
  exact⟨j,h1,h,h2,h3,h4⟩
theorem bC{α:Type}{xs:List α}{j:Nat}{v:α}(h:xs[j]?=some v):iI xs (j:Int)=some v:=by
 have hj:j<xs.length:=(List.getElem?_eq_some_iff.mp h).1
 have e:wM xs.length (j:Int)=some j:=by
  unfold wM
  rw[if_pos (by omega),if_pos (by omega)];simp
 unfold iI;rw[e];exact h
noncomputable def xq(b:Expr):Prop:=∀o i,subscripted b false o i=operate [o,i] (getItem o i)
noncomputable def AU(X:Cx)(r:R2):Prop :=
 ∀(value slice:Expr) (pins:List (Addr×Obj)) (s:Shared) (σ:St) (H:Hp) (x y:V) (v u:Value) (Q:VK),Inv X pins σ H s->RelV x v->RelV y u->r x y H Q ->
  subscripted slice false v u=operate [v,u] (getItem v u)->wpAny (model X.prog X.w) X.A (subscriptTail value slice v u) (EP X pins σ Q) X.xe s
noncomputable def BZ(X:Cx)(id:String)(r:V->List V->Hp->VK->Prop):Prop :=
 ∀(pins:List (Addr×Obj)) (s:Shared) (σ:St) (H:Hp) (x:V) (xs:List V) (v:Value) (us:List Value) (Q:VK),Inv X pins σ H s->RelV x v->Vals xs us->r x xs H Q ->
  wpAny (model X.prog X.w) X.A (call (.builtin id) (v::us)) (EP X pins σ Q) X.xe s
section
variable {X:Cx}{a b:Expr}{ta tb:TE}{pos:Pos}
theorem iJ{r:R2}(hr:AU X r)(ha:PE X a ta)(hb:PE X b tb)(hs:xq b):PE X (.Subscript a b pos) (uE r ta tb):=by
 intro pins s σ H Q I h
 exact Subscript_ (zG ha hb I h fun v u s2 x y H2 I2 rx ry q=>hr a b pins s2 σ H2 x y v u Q I2 rx ry q (hs _ _))
noncomputable def uK(K:PySem.W.Frag):R2:=fun x y H Q=>∃p xs i v,x=.ref p/\y=.int i/\bJ K H p xs/\iI xs i=some v/\Q v H
noncomputable def zN(K:PySem.W.Frag):R2:=fun x y H Q=>∃p xs i v,x=.ref p/\y=.int i/\aJ K H p xs/\iI xs i=some v/\Q v H
noncomputable def CA:R2:=fun x y H Q=>∃z i c,x=.str z/\y=.int i/\z.length<=sizeLine/\iI z.cps.toList i=some c/\Q (.str ⟨#[c]⟩) H
theorem aT:AU X (uK X.K):=by
 intro value slice pins s σ H x y v u Q I rx ry h hs
 obtain⟨p,xs,i,z,rfl,rfl,hq,he,q⟩:=h
 cases rx
 obtain⟨t,rfl⟩:=ry
 obtain⟨its,r,pl,hz⟩:=I.list hq
 obtain⟨j,h1,h2,h3,h4,h5⟩:=ny he
 obtain⟨w,ew,rw'⟩:=r.get h2
 have hl:=r.length
 have hn:=gJ
 have fin:EP X pins σ Q w s:=⟨z,H,I,rw',q⟩
 by_cases h0:0<=i
 ·have hj:i.toNat=j:=by
   rw[seqIndex_of h0 h5]at h1
   exact Option.some.inj h1
  exact item_listR pl.isList h0 (by omega) (by rw[hj];simpa using ew) fin hs
 ·have hj:(i+(its.toArray.size:Int)).toNat=j:=by
   rw[seqIndex_neg (by omega) h4]at h1
   rw[List.size_toArray,←hl]
   exact Option.some.inj h1
  exact subscriptTail_builtinR (x:=w) pl.isList.typeIs slot_list_getitem.lookup
   (wpAny_getItem_list_neg (Q:=fun r s'=>r=w/\EP X pins σ Q r s') pl.isList (by omega) (by rw[List.size_toArray]<;>omega) (by omega) (by rw[hj];simpa using ew) ⟨rfl,fin⟩) hs
theorem aD:AU X (zN X.K):=by
 intro value slice pins s σ H x y v u Q I rx ry h hs
 obtain⟨p,xs,i,z,rfl,rfl,hq,he,q⟩:=h
 cases rx
 obtain⟨t,rfl⟩:=ry
 obtain⟨its,r,pl,hz⟩:=I.tuple hq
 obtain⟨j,h1,h2,h3,h4,h5⟩:=ny he
 obtain⟨w,ew,rw'⟩:=r.get h2
 have hl:=r.length
 have hn:=gJ
 have fin:EP X pins σ Q w s:=⟨z,H,I,rw',q⟩
 exact subscriptTail_builtinR (x:=w) pl.typeIs slot_tuple_getitem.lookup
  (getItem_tuple (j:=j) (Q:=fun r s'=>r=w/\EP X pins σ Q r s') pl (by omega) (by omega) (by rw[List.size_toArray,←hl];exact h1) (by simpa using ew) ⟨rfl,fin⟩) hs
theorem qp:AU X CA:=by
 intro value slice pins s σ H x y v u Q I rx ry h hs
 obtain⟨z,i,c,rfl,rfl,hz,he,q⟩:=h
 obtain⟨t,rfl⟩:=rx
 obtain⟨t',rfl⟩:=ry
 obtain⟨j,h1,h2,h3,h4,h5⟩:=ny he
 have hl:z.cps.toList.length=z.length:=by simp[Str.length]
 rw[hl]at h1 h4 h5
 have hn:=gJ
 exact tail_any (typeIs_str s z t) slot_str_getitem.lookup (getItem_str (c:=c) (by
  have e1:decide (i < -(2 ^ 63:Int))=false:=decide_eq_false (by omega)
  have e2:decide (i ≥ 2 ^ 63)=false:=decide_eq_false (by omega)
  rw[e1,e2,Bool.or_false]) (by rw[h1];simpa using h2) ⟨.str ⟨#[c]⟩,H,I.tok _,⟨_,rfl⟩,q⟩) hs
theorem qq(its:List Value)(n j:Nat)(u:Value):Obj.mapSeq (·.setIfInBounds j u) {cls:=.type "list",data:=.seq its.toArray n}={cls:=.type "list",data:=.seq (its.set j u).toArray n}:=by
 simp[Obj.mapSeq]
theorem Inv.lst{pins:List (Addr×Obj)}{σ:St}{H:Hp}{s:Shared}{p:Addr}{xs:List V}(I:Inv X pins σ H s)(h:H p=some (.lst xs)) :
  ∃(its:List Value) (n:Nat),Vals xs its/\s.heap.get? p=some {cls:=.type "list",data:=.seq its.toArray n}/\xs.length<=sizeLine:=by
 obtain⟨z,its,n,r,e⟩:=I.hok p _ h
 exact⟨its,n,r,e,z⟩
theorem Inv.zO{pins:List (Addr×Obj)}{σ:St}{H:Hp}{s:Shared}{p:Addr}{xs ys:List V}{its its':List Value}{n n':Nat}{f:Obj->Obj}(I:Inv X pins σ H s)(h:H p=some (.lst xs))
  (ho:s.heap.get? p=some {cls:=.type "list",data:=.seq its.toArray n}) (hf:f {cls:=.type "list",data:=.seq its.toArray n}={cls:=.type "list",data:=.seq its'.toArray n'}) (r:Vals ys its') (hz:ys.length<=sizeLine) (t:Nat) :
  Inv X pins σ (upd H p (.lst ys)) {s with heap:=s.heap.update p f,toks:=t}:=by
 have e:(s.heap.update p f).get? p=some {cls:=.type "list",data:=.seq its'.toArray n'}:=by
  rw[Heap.get?_update_self f ho (by rw[hf]<;>rfl),hf]
 refine I.write (x:=p) (e:=p) (by rw[h];trivial) (.inl rfl) (fun b u hb q=>(Heap.get?_update_other _ _ (Ne.symm hb)).trans q) ⟨_,e⟩ ?_
 exact⟨hz,its',n',r,e⟩
noncomputable def Bg:V->V->V->Hp->(Hp->Prop)->Prop:=fun o i v H Q=>∃p xs k j,o=.ref p/\i=.int k/\H p=some (.lst xs)/\wM xs.length k=some j/\Q (upd H p (.lst (xs.set j v)))
theorem set_list:A4 X Bg:=by
 intro pins s σ H o i v ov iv u Q I ro ri rv h
 obtain⟨p,xs,k,j,rfl,rfl,hp,hj,q⟩:=h
 cases ro
 obtain⟨t,rfl⟩:=ri
 obtain⟨its,n,r,ho,hz⟩:=I.lst hp
 obtain⟨h1,h2,h3,h4⟩:=qZ hj
 have hl:=r.length
 have hn:=gJ
 have I':Inv X pins σ (upd H p (.lst (xs.set j v))) {s with heap:=s.heap.update p (Obj.mapSeq (·.setIfInBounds j u))} :=
  I.zO hp ho (qq its n j u) (r.set rv j) (by rw[List.length_set];exact hz) s.toks
 by_cases h0:0<=k
 ·have hk:k.toNat=j:=by
   rw[seqIndex_of h0 h4]at h1
   exact Option.some.inj h1
  exact PySem.W.ki_setAt ho h0 (by omega) (by rw[List.size_toArray,←hl];exact h4) (by rw[hk];exact⟨_,I',q⟩)
 ·have hk:(k+(its.toArray.size:Int)).toNat=j:=by
   rw[seqIndex_neg (by omega) h3]at h1
   rw[List.size_toArray,←hl]
   exact Option.some.inj h1
  exact PySem.W.ki_setBack ho (by omega) (by rw[List.size_toArray,←hl];exact h3) (by omega) (by rw[hk];exact⟨_,I',q⟩)
theorem nA(lo hi:Option Int)(n:Nat):(sliceBounds lo hi none n).1=((HT.dm n 0 lo:Nat):Int)/\(sliceBounds lo hi none n).2.1=((HT.dm n n hi:Nat):Int)/\(sliceBounds lo hi none n).2.2=1:=by
 refine⟨?_,?_,rfl⟩
 ·cases lo with
  |none=>simp[sliceBounds,HT.dm]
  |some i =>
   simp only[sliceBounds,HT.dm,Option.getD_none,show(1:Int)>0 by decide,if_true]
   by_cases h:i<0
   ·simp only[h,if_true]<;>omega
   ·simp only[h,if_false]<;>omega
 ·cases hi with
  |none=>simp[sliceBounds,HT.dm]
  |some i =>
   simp only[sliceBounds,HT.dm,Option.getD_none,show(1:Int)>0 by decide,if_true]
   by_cases h:i<0
   ·simp only[h,if_true]<;>omega
   ·simp only[h,if_false]<;>omega
theorem lQ(its:List Value)(lo hi:Option Int):slicePick its.toArray lo hi none=((its.drop (HT.dm its.length 0 lo)).take (HT.dm its.length its.length hi-HT.dm its.length 0 lo)).toArray:=by
 obtain⟨h1,h2,h3⟩:=nA lo hi its.toArray.size
 unfold slicePick
 rw[h1,h2,h3]
 simp only[sliceRange_one,pick_run,List.size_toArray]<;>rfl
noncomputable def CB(K:PySem.W.Frag):V->Option Int->Option Int->Hp->VK->Prop:=fun x lo hi H Q=>∃a xs,x=.ref a/\bJ K H a xs/\∀p,H p=none->Q (.ref p) (upd H p (.lst (bF xs lo hi)))
theorem d8:BY X (CB X.K):=by
 intro pins s σ H x v vl vu lo hi sl Q I rx hs pl pu h
 obtain⟨a,xs,rfl,hx,q⟩:=h
 cases rx
 obtain⟨its,r,ht,hz⟩:=I.list hx
 have hlen:=r.length
 refine⟨"list",_,slot_list_getitem.lookup,ht.isList.typeIs,?_⟩
 refine wpAny_getItem_list_slice ht.isList hs pl pu .none (by simp) ?_ (by rw[List.size_toArray]<;>omega)
 rw[lQ,←hlen]
 refine⟨.ref s.heap.objs.size,_,I.laid (t':=s.toks) (o:=.lst (bF xs lo hi)) (fun b ob q=>Heap.get?_push_of_some _ q) (Nat.le_refl _) ?_,rfl,q _ (I.hok.fresh (Nat.le_refl _))⟩
 exact⟨Nat.le_trans (jJ xs lo hi) hz,_,0,(r.drop (HT.dm xs.length 0 lo)).take (HT.dm xs.length xs.length hi-HT.dm xs.length 0 lo),Heap.get?_push_size _ rfl⟩
noncomputable def gk:V->Bool
 |.cW=>true
 |.bl _=>true
 |.int _=>true
 |.str _=>true
 |_=>false
noncomputable def wN:V->V->Bool
 |.cW,.cW=>true
 |.bl a,.bl b=>a == b
 |.bl a,.int b=>(if a then 1 else 0) == b
 |.int a,.bl b=>a == (if b then 1 else 0)
 |.int a,.int b=>a == b
 |.str a,.str b=>a == b
 |_,_=>false
theorem zP{A:Around}{s:Shared}{y x:V}{u v:Value}(ry:RelV y u)(rx:RelV x v)(fy:gk y=true)(fx:gk x=true):SeqAt.EqAt A s u v (wN y x):=by
 cases y with
 |cW =>
  cases ry
  cases x with
  |cW=>cases rx;exact SeqAt.EqAt.same _
  |bl b=>cases rx;exact SeqAt.EqAt.none_bool b
  |int b=>obtain⟨t,rfl⟩:=rx;exact SeqAt.EqAt.none_int b t
  |str b=>obtain⟨t,rfl⟩:=rx;exact SeqAt.EqAt.none_str b t
  |_=>exact absurd (show false=true from fx) Bool.false_ne_true
 |bl a =>
  cases ry
  cases x with
  |cW=>cases rx;exact SeqAt.EqAt.bool_none a
  |bl b=>cases rx;exact SeqAt.EqAt.bool_bool a b
  |int b=>obtain⟨t,rfl⟩:=rx;exact SeqAt.EqAt.bool_int a b t
  |str b=>obtain⟨t,rfl⟩:=rx;exact SeqAt.EqAt.bool_str a b t
  |_=>exact absurd (show false=true from fx) Bool.false_ne_true
 |int a =>
  obtain⟨t',rfl⟩:=ry
  cases x with
  |cW=>cases rx;exact SeqAt.EqAt.int_none a t'
  |bl b=>cases rx;exact SeqAt.EqAt.int_bool a t' b
  |int b=>obtain⟨t,rfl⟩:=rx;exact SeqAt.EqAt.int_int a t' b t
  |str b=>obtain⟨t,rfl⟩:=rx;exact SeqAt.EqAt.int_str a t' b t
  |_=>exact absurd (show false=true from fx) Bool.false_ne_true
 |str a =>
  obtain⟨t',rfl⟩:=ry
  cases x with
  |cW=>cases rx;exact SeqAt.EqAt.str_none a t'
  |bl b=>cases rx;exact SeqAt.EqAt.str_bool a t' b
  |int b=>obtain⟨t,rfl⟩:=rx;exact SeqAt.EqAt.str_int a t' b t
  |str b=>obtain⟨t,rfl⟩:=rx;exact SeqAt.EqAt.str_str a t' b t
  |_=>exact absurd (show false=true from fx) Bool.false_ne_true
 |_=>exact absurd (show false=true from fy) Bool.false_ne_true
noncomputable def qt(x:V)(u:Value):Bool:=match u with
 |.none=>wN .cW x
 |.bool b=>wN (.bl b) x
 |.int i _=>wN (.int i) x
 |.str z _=>wN (.str z) x
 |_=>false
theorem uL{x y:V}{u:Value}(r:RelV y u)(f:gk y=true):qt x u=wN y x:=by
 cases y with
 |cW=>cases r;rfl
 |bl b=>cases r;rfl
 |int i=>obtain⟨t,rfl⟩:=r;rfl
 |str z=>obtain⟨t,rfl⟩:=r;rfl
 |_=>exact absurd (show false=true from f) Bool.false_ne_true
theorem i8{x:V}:∀{xs:List V}{us:List Value},Vals xs us->xs.all gk=true->us.any (qt x)=xs.any fun y=>wN y x
 |_,_,.nil,_=>rfl
 |y::xs,u::us,.cons r t,f=>by
  rw[List.all_cons,Bool.and_eq_true]at f
  rw[List.any_cons,List.any_cons,uL r f.1,i8 t f.2]
theorem gK{A:Around}{s:Shared}{x:V}{v:Value}(rx:RelV x v)(fx:gk x=true):∀{xs:List V}{us:List Value},Vals xs us->xs.all gk=true->∀u∈us,SeqAt.EqAt A s u v (qt x u)
 |_,_,.nil,_=>fun u hu=>by cases hu
 |y::xs,u::us,.cons r t,f=>fun u' hu=>by
  rw[List.all_cons,Bool.and_eq_true]at f
  rcases List.mem_cons.mp hu with rfl|hu
  ·rw[uL r f.1];exact zP r rx f.1 fx
  ·exact gK rx fx t f.2 u' hu
noncomputable def zQ(x:V)(xs:List V):Bool:=xs.any fun y=>wN y x
noncomputable def CC(K:PySem.W.Frag)(neg:Bool):R2:=fun x y H Q=>∃p xs,y=.ref p/\(bJ K H p xs\/aJ K H p xs)/\gk x=true/\xs.all gk=true/\Q (.bl (if neg then !zQ x xs else zQ x xs)) H
theorem dz:i4 X (compareOp .In) (CC X.K false):=by
 intro pins s σ H x y v u Q I rx ry h
 obtain⟨p,xs,rfl,hq,fx,fs,q⟩:=h
 cases ry
 rcases hq with hq|hq
 ·obtain⟨its,r,pl,hz⟩:=I.list hq
  refine SeqAt.in_listAt (qt x) pl.isList (fun w hw=>gK rx fx r fs w (by simpa using hw)) ⟨.bl _,H,I,rfl,?_⟩
  rw[show its.toArray.any (qt x)=its.any (qt x) by simp,i8 r fs]
  exact q
 ·obtain⟨its,r,pl,hz⟩:=I.tuple hq
  refine SeqAt.in_tupleAt (qt x) pl (fun w hw=>gK rx fx r fs w (by simpa using hw)) ⟨.bl _,H,I,rfl,?_⟩
  rw[show its.toArray.any (qt x)=its.any (qt x) by simp,i8 r fs]
  exact q
theorem nB:i4 X (compareOp .NotIn) (CC X.K true):=by
 intro pins s σ H x y v u Q I rx ry h
 obtain⟨p,xs,rfl,hq,fx,fs,q⟩:=h
 cases ry
 rcases hq with hq|hq
 ·obtain⟨its,r,pl,hz⟩:=I.list hq
  refine SeqAt.notIn_listAt (qt x) pl.isList (fun w hw=>gK rx fx r fs w (by simpa using hw)) ⟨.bl _,H,I,rfl,?_⟩
  rw[show its.toArray.any (qt x)=its.any (qt x) by simp,i8 r fs]
  exact q
 ·obtain⟨its,r,pl,hz⟩:=I.tuple hq
  refine SeqAt.notIn_tupleAt (qt x) pl (fun w hw=>gK rx fx r fs w (by simpa using hw)) ⟨.bl _,H,I,rfl,?_⟩
  rw[show its.toArray.any (qt x)=its.any (qt x) by simp,i8 r fs]
  exact q
theorem bX:dO X (.builtin "len") (fun xs H Q=>∃p ys,xs=[.ref p]/\(bJ X.K H p ys\/aJ X.K H p ys)/\Q (.int ys.length) H):=by
 intro pins s σ H xs us Q I r h
 obtain⟨p,ys,rfl,hq,q⟩:=h
 obtain⟨u,rfl,rx⟩:=vals1 r
 cases rx
 have hn:=gJ
 rcases hq with hq|hq
 ·obtain⟨its,r',pl,hz⟩:=I.list hq
  have hlen:=r'.length
  exact Calls.call_len_list pl.isList (by simp only[List.size_toArray]<;>omega) ⟨.int ys.length,H,I.tok _,⟨s.toks+1,by rw[List.size_toArray,hlen]⟩,q⟩
 ·obtain⟨its,r',pl,hz⟩:=I.tuple hq
  have hlen:=r'.length
  exact len_tuple pl (by simp only[List.size_toArray]<;>omega) ⟨.int ys.length,H,I.tok _,⟨s.toks+1,by rw[List.size_toArray,hlen]⟩,q⟩
theorem i9:dO X (.builtin "len") (fun xs H Q=>∃z,xs=[.str z]/\z.length<=sizeLine/\Q (.int z.length) H):=by
 intro pins s σ H xs us Q I r h
 obtain⟨z,rfl,hz,q⟩:=h
 obtain⟨u,rfl,t,rfl⟩:=vals1 r
 have hn:=gJ
 exact len_str (by omega) ⟨.int z.length,H,I.tok _,⟨_,rfl⟩,q⟩
theorem d9:dO X (.type "list") (fun xs H Q=>∃p ys,xs=[.ref p]/\(bJ X.K H p ys\/aJ X.K H p ys)/\∀l,H l=none->Q (.ref l) (upd H l (.lst ys))):=by
 intro pins s σ H xs us Q I r h
 obtain⟨p,ys,rfl,hq,q⟩:=h
 obtain⟨u,rfl,rx⟩:=vals1 r
 cases rx
 have fin:∀(its:List Value),Vals ys its->ys.length<=sizeLine->∀(h':Heap) (c':Nat),(∀b o',s.heap.get? b=some o'->h'.get? b=some o') ->
   h'.get? s.heap.objs.size=some {cls:=.type "list",dict:=none,data:=.seq its.toArray c',slots:=#[]}->EP X pins σ Q (.ref s.heap.objs.size) {s with heap:=h'}:=fun its r' hz h' c' kp e =>
  ⟨.ref s.heap.objs.size,_,I.laid (t':=s.toks) kp (Nat.le_refl _) (show b6 X.prog X.w _ h' _ (.lst ys)from⟨hz,its,c',r',e⟩),rfl,q _ (I.hok.fresh (Nat.le_refl _))⟩
 rcases hq with hq|hq
 ·obtain⟨its,r',pl,hz⟩:=I.list hq
  have hlen:=r'.length
  obtain⟨o,ho,hc,n,hd⟩:=pl.isList
  exact call_list_seq p (.inl rfl) ho hc hd (fun h' c' kp e=>fin its r' hz h' c' kp e) (by simp only[List.size_toArray]<;>omega)
 ·obtain⟨its,r',pl,hz⟩:=I.tuple hq
  have hlen:=r'.length
  obtain⟨o,ho,hc,n,hd⟩:=pl
  exact call_list_seq p (.inr rfl) ho hc hd (fun h' c' kp e=>fin its r' hz h' c' kp e) (by simp only[List.size_toArray]<;>omega)
theorem aX:dO X (.type "tuple") (fun xs H Q=>∃p ys,xs=[.ref p]/\((bJ X.K H p ys/\∀l,H l=none->Q (.ref l) (upd H l (.tup ys)))\/(aJ X.K H p ys/\Q (.ref p) H))):=by
 intro pins s σ H xs us Q I r h
 obtain⟨p,ys,rfl,h⟩:=h
 obtain⟨u,rfl,rx⟩:=vals1 r
 cases rx
 rcases h with⟨hq,q⟩|⟨hq,q⟩
 ·obtain⟨its,r',pl,hz⟩:=I.list hq
  have hlen:=r'.length
  refine call_tuple_list pl.isList (fun h' kp=>?_) (by simp only[List.size_toArray]<;>omega)
  have I1:Inv X pins σ H {s with heap:=h'}:=I.kept (t':=s.toks) kp
  have I2:Inv X pins σ (upd H h'.objs.size (.tup ys)) {s with heap:=h'.push {cls:=.type "tuple",data:=.seq its.toArray}} :=
   I1.laid (t':=s.toks) (fun b o e=>Heap.get?_push_of_some _ e) (Nat.le_refl _) (show b6 X.prog X.w _ _ _ (.tup ys)from⟨hz,its,r',IsTup.new _ _,_,Heap.get?_push_size _ rfl,rfl⟩)
  exact⟨.ref h'.objs.size,_,I2,rfl,q _ (I1.hok.fresh (Nat.le_refl _))⟩
 ·obtain⟨its,r',pl,hz⟩:=I.tuple hq
  exact call_tuple_same pl ⟨.ref p,H,I,rfl,q⟩
noncomputable def B0(K:PySem.W.Frag)(T:String)(x:V)(H:Hp):Prop:=match x with
 |.str _=>T="str"
 |.int _=>T="int"
 |.ref p=>(T="list"/\∃xs,bJ K H p xs)\/(T="tuple"/\∃o,K.lookup p=some o/\o.cls=.type "tuple"/\o.dict=none) \/
   (T="dict"/\((∃kvs,H p=some (.dK kvs))\/∃kvs,H p=some (.dT kvs)))\/(T="set"/\∃S n,H p=some (.set S n))
 |_=>False
theorem uM{pins:List (Addr×Obj)}{σ:St}{H:Hp}{s:Shared}{T:String}{x:V}{v:Value}(I:Inv X pins σ H s)(r:RelV x v)(ty:B0 X.K T x H) :
  s.TypeIs v T/\∀a,v=.ref a->∃ob,s.heap.get? a=some ob/\ob.dict=none:=by
 cases x with
 |str z =>
  obtain⟨t,rfl⟩:=r
  cases(show T="str" from ty)
  exact⟨typeIs_str s z t,fun _ e=>nomatch e⟩
 |int i =>
  obtain⟨t,rfl⟩:=r
  cases(show T="int" from ty)
  exact⟨typeIs_int s i t,fun _ e=>nomatch e⟩
 |ref p =>
  cases r
  rcases ty with⟨rfl,xs,hq⟩|⟨rfl,o,hk,hc,hd⟩|⟨rfl,hk⟩|⟨rfl,S,n,hk⟩
  ·obtain⟨its,_,pl,_⟩:=I.list hq
   refine⟨pl.isList.typeIs,fun a e=>?_⟩
   cases e
   obtain⟨o,n,e,c,hd,_⟩:=pl
   exact⟨o,e,hd⟩
  ·refine⟨⟨o,I.wV p o hk,hc⟩,fun a e=>?_⟩
   cases e
   exact⟨o,I.wV _ o hk,hd⟩
  ·have z:∃o,s.heap.get? p=some o/\o.ExactDict:=by
    rcases hk with⟨kvs,hk⟩|⟨kvs,hk⟩
    ·obtain⟨_,_,_,_,o,_,_,e,ex,_⟩:=I.hok p _ hk
     exact⟨o,e,ex⟩
    ·obtain⟨_,_,_,_,o,_,_,e,ex,_⟩:=I.hok p _ hk
     exact⟨o,e,ex⟩
   obtain⟨o,e,ex⟩:=z
   refine⟨⟨o,e,ex.1⟩,fun a e2=>?_⟩
   cases e2
   exact⟨o,e,ex.2.1⟩
  ·obtain⟨o,_,_,_,e,ex,_⟩:=I.hok p _ hk
   refine⟨⟨o,e,ex.1⟩,fun a e2=>?_⟩
   cases e2
   exact⟨o,e,ex.2.1⟩
 |_=>exact False.elim ty
noncomputable def CD(K:PySem.W.Frag)(T:String)(r:V->List V->Hp->VK->Prop)(to:TE):TE:=fun σ H Q=>to σ H fun x H1=>B0 K T x H1/\r x [] H1 Q
noncomputable def Dd(K:PySem.W.Frag)(T:String)(r:V->List V->Hp->VK->Prop)(to:TE)(t:TA):TE:=fun σ H Q=>to σ H fun x H1=>B0 K T x H1/\t σ H1 fun xs H2=>r x xs H2 Q
variable {o e:Expr}{es:List Expr}{to:TE}{t:TA}{name:Str}{apos cpos:Pos}{T id:String}{r:V->List V->Hp->VK->Prop}
theorem zR(pa:PlainAttrs T)(slot:Slot T name id)(hty:typeOf (.builtin id)=pure (.type "method_descriptor"))(hm:BZ X id r)(ho:PE X o to)
  (hbase:attributeBase o name X.env (eval o X.env)=eval o X.env:=by rfl) (hline:(apos.endLine == cpos.line)=true:=by rfl):PE X (.Call (.Attribute o name apos) [] [] cpos) (CD X.K T r to):=by
 intro pins s σ H Q I h
 refine wpAny_Call_method0_late hbase hline (bR (ho pins s σ H _ I h) fun v s1 ⟨x,H1,I1,r1,ty,q1⟩=>?_)
 obtain⟨h1,h2⟩:=uM I1 r1 ty
 exact⟨T,id,pa,slot,hty,h1,h2,Calls.callWith_builtin rfl (PySem.evalArgs_none (hm pins s1 σ H1 x [] v [] Q I1 r1 .nil q1))⟩
theorem yW(pa:PlainAttrs T)(slot:Slot T name id)(hty:typeOf (.builtin id)=pure (.type "method_descriptor"))(hm:BZ X id r)(ho:PE X o to)(ha:PA X (e::es) t)
  (hbase:attributeBase o name X.env (eval o X.env)=eval o X.env:=by rfl)
  (hfew:((backTo cpos (starEach (e::es) X.env)).all (fun x=>!x.1)&&(backToKw cpos (keywordEach [] X.env)).all (fun x=>x.1.isSome)
   && decide ((e::es).length+([]:List Keyword).length+(if([]:List Keyword).isEmpty then 0 else 1)<30))=true:=by rfl)
  (hline:(apos.endLine == cpos.line)=true:=by rfl) (hs:starEach (e::es) X.env=(false,eval e X.env)::starEach es X.env:=by rfl) (hplain:(backTo cpos (starEach es X.env)).any (·.1)=false:=by rfl) :
  PE X (.Call (.Attribute o name apos) (e::es) [] cpos) (Dd X.K T r to t):=by
 intro pins s σ H Q I h
 refine wpAny_Call_method_late hbase hfew hline rfl (bR (ho pins s σ H _ I h) fun v s1 ⟨x,H1,I1,r1,ty,q1⟩=>?_)
 obtain⟨h1,h2⟩:=uM I1 r1 ty
 refine⟨T,id,pa,slot,hty,h1,h2,?_⟩
 have hA:=ha cpos pins s1 σ H1 _ I1 q1
 rw[hs]at hA⊢
 refine Calls.callWith_builtin (by show(false||(backTo cpos (starEach es X.env)).any (·.1))=false;rw[hplain]<;>rfl) (Calls.evalArgs_plain ?_)
 exact bR hA fun us s2 ⟨vs,H2,I2,r2,q2⟩=>hm pins s2 σ H2 x vs v us Q I2 r1 r2 q2
/- xs.append(e),list.index on a module's tuple .. are BZ facts of 06m -/
end
noncomputable def Ca(X:Cx)(id:String)(r:V->List V->Hp->VK->Prop):Prop :=
 ∀(pins:List (Addr×Obj)) (s:Shared) (σ:St) (H:Hp) (x:V) (xs:List V) (v:Value) (us:List Value) (Q:VK),Inv X pins σ H s->RelV x v->Vals xs us->r x xs H Q ->
  wpAny (model X.prog X.w) X.A (call (.builtin id) (v::us)) (EP X pins σ Q) X.xe s
theorem Vals.one:∀{x:V}{us:List Value},Vals [x] us->∃u,us=[u]/\RelV x u
 |_,_,.cons r .nil=>⟨_,rfl,r⟩
theorem Vals.zero:∀{us:List Value},Vals [] us->us=[]
 |_,.nil=>rfl
theorem Vals.dropLast{xs:List V}{us:List Value}(h:Vals xs us):Vals xs.dropLast us.dropLast:=by
 induction h with
 |nil=>exact .nil
 |cons r t ih =>
  cases t with
  |nil=>exact .nil
  |cons q t'=>exact .cons r ih
theorem Vals.eraseIdx:∀{xs:List V}{us:List Value}(i:Nat),Vals xs us->Vals (xs.eraseIdx i) (us.eraseIdx i)
 |_,_,_,.nil=>.nil
 |_,_,0,.cons _ t=>t
 |_,_,i+1,.cons r t=>.cons r (Vals.eraseIdx i t)
theorem qu{α:Type}(l:List α):l.eraseIdx (l.length-1)=l.dropLast:=by
 induction l with
 |nil=>rfl
 |cons a r ih =>
  cases r with
  |nil=>rfl
  |cons b r =>
   have e:(a::b::r).length-1=((b::r).length-1)+1:=by
    have h1:(a::b::r).length=r.length+2:=rfl
    have h2:(b::r).length=r.length+1:=rfl
    omega
   rw[e,List.eraseIdx_cons_succ,ih]
   all_goals rfl
theorem mw{α:Type}:∀(l:List α) (i:Nat),(l.eraseIdx i).length<=l.length
 | [],_=>Nat.le_refl _
 |_::_,0=>Nat.le_succ _
 |_::r,i+1=>Nat.succ_le_succ (mw r i)
section
variable {X:Cx}{pins:List (Addr×Obj)}{σ:St}{H:Hp}{s:Shared}{l b:Addr}{xs ys zs:List V}
theorem Inv.xr{its its':List Value}{n:Nat}{f:Array Value->Array Value}{t':Nat}(I:Inv X pins σ H s)(hH:H l=some (.lst xs))
  (e:s.heap.get? l=some {cls:=.type "list",data:=.seq its.toArray n}) (hf:f its.toArray=its'.toArray) (hv:Vals ys its') (hz:ys.length<=sizeLine) :
  Inv X pins σ (upd H l (.lst ys)) {s with heap:=s.heap.update l (Obj.mapSeq f),toks:=t'}:=by
 have q:=PySem.IsL.update e f
 rw[hf]at q
 refine I.write (x:=l) (e:=l) (by rw[hH];exact trivial) (.inl rfl) (fun b' u hb hu=>(Heap.get?_update_other s.heap (Obj.mapSeq f) (Ne.symm hb)).trans hu) ⟨_,q⟩ ?_
 exact⟨hz,its',_,hv,q⟩
theorem Inv.CF{its:List Value}{t':Nat}(I:Inv X pins σ H s)(hv:Vals ys its)(hz:ys.length<=sizeLine) :
  Inv X pins σ (upd H s.heap.objs.size (.lst ys)) {s with heap:=s.heap.push {cls:=.type "list",data:=.seq its.toArray},toks:=t'} :=
 I.laid (fun _ _ q=>Heap.get?_push_of_some _ q) (Nat.le_refl _) ⟨hz,its,0,hv,Heap.get?_push_size _ rfl⟩
theorem Inv.fresh(I:Inv X pins σ H s):H s.heap.objs.size=none:=I.hok.fresh (Nat.le_refl _)
theorem Inv.qv(I:Inv X pins σ H s)(hH:H l=some (.lst xs)):xs.length<=sizeLine/\∃(its:List Value) (n:Nat),Vals xs its/\xs.length=its.length/\s.heap.get? l=some {cls:=.type "list",data:=.seq its.toArray n}:=by
 obtain⟨z,its,n,r,e⟩:=I.hok l _ hH
 exact⟨z,its,n,r,r.length,e⟩
theorem uN{n:Nat}(h:n<=sizeLine):Builtin.List.listTooLong n=false:=by
 unfold Builtin.List.listTooLong
 exact decide_eq_false (by omega)
end
section
variable {X:Cx}
noncomputable def xu:V->List V->Hp->VK->Prop:=fun x vs H Q=>∃l xs y,x=.ref l/\vs=[y]/\H l=some (.lst xs)/\xs.length<sizeLine/\Q .cW (upd H l (.lst (xs++[y])))
theorem dB:Ca X "list.append" xu:=by
 intro pins s σ H x vs v us Q I rx rv h
 obtain⟨l,xs,y,rfl,rfl,hH,hz,q⟩:=h
 cases rx
 obtain⟨u,rfl,ru⟩:=rv.one
 obtain⟨z,its,n,r,hl,e⟩:=I.qv hH
 refine call_meets F.slot_list_append ⟨_,e,rfl⟩ F.entry_list_append (F.args_list_append_2 _ _) (PySem.list_append l its.toArray n u (by rw[List.size_toArray];omega)) ⟨e,?_⟩
 refine⟨.cW,_,I.xr (its':=its++[u]) hH e (by simp) (r.append (.cons ru .nil)) ?_,rfl,q⟩
 rw[List.length_append,List.length_singleton]
 omega
noncomputable def xw:V->List V->Hp->VK->Prop:=fun x vs H Q=>∃l b xs zs,x=.ref l/\vs=[.ref b]/\H l=some (.lst xs)/\H b=some (.lst zs)/\xs.length+zs.length<=sizeLine/\Q .cW (upd H l (.lst (xs++zs)))
theorem mz:Ca X "list.extend" xw:=by
 intro pins s σ H x vs v us Q I rx rv h
 obtain⟨l,b,xs,zs,rfl,rfl,hH,hB,hz,q⟩:=h
 cases rx
 obtain⟨u,rfl,ru⟩:=rv.one
 cases ru
 obtain⟨z,its,n,r,hl,e⟩:=I.qv hH
 obtain⟨z2,its2,n2,r2,hl2,e2⟩:=I.qv hB
 have hsz:its.toArray.size+its2.toArray.size<=sizeLine:=by rw[List.size_toArray,List.size_toArray];omega
 have hlong:¬(!its.toArray.isEmpty&&Builtin.List.listTooLong (its.toArray.size+its2.toArray.size))=true:=by
  rw[uN hsz,Bool.and_false]
  exact Bool.false_ne_true
 refine call_meets F.slot_list_extend ⟨_,e,rfl⟩ F.entry_list_extend (F.args_list_extend_2 _ _)
  (AutoSeq1.list_extend_list_list_0 l its.toArray n b its2.toArray n2 hlong (by rw[List.size_toArray];omega) (by omega)) ⟨e,e2,?_⟩
 refine⟨.cW,_,I.xr (its':=its++its2) hH e (by simp) (r.append r2) ?_,rfl,q⟩
 rw[List.length_append]
 omega
noncomputable def CG:V->List V->Hp->VK->Prop:=fun x vs H Q=>∃l xs y,x=.ref l/\vs=[]/\H l=some (.lst xs)/\xs[xs.length-1]?=some y/\Q y (upd H l (.lst xs.dropLast))
theorem zS:Ca X "list.pop" CG:=by
 intro pins s σ H x vs v us Q I rx rv h
 obtain⟨l,xs,y,rfl,rfl,hH,hy,q⟩:=h
 cases rx
 have hus:=rv.zero
 subst hus
 obtain⟨z,its,n,r,hl,e⟩:=I.qv hH
 obtain⟨u,hu,ru⟩:=r.get hy
 have hy':its.toArray[its.toArray.size-1]?=some u:=by
  show its.toArray[its.length-1]?=some u
  rw[←Array.getElem?_toList,←hl]
  exact hu
 refine call_meets F.slot_list_pop ⟨_,e,rfl⟩ F.entry_list_pop (F.args_list_pop_1 _) (MeetsSeq.list_pop_last l its.toArray n u hy' (by rw[List.size_toArray];omega)) ⟨e,?_⟩
 refine⟨y,_,I.xr (its':=its.dropLast) hH e ?_ r.dropLast ?_,ru,q⟩
 ·show its.toArray.eraseIdxIfInBounds (its.toArray.size-1)=its.dropLast.toArray
  rw[List.size_toArray,List.eraseIdxIfInBounds_toArray,qu]
 ·rw[List.length_dropLast]
  omega
noncomputable def Bh:R2:=fun x y H Q=>∃l b xs zs,x=.ref l/\y=.ref b/\H l=some (.lst xs)/\H b=some (.lst zs)/\xs.length+zs.length<=sizeLine/\∀p,H p=none->Q (.ref p) (upd H p (.lst (xs++zs)))
theorem iO:i4 X (binaryOp .Add) Bh:=by
 intro pins s σ H x y v u Q I rx ry h
 obtain⟨l,b,xs,zs,rfl,rfl,hH,hB,hz,q⟩:=h
 cases rx
 cases ry
 obtain⟨z,its,n,r,hl,e⟩:=I.qv hH
 obtain⟨z2,its2,n2,r2,hl2,e2⟩:=I.qv hB
 refine PySem.P.add_list e e2 ?_ (by rw[List.size_toArray,List.size_toArray];omega)
 have ea:its.toArray++its2.toArray=(its++its2).toArray:=by simp
 rw[ea]
 exact⟨.ref _,_,I.CF (t':=s.toks) (r.append r2) (by rw[List.length_append];omega),rfl,q _ I.fresh⟩
end
section
variable {prog:Program}{w:World}{A:Around}{E:Value->Shared->Prop}{s:Shared}
end
section
variable {X:Cx}
end
end L2
namespace Att
open PySem PySem.W PySem.Calls PyProof.Rows
theorem jV{P:Params}{h:Heap}:∀(ns:List Int) (vs:List Value),WellAll P h vs (ns.map WData.int)->IntsAre vs ns:=by
 intro ns
 induction ns with
 |nil =>
  intro vs w
  rw[List.map_nil]at w
  cases w
  exact .nil
 |cons n ns ih =>
  intro vs w
  rw[List.map_cons]at w
  cases w with
  |cons a b =>
   cases a
   exact .cons _ _ (ih _ b)
theorem sS{l:OpenLaw}{n:Nat}(hn:l.most=some n){P:Params}{h:Heap}{args:List WData}{vals:List Value}
  (hpre:l.row.toRowW.claim.pre args=true) (hwl:WellAll P h vals args) :
  ∃a vs ns,vals=[Value.ref a]/\args=[WData.list (ns.map WData.int)]/\h.get? a=some {cls:=.type "list",data:=.seq vs.toArray}/\IntsAre vs ns/\ns.length<=n:=by
 have hsh:WShape.hasAll [] args [.list .int]=true:=(pre_splitW hpre).1
 have hc:l.pre.holds [] {args:=args}=true:=(pre_splitW hpre).2
 obtain⟨d,r,rfl,h1,h2⟩:=hasAllW_cons hsh
 obtain rfl:=hasAllW_nil h2
 obtain⟨xs,rfl,h3⟩:=hasW_list h1
 obtain⟨ns,rfl⟩:=items_int h3
 have hlen:ns.length<=n:=by
  unfold OpenLaw.pre at hc
  have h4:(WTm.not (.lt (.lit (.int (n:Int))) (.len (.arg 0)))).holds [] {args:=[.list (ns.map .int)]}=true:=by
   have h4:=(holds_andW hc).1
   rw[hn]at h4
   exact h4
  have h5:=condW_of h4 (w_not (w_lt w_lit (w_len_list (w_arg rfl))))
  rw[List.length_map]at h5
  refine Nat.le_of_not_lt fun q=>?_
  have q':(n:Int)<((ns.length:Nat):Int):=by omega
  first
   |(rw[decide_eq_true q']at h5;exact absurd h5 (by decide))
   |(simp at h5;omega)
 cases hwl with
 |cons w1 w2 =>
  cases w2
  cases w1 with
  |list ho hall=>exact⟨_,_,ns,rfl,rfl,ho,jV ns _ hall,hlen⟩
theorem sU(l:OpenLaw)(args:List WData):l.row.toRowW.claim.post args (.bool true) args=true :=
 postW_of (r:=l.row.toRowW) (X:=(true == true))
  (show WShape.has [] (.bool true) .bool=true by first|rfl|decide|simp[WShape.has,WShape.arms,WShape.armsAll])
  (show(WTm.eq .res (.lit (.bool true))).value [] {args:=args,res:=some (.bool true),after:=args}=some (.bool (true == true))from w_eq_bool (w_res rfl) w_lit) rfl
theorem oB{l:OpenLaw}{n:Nat}{q:Program}{loose:List Str}{XP:(Str->Option Value)->Heap->Prop}{YP:World->Heap->Prop}{d:DefRec}
  (hn:l.most=some n) (hdf:d.params.defaults=[])
  (call:∀(w:World) (s₀ s₁:Shared) (mg mb:Str->Option Value) (fa:Addr) (o:Obj) (pm cd doc:Value) (a:Addr) (vs:List Value) (ns:List Int),
   Ground q loose [] XP w s₀ mg mb s₁.heap->YP w s₁.heap ->
   s₁.heap.get? fa=some o->o.data=.func (docDef d.name d.params d.body d.scope pm cd doc)->s₁.heap.CodeRec cd d.name->mg d.name=some (.ref fa) ->
   s₁.heap.get? a=some {cls:=.type "list",data:=.seq vs.toArray}->IntsAre vs ns->ns.length<=n->s₁.gens=#[] ->
   codeAny (model l.prog w) callerA (.call (.ref fa) ⟨[.ref a],[]⟩) (fun r s'=>r=.ok (.ret (.bool true))/\OldK s₁.heap s'.heap/\s'.os=s₁.os/\AllBare s'.gens) s₁) :
  WalkO q loose XP YP l.row.toRowW d [] (fun f vs=>PySem.call f vs):=by
 intro w s₀ s₁ mg mb G Y fa o pm cd doc dV kV ho hd hcd hD hmg hg args vals as hpre hlay hrd hwl hlo
 obtain rfl:dV=.none:=Dflts.none hD hdf
 obtain rfl:kV=.none:=Dflts.noKw hD
 obtain⟨a,vs,ns,rfl,rfl,hobj,hints,hlen⟩:=sS hn hpre hwl
 refine enter_call (codeAny_mono (call w s₀ s₁ mg mb fa o pm cd doc a vs ns G Y ho (fd_plain hd) hcd hmg hobj hints hlen hg) fun r s' hq=>?_)
 obtain⟨rfl,h2,h3,h4⟩:=hq
 exact⟨.inl ⟨.bool true,.bool true,[],rfl,fun _=>rfl,.bool true,sU l _,fun _=>⟨List.Pairwise.nil,fun _ hm=>(nomatch hm)⟩⟩,h2,h3,h4⟩
section
variable {prog:Program}{w:World}{A:Around}{E:Value->Shared->Prop}{s:Shared}{K:Frag}
end
end Att
namespace L2
open PySem PySem.Spec PyProof.Rows
theorem mC:∀{vs:List Value}{ns:List Int},IntsAre vs ns->Vals (ns.map V.int) vs
 |_,_,.nil=>.nil
 |_,_,.cons n t h=>.cons ⟨t,rfl⟩ (mC h)
noncomputable def zT(H:Hp):Prop:=∀b,H b=none\/∃o xs,H b=some (.jv o (.lst xs))
theorem uO{P:Program}{w:World}{K:PySem.W.Frag}{mg mb:Str->Option Value}{CX:ug}{k:Nat}{fa a:Addr}{fd:FuncData}{x:Str}{sp:Sp}{s₁:Shared}{vs:List Value}{ns:List Int}
  (KX:K.In s₁.heap) (hns:s₁.heap.Ns mainGlobals mg) (hb:s₁.heap.Ns builtinsNs mb) (hbb:∀x:Str,x≠"__name__"->mb x=bootBuiltins x) (hlim:s₁.heap.NoLimit) (hg:s₁.gens=#[])
  (ha:s₁.heap.get? a=some {cls:=.type "list",data:=.seq vs.toArray}) (hi:IntsAre vs ns) (hl:ns.length<=sizeLine) (hr:eW k callerA)
  (F:∀base:Heap,K.In base->base.Ns mainGlobals mg->cA P w K mg base CX k fa fd [x] sp) (hbind:∀(s:Shared) (u:Value),BindsTo s fd ⟨[u],[]⟩ [(x,u)])
  (hsp:∀H:Hp,zT H->bJ K H a (ns.map V.int)->sp [.ref a] H (fun v _=>v=.bl true) fun _ _ _=>False)
  (hCX:∀H e s',CX [] H s₁ (fun _ _ _=>False) e s'->False) :
  codeAny (model P w) callerA (.call (.ref fa) ⟨[.ref a],[]⟩) (fun r s'=>r=.ok (.ret (.bool true))/\OldK s₁.heap s'.heap/\s'.os=s₁.os/\AllBare s'.gens) s₁:=by
 have rv:=mC hi
 have lenV:=hi.length
 -- from an abstract heap in which nothing but the script may be tracked
 have core:∀H:Hp,zT H->bJ K H a (ns.map V.int)->iV P w H s₁.heap->(∀b,H b≠none->b=a)->(H a≠none->K.lookup a=none) ->
   codeAny (model P w) callerA (.call (.ref fa) ⟨[.ref a],[]⟩) (fun r s'=>r=.ok (.ret (.bool true))/\OldK s₁.heap s'.heap/\s'.os=s₁.os/\AllBare s'.gens) s₁:=by
  intro H hO hS hok hA hK
  have base_of:∀{b:Addr}{o:Obj},s₁.heap.get? b=some o->H b=none->(ng s₁.heap H).get? b=some o:=fun e n=>uo e n
  have noA:∀{b:Addr}{o:Obj}{es:Array DictEntry}{ep:Nat},s₁.heap.get? b=some o->o.data=.dict es ep->H b=none:=fun{b o es ep} e d=>by
   cases q:H b with
   |none=>rfl
   |some u =>
    have e':b=a:=hA b (by rw[q];simp)
    subst e'
    rw[ha]at e;cases e
    have d':Data.seq vs.toArray _=Data.dict es ep:=d
    cases d'
  have nsK:∀{b:Addr}{m:Str->Option Value},s₁.heap.Ns b m->(ng s₁.heap H).Ns b m:=fun{b m} ⟨o,es,ep,e,d,r⟩=>⟨o,es,ep,base_of e (noA e d),d,r⟩
  have hKb:K.In (ng s₁.heap H):=fun b o e=>base_of (KX b o e) (by
   cases q:H b with
   |none=>rfl
   |some u =>
    have e':b=a:=hA b (by rw[q];simp)
    subst e'
    rw[hK (by rw[q];simp)]at e;cases e)
  have hM:Mod K mg (ng s₁.heap H):=⟨hKb,nsK hns,⟨mb,nsK hb,hbb⟩,let⟨mc,h1,h2⟩:=hlim;⟨mc,nsK h1,h2⟩⟩
  have e0:xh P w K mg (ng s₁.heap H) callerA [] s₁ H:=⟨rfl,hM,fun b o e=>wU e,Nat.le_of_eq (sI _ _),trivial,fun b hb=>absurd (show b∈([]:List Addr)from hb) (by simp),hok,.of_eq hg⟩
  refine codeAny_mono ((F _ hKb (nsK hns)).run callerA [] s₁ H ⟨[.ref a],[]⟩ [.ref a] [.ref a] _ _ hr e0 (hbind s₁ (.ref a)) (.cons rfl .nil) (hsp H hO hS)) fun r s' h=>?_
  cases r with
  |error e=>exact(hCX H e s' h).elim
  |ok fl =>
   cases fl with
   |next=>exact False.elim h
   |brk=>exact False.elim h
   |cont=>exact False.elim h
   |ret u =>
    obtain⟨v,H',os,bare,un,hok',r',q⟩:=h
    have q':v=.bl true:=q
    subst q'
    obtain rfl:u=Value.bool true:=r'
    refine⟨rfl,OldK.of_keep fun b o e=>?_,os,bare⟩
    cases q:H b with
    |none=>exact un.keep b o e q (by intro z;exact absurd (show b∈([]:List Addr)from z) (by simp)) (by simp)
    |some u =>
     rcases hO b with z|⟨ob,xs,z⟩
     ·rw[q]at z;cases z
     ·have z2:=un.frzs b ob _ z
      obtain⟨e1,_⟩:=hok b _ z
      obtain⟨e2,_⟩:=hok' b _ z2
      rw[e]at e1;cases e1
      exact e2
 cases hk:K.lookup a with
 |some o =>
  -- the script is one of the module's own objects
  have e:=KX a o hk
  rw[ha]at e
  cases e
  refine core (fun _=>none) (fun _=>.inl rfl) (.inr ⟨_,vs.toArray,_,hk,rfl,rfl,rfl,by rw[List.size_toArray,lenV];exact hl,by simpa using rv⟩) (fun b u z=>by have z':(none:Option HO)=some u:=z;cases z') (fun b z=>absurd rfl z) fun z=>absurd rfl z
 |none =>
  refine core (fun b=>if b=a then some (.jv {cls:=.type "list",data:=.seq vs.toArray} (.lst (ns.map V.int)))else none) (fun b=>?_) (.inl (.inr ⟨{cls:=.type "list",data:=.seq vs.toArray},if_pos rfl⟩)) (fun b u z=>?_) (fun b z=>?_) fun _=>hk
  ·by_cases hb:b=a
   ·exact .inr ⟨_,_,if_pos hb⟩
   ·exact .inl (if_neg hb)
  ·by_cases hb:b=a
   ·have z':=(if_pos hb).symm.trans z
    cases z'
    subst hb
    exact⟨ha,by rw[List.length_map];exact hl,vs,_,rv,ha⟩
   ·have z':=(if_neg hb).symm.trans z
    cases z'
  ·by_cases hb:b=a
   ·exact hb
   ·exact absurd (if_neg hb) z
theorem xx{l:PySem.W.OpenLaw}{n k:Nat}{q:Program}{loose:List Str}{XP:(Str->Option Value)->Heap->Prop}{YP:World->Heap->Prop}{d:DefRec}{K:Params->PySem.W.Frag}{CX:World->ug}{sp:World->Sp}{x:Str}
  (hn:l.most=some n) (hn2:n<=sizeLine) (hdf:d.params.defaults=[]) (hr:eW k callerA)
  (hY:∀(w:World) (h:Heap),YP w h->(K w.params).In h)
  (F:∀(w:World) (mg:Str->Option Value) (fa:Addr) (h:Heap),(K w.params).In h->h.Ns mainGlobals mg->mg d.name=some (.ref fa) ->
   ∃fd:FuncData,(∀(s:Shared) (u:Value),BindsTo s fd ⟨[u],[]⟩ [(x,u)]) /\
    ∀base:Heap,(K w.params).In base->base.Ns mainGlobals mg->cA l.prog w (K w.params) mg base (CX w) k fa fd [x] (sp w))
  (hsp:∀(w:World) (H:Hp) (a:Addr) (ns:List Int),ns.length<=n->zT H->bJ (K w.params) H a (ns.map V.int)->sp w [.ref a] H (fun v _=>v=.bl true) fun _ _ _=>False)
  (hCX:∀(w:World) (H:Hp) (s:Shared) (e:Value) (s':Shared),CX w [] H s (fun _ _ _=>False) e s'->False) :
  PySem.W.WalkO q loose XP YP l.row.toRowW d [] (fun f vs=>PySem.call f vs):=by
 refine Att.oB hn hdf fun w s₀ s₁ mg mb fa o pm cd doc a vs ns G Y ho hd hcd hmg hobj hints hlen hg=>?_
 have KX:=hY w _ Y
 obtain⟨fd,hb,hF⟩:=F w mg fa _ KX G.T.g hmg
 exact uO KX G.T.g G.T.b G.T.builtins G.T.nolimit hg hobj hints (Nat.le_trans hlen hn2) hr hF hb (fun H hO hS=>hsp w H a ns hlen hO hS) fun H e s'=>hCX w H s₁ e s'
noncomputable def iq(s:Stmt):Arguments:=match s with
 |.FunctionDef _ a _ _ _ _ _ _ _ _=>a
 |_=>{posonlyargs:=[],args:=[],vararg:=none,kwonlyargs:=[],kw_defaults:=[],kwarg:=none,defaults:=[]}
noncomputable def bW(s:Stmt):List Stmt:=match s with
 |.FunctionDef _ _ b _ _ _ _ _ _ _=>b
 |_=>[]
noncomputable def aj(s:Stmt):Scope:=match s with
 |.FunctionDef _ _ _ _ _ _ sc _ _ _=>sc
 |_=>{kind:=.function,names:=[],isGenerator:=false,isCoroutine:=false}
noncomputable abbrev gv:ug:=fun _ _ _ _ _ _=>False
noncomputable abbrev E0:XK:=fun _ _ _=>False
theorem Bj{X:Cx}:Passes gv X E0:=fun _ _ _ _ _ _ _ h=>h.elim
structure iE(K:PySem.W.Frag) (x qual:Str) (st:Stmt) (f:Addr) (fd:FuncData):Prop where
 ex:∃(oc:Value) (od:Option Addr) (kV doc pm:Value) (an:Option Addr) (cdv ct:Value) (osl:Array (Option Value)),
  fd=PySem.W.fnOf x qual (iq st) (bW st) (aj st) .none kV doc pm an cdv ct/\K.lookup f=some ⟨oc,od,.func fd,osl⟩/\PySem.W.codeIn K cdv qual=true
 kp:PySem.W.keepIn K (.ref f)=true
section
variable {P:Program}{w:World}{K:PySem.W.Frag}{mg:Str->Option Value}{base:Heap}
theorem iE.ok{x qual:Str}{st:Stmt}{f:Addr}{fd:FuncData}{N ps:List Str}{k:Nat}{sp:Sp}(F:iE K x qual st f fd)(S:aZ N ps (aj st))(len:∀vs H Q E,sp vs H Q E->vs.length=ps.length)
  (hbody:∀(cdv:Value) (A:Around) (outer:List Env) (s:Shared) (H:Hp) (vs:List V) (Q:VK) (E:XK),eW k (A.deeper (envOfC qual (aj st) s.heap.objs.size f cdv))->sp vs H Q E ->
   ∃t,qi (nq gv P w K mg base N qual (aj st) f cdv A outer s H E).zy (bW st) t/\t {nx:=fun _ H'=>Q .cW H',rt:=Q} (start N vs) H):cA P w K mg base gv (k+1) f fd ps sp:=by
 obtain⟨oc,od,kV,doc,pm,an,cdv,ct,osl,rfl,lk,hcd⟩:=F.ex
 refine Bd lk hcd S len fun A outer s H vs Q E hr hsp=>?_
 obtain⟨t,h,q⟩:=hbody cdv A outer s H vs Q E hr hsp
 exact⟨t,h.zy,q⟩
theorem iE.binds{x qual:Str}{st:Stmt}{f:Addr}{fd:FuncData}{ps:List Str}(F:iE K x qual st f fd)
  (h:∀(kV doc pm:Value) (an:Option Addr) (cdv ct:Value) (us:List Value),us.length=ps.length->bindArgs (PySem.W.fnOf x qual (iq st) (bW st) (aj st) .none kV doc pm an cdv ct) ⟨us,[]⟩=pure (ps.zip us)):Binds K fd ps []:=by
 obtain⟨oc,od,kV,doc,pm,an,cdv,ct,osl,rfl,lk,hcd⟩:=F.ex
 exact .all (h kV doc pm an cdv ct)
end
theorem jK{A:Around}{k:Nat}(hr:eW k A):A.units+1<cLine:=Nat.lt_of_le_of_lt (Nat.add_le_add_left (by decide:1<=64) _) hr.units
theorem aC{n:Nat}(h:n<=1000):n<sizeLine:=Nat.lt_of_le_of_lt h (by decide)
section
variable {X:Cx}
theorem pv(i:Nat){x:Str}{pos:Pos}(hN:X.N[i]?=some x:=by rfl)(hv:BW X.env.scope x:=by first|exact Or.inl rfl|exact Or.inr (Or.inl rfl)|exact Or.inr (Or.inr rfl))(hd:(x == ("__debug__":Str))=false:=by decide)
  (hcd:(x == ("__classdict__":Str))=false:=by decide):PE X (.Name x pos) (dX i):=uq hN hv hd hcd
end
theorem cJ{c A B:Prop}[Decidable c](h1:c->A)(h2:¬c->B):if c then A else B:=by
 by_cases h:c
 ·rw[if_pos h]
  exact h1 h
 ·rw[if_neg h]
  exact h2 h
noncomputable def aL(H H':Hp):Prop:=∀b o,H b=some o->H' b=some o
theorem aL.refl(H:Hp):aL H H:=fun _ _ h=>h
theorem aL.trans{H H1 H2:Hp}(a:aL H H1)(b:aL H1 H2):aL H H2:=fun c o h=>b c o (a c o h)
theorem aL.free{H H':Hp}(e:aL H H'){l:Addr}(h:H' l=Option.none):H l=Option.none:=by
 cases q:H l with
 |none=>rfl
 |some o =>
  rw[e l o q]at h
  cases h
theorem aL.seq{K:PySem.W.Frag}{H H':Hp}{a:Addr}{xs:List V}(e:aL H H')(h:bJ K H a xs):bJ K H' a xs:=by
 rcases h with(h|⟨o,h⟩)|h
 ·exact .inl (.inl (e _ _ h))
 ·exact .inl (.inr ⟨o,e _ _ h⟩)
 ·exact .inr h
section
variable {κ:Type} [DecidableEq κ]
noncomputable def dY(kvs:List (κ×V))(k:κ):Option V:=(kvs.find? fun kv=>decide (kv.1=k)).map (·.2)
noncomputable def putK(kvs:List (κ×V))(k:κ)(v:V):List (κ×V) :=
 if(kvs.any fun kv=>decide (kv.1=k))=true then kvs.map (fun kv=>if kv.1=k then(kv.1,v)else kv)else kvs++[(k,v)]
theorem ki{p:κ×V}{r:List (κ×V)}{k:κ}(e:p.1=k):dY (p::r) k=some p.2:=by simp[dY,List.find?_cons,e]
theorem kj{p:κ×V}{r:List (κ×V)}{k:κ}(e:¬p.1=k):dY (p::r) k=dY r k:=by simp[dY,List.find?_cons,e]
theorem oE(k:κ):∀kvs:List (κ×V),(kvs.any fun kv=>decide (kv.1=k))=(dY kvs k).isSome
 | []=>rfl
 |p::r=>by
  rw[List.any_cons]
  by_cases e:p.1=k
  ·simp only[ki e,decide_eq_true e,Bool.true_or,Option.isSome_some]
  ·rw[kj e,decide_eq_false e,Bool.false_or];exact oE k r
theorem gO(kvs:List (κ×V))(k:κ)(v:V):(putK kvs k v).length<=kvs.length+1:=by
 unfold putK
 split
 ·rw[List.length_map];omega
 ·rw[List.length_append,List.length_cons,List.length_nil];omega
theorem gy.sV{o:Option V}{u:Option Value}(r:gy o u):o.isSome=u.isSome:=by
 cases o with
 |none=>cases u with
  |none=>rfl
  |some _=>exact(show False from r).elim
 |some _=>cases u with
  |none=>exact(show False from r).elim
  |some _=>rfl
theorem gy.getD{o:Option V}{u:Option Value}{d:V}{d':Value}(r:gy o u)(rd:RelV d d'):RelV (o.getD d) (u.getD d'):=by
 cases o with
 |none=>cases u with
  |none=>exact rd
  |some _=>exact(show False from r).elim
 |some _=>cases u with
  |none=>exact(show False from r).elim
  |some _=>exact r
theorem KV.val{kvs:List (κ×V)}{vs:List (κ×Value)}(r:KV kvs vs)(k:κ):gy (dY kvs k) (valueAt vs k):=by
 unfold KV at r
 induction r with
 |nil=>exact True.intro
 |@cons p q ps qs h t ih =>
  obtain⟨h1,h2⟩:=h
  by_cases e:p.1=k
  ·have e':q.1=k:=h1.symm.trans e
   have b:valueAt (q::qs) k=some q.2:=by simp[valueAt,List.find?_cons,e']
   rw[ki e,b];exact h2
  ·have e':¬q.1=k:=fun z=>e (h1.trans z)
   have b:valueAt (q::qs) k=valueAt qs k:=by simp[valueAt,List.find?_cons,e']
   rw[kj e,b];exact ih
theorem KV.any{kvs:List (κ×V)}{vs:List (κ×Value)}(r:KV kvs vs)(k:κ):(kvs.any fun kv=>decide (kv.1=k))=vs.any fun kv=>decide (kv.1=k):=by
 unfold KV at r
 induction r with
 |nil=>rfl
 |cons h t ih=>rw[List.any_cons,List.any_cons,ih,h.1]
theorem KV.repl{kvs:List (κ×V)}{vs:List (κ×Value)}(r:KV kvs vs)(k:κ){y:V}{u:Value}(ry:RelV y u) :
  KV (kvs.map fun kv=>if kv.1=k then(kv.1,y)else kv) (vs.map fun kv=>if kv.1=k then(kv.1,u)else kv):=by
 unfold KV at r⊢
 induction r with
 |nil=>exact .nil
 |@cons p q ps qs h t ih =>
  rw[List.map_cons,List.map_cons]
  refine .cons ?_ ih
  obtain⟨h1,h2⟩:=h
  by_cases e:p.1=k
  ·rw[if_pos e,if_pos (h1.symm.trans e)];exact⟨h1,ry⟩
  ·rw[if_neg e,if_neg (fun z=>e (h1.trans z))];exact⟨h1,h2⟩
theorem KV.put{kvs:List (κ×V)}{vs:List (κ×Value)}(r:KV kvs vs)(k:κ){y:V}{u:Value}(ry:RelV y u):KV (putK kvs k y) (stored vs k u):=by
 unfold putK stored
 rw[r.any k]
 by_cases e:(vs.any fun kv=>decide (kv.1=k))=true
 ·rw[if_pos e,if_pos e];exact r.repl k ry
 ·rw[if_neg e,if_neg e];exact Paired.snoc r ⟨rfl,ry⟩
theorem KV.length{kvs:List (κ×V)}{vs:List (κ×Value)}(r:KV kvs vs):kvs.length=vs.length:=Paired.length r
end
theorem mD{P:Program}{w:World}{k:Key}{u:Value}(r:RelV (kV k) u):(bz P w).is k u=true:=by
 cases k with
 |inl i=>obtain⟨t,e⟩:=(show ∃t,u=Value.int i t from r);subst e;exact oh P w i t
 |inr x=>obtain⟨t,e⟩:=(show ∃t,u=Value.str x t from r);subst e;exact oi P w x t
theorem mE{P:Program}{w:World}:∀{ks:List Key}{us:List Value},Vals (ks.map kV) us->ItemsAre (bz P w) ks us
 | [],_,r=>by rw[List.map_nil]at r;cases r;exact .nil
 |k::ks,_,r=>by
  rw[List.map_cons]at r
  cases r with
  |cons h t=>exact .cons (mD h) (mE t)
noncomputable abbrev KT(H:Hp):List (List Key×V)->List (List Key×Addr×Value)->Prop:=Paired fun p q=>p.1=q.1/\H q.2.1=some (.tup (p.1.map kV))/\RelV p.2 q.2.2
theorem KT.val{H:Hp}{kvs:List (List Key×V)}{xs:List (List Key×Addr×Value)}(r:KT H kvs xs)(k:List Key):gy (dY kvs k) ((atKey xs k).map (·.2)):=by
 induction r with
 |nil=>exact True.intro
 |@cons p q ps qs h t ih =>
  obtain⟨h1,_,h2⟩:=h
  by_cases e:p.1=k
  ·have e':q.1=k:=h1.symm.trans e
   have b:atKey (q::qs) k=some q.2:=by simp[atKey,List.find?_cons,e']
   rw[ki e,b];exact h2
  ·have e':¬q.1=k:=fun z=>e (h1.trans z)
   have b:atKey (q::qs) k=atKey qs k:=by simp[atKey,List.find?_cons,e']
   rw[kj e,b];exact ih
theorem KT.repl{H:Hp}{kvs:List (List Key×V)}{xs:List (List Key×Addr×Value)}(r:KT H kvs xs)(k:List Key){y:V}{u:Value}(ry:RelV y u) :
  KT H (kvs.map fun kv=>if kv.1=k then(kv.1,y)else kv) (xs.map (putAt k u)):=by
 induction r with
 |nil=>exact .nil
 |@cons p q ps qs h t ih =>
  rw[List.map_cons,List.map_cons]
  refine .cons ?_ ih
  obtain⟨h1,h2,h3⟩:=h
  unfold putAt
  by_cases e:p.1=k
  ·rw[if_pos e,if_pos (h1.symm.trans e)];exact⟨h1,h2,ry⟩
  ·rw[if_neg e,if_neg (fun z=>e (h1.trans z))];exact⟨h1,h2,h3⟩
theorem KT.put{H:Hp}{kvs:List (List Key×V)}{xs:List (List Key×Addr×Value)}(r:KT H kvs xs)(k:List Key){b:Addr}{y:V}{u:Value}(hb:H b=some (.tup (k.map kV)))(ry:RelV y u) :
  KT H (putK kvs k y) (storedH xs k b u):=by
 have e:(kvs.any fun kv=>decide (kv.1=k))=(atKey xs k).isSome:=by
  rw[oE,(r.val k).sV,Option.isSome_map]
 unfold putK storedH
 rw[e]
 by_cases q:(atKey xs k).isSome=true
 ·rw[if_pos q,if_pos q];exact r.repl k ry
 ·rw[if_neg q,if_neg q];exact Paired.snoc r ⟨rfl,hb,ry⟩
theorem KT.keeps{H H':Hp}{kvs:List (List Key×V)}{xs:List (List Key×Addr×Value)}(r:KT H kvs xs)(ht:∀b ys,H b=some (.tup ys)->H' b=some (.tup ys)):KT H' kvs xs :=
 Paired.zp r fun _ _ z=>⟨z.1,ht _ _ z.2.1,z.2.2⟩
section
variable {P:Program}{w:World}{H:Hp}{h:Heap}{a:Addr}
theorem yX{u:HO}(ok:iV P w H h)(e:Rd H a u):b6 P w H h a u:=e.ok ok
theorem ko{kvs:List (Key×V)}(ok:iV P w H h)(e:Rd H a (.dK kvs)):kvs.length<=sizeLine/\(a == sysModules)=false/\∃vs,KV kvs vs/\h.DictOf (bz P w) a vs :=
 show b6 P w H h a (.dK kvs)from yX ok e
theorem yY{kvs:List (Key×V)}(ok:iV P w H h)(e:H a=some (.dK kvs)):kvs.length<=sizeLine/\(a == sysModules)=false/\∃vs,KV kvs vs/\h.DictOf (bz P w) a vs:=ko ok (.inl e)
theorem nC{ks:List Key}(ok:iV P w H h)(e:H a=some (.tup (ks.map kV))):(tupleKind (bz P w)).is h ks a:=by
 obtain⟨_,its,r,⟨o,h1,h2,n,h3⟩,_⟩:=(show b6 P w H h a (.tup (ks.map kV))from ok a _ e)
 exact⟨o,its.toArray,n,h1,h2,h3,by simpa using mE r⟩
theorem oF{kvs:List (List Key×V)}(ok:iV P w H h)(e:Rd H a (.dT kvs)):kvs.length<=sizeLine/\(a == sysModules)=false /\
  ∃xs,KT H kvs xs/\h.DictOfH (tupleKind (bz P w)) a xs:=by
 obtain⟨z,y,xs,r,o,es,ep,h1,h2,h3,h4,h5⟩:=(show b6 P w H h a (.dT kvs)from yX ok e)
 refine⟨z,y,xs,r,o,es,ep,h1,h2,h3,h4,fun x hx=>?_,h5⟩
 have all:∀{l:List (List Key×V)}{m:List (List Key×Addr×Value)},KT H l m->∀x∈m,(tupleKind (bz P w)).is h x.1 x.2.1:=by
  intro l m q
  induction q with
  |nil=>intro x hx;exact nomatch hx
  |@cons p q ps qs hq t ih =>
   intro x hx
   rcases List.mem_cons.mp hx with e|hx
   ·subst e
    exact nC ok (by rw[←hq.1];exact hq.2.1)
   ·exact ih x hx
 exact all r x hx
theorem Bk{kvs:List (List Key×V)}(ok:iV P w H h)(e:H a=some (.dT kvs)):kvs.length<=sizeLine/\(a == sysModules)=false /\
  ∃xs,KT H kvs xs/\h.DictOfH (tupleKind (bz P w)) a xs:=oF ok (.inl e)
end
noncomputable def dc(H:Hp)(a:Addr)(y:V)(r:Option V):Prop :=
 (∃kvs k,Rd H a (.dK kvs)/\y=kV k/\r=dY kvs k)\/∃kvs k b,Rd H a (.dT kvs)/\y=.ref b/\H b=some (.tup (k.map kV))/\r=dY kvs k
noncomputable def iP(H:Hp)(a:Addr)(y v:V)(H':Hp):Prop :=
 (∃kvs k,H a=some (.dK kvs)/\y=kV k/\kvs.length<sizeLine/\H'=upd H a (.dK (putK kvs k v))) \/
 ∃kvs k b,H a=some (.dT kvs)/\y=.ref b/\H b=some (.tup (k.map kV))/\kvs.length<sizeLine/\H'=upd H a (.dT (putK kvs k v))
theorem dc.k{H:Hp}{a:Addr}{kvs:List (Key×V)}{k:Key}(e:H a=some (.dK kvs)):dc H a (kV k) (dY kvs k):=.inl ⟨kvs,k,.inl e,rfl,rfl⟩
theorem dc.t{H:Hp}{a b:Addr}{kvs:List (List Key×V)}{k:List Key}(e:H a=some (.dT kvs))(eb:H b=some (.tup (k.map kV))):dc H a (.ref b) (dY kvs k):=.inr ⟨kvs,k,b,.inl e,rfl,eb,rfl⟩
theorem iP.k{H:Hp}{a:Addr}{kvs:List (Key×V)}{k:Key}{v:V}(e:H a=some (.dK kvs))(hl:kvs.length<sizeLine):iP H a (kV k) v (upd H a (.dK (putK kvs k v))):=.inl ⟨kvs,k,e,rfl,hl,rfl⟩
theorem iP.t{H:Hp}{a b:Addr}{kvs:List (List Key×V)}{k:List Key}{v:V}(e:H a=some (.dT kvs))(eb:H b=some (.tup (k.map kV)))(hl:kvs.length<sizeLine) :
  iP H a (.ref b) v (upd H a (.dT (putK kvs k v))):=.inr ⟨kvs,k,b,e,rfl,eb,hl,rfl⟩
section
variable {X:Cx}{pins:List (Addr×Obj)}{σ:St}{H:Hp}{s:Shared}{a:Addr}{y v:V}{u r:Value}{o:Option V}{A:Around}{E:Value->Shared->Prop}
theorem Inv.big(I:Inv X pins σ H s):sysModules<s.heap.objs.size:=by
 have h:mainGlobals<s.heap.objs.size:=(I.mod.glob.keeps I.bk).lt
 exact Nat.lt_trans (by decide) h
theorem sW{Q:Value->Shared->Prop}(hu:A.units+1<cLine)(I:Inv X pins σ H s)(g:dc H a y (some v))(ry:RelV y u)(h:∀w' s',Inv X pins σ H s'->RelV v w'->Q w' s') :
  wpAny (model X.prog X.w) A (getItem (.ref a) u) Q E s:=by
 rcases g with⟨kvs,k,e,ey,l⟩|⟨kvs,k,b,e,ey,eb,l⟩
 ·subst ey
  obtain⟨z,hd,vs,rel,dd⟩:=ko I.hok e
  obtain⟨w',hw,rw'⟩:=gy.some_of (v:=v) (o:=valueAt vs k) (by rw[l];exact rel.val k)
  exact wpAny_getItem_of (mD ry) dd.mapOf hw (h w' _ (I.tok _) rw')
 ·subst ey
  cases(show u=Value.ref b from ry)
  obtain⟨z,hd,xs,rel,dd⟩:=oF I.hok e
  obtain⟨w',hw,rw'⟩:=gy.some_of (v:=v) (o:=(atKey xs k).map (·.2)) (by rw[l];exact rel.val k)
  obtain⟨p,hp,hp2⟩:=Option.map_eq_some_iff.mp hw
  refine wpAny_getItem_heap (tupleKind_room_in1 hu) (nC I.hok eb) dd hp ?_
  rw[hp2]
  exact h w' _ (I.tok _) rw'
theorem nD{h':Heap}{t':Nat}{ob:HO}(I:Inv X pins σ H s)(mu:AY (H a))(hs:Heap.SameBut a s.heap h')(he:∃q,h'.get? a=some q)(new:b6 X.prog X.w (upd H a ob) h' a ob) :
  Inv X pins σ (upd H a ob) {s with heap:=h',toks:=t'} :=
 I.write (x:=a) (e:=a) mu (.inl rfl) (fun b q hb z=>(hs.2 b hb).trans z) he new
theorem qw{P:Program}{w:World}{H':Hp}{h':Heap}{kvs:List (Key×V)}{vs:List (Key×Value)}(z:kvs.length<=sizeLine)(hd:(a == sysModules)=false)(rel:KV kvs vs)(dd:h'.DictOf (bz P w) a vs) :
  b6 P w H' h' a (.dK kvs):=⟨z,hd,vs,rel,dd⟩
theorem sX{H':Hp}{Q:Unit->Shared->Prop}(hu:A.units+1<cLine)(I:Inv X pins σ H s)(g:iP H a y v H')(ry:RelV y u)(rv:RelV v r)(h:∀s',Inv X pins σ H' s'->Q () s') :
  wpAny (model X.prog X.w) A (setItem (.ref a) u r) Q E s:=by
 rcases g with⟨kvs,k,e,ey,l,eH⟩|⟨kvs,k,b,e,ey,eb,l,eH⟩
 ·subst ey eH
  obtain⟨z,hd,vs,rel,dd⟩:=yY I.hok e
  have hz:vs.length<=sizeLine:=by rw[←rel.length];exact z
  have hl:(putK kvs k v).length<=sizeLine:=by have:=gO kvs k v;omega
  refine wpAny_setItem_pairs (hsz:=hz) (mD ry) dd fun h' dd' hs=>h _ ?_
  have he:∃q,h'.get? a=some q:=let⟨q,_,_,hq,_⟩:=dd';⟨q,hq⟩
  exact nD I (by rw[e];exact True.intro) hs he (qw hl hd (rel.put k rv) dd')
 ·subst ey eH
  cases(show u=Value.ref b from ry)
  obtain⟨z,hd,xs,rel,dd⟩:=Bk I.hok e
  have hz:xs.length<=sizeLine:=by rw[←Paired.length rel];exact z
  have hl:(putK kvs k v).length<=sizeLine:=by have:=gO kvs k v;omega
  refine wpAny_setItem_heap (hsz:=hz) (tupleKind_room_in1 hu) (nC I.hok eb) dd fun h' dd' hs=>h _ ?_
  obtain⟨q,es,ep,hq,h2,h3,h4,_,h5⟩:=dd'
  refine nD I (by rw[e];exact True.intro) hs ⟨q,hq⟩ ⟨hl,hd,_,(rel.put k eb rv).keeps fun c ys ec=>?_,q,es,ep,hq,h2,h3,h4,h5⟩
  rw[aq (iW ec e (fun z=>nomatch z))]
  exact ec
end
section
variable {X:Cx}{pins:List (Addr×Obj)}{σ:St}{H:Hp}{s:Shared}{a:Addr}{kvs:List (Key×V)}{k:Key}{u:Value}{A:Around}{E:Value->Shared->Prop}
end
noncomputable def zU(i:Expr):Prop:=∀ov iv,subscripted i false ov iv=operate [ov,iv] (getItem ov iv)
theorem q9{prog:Program}{w:World}{A:Around}{E:Value->Shared->Prop}{s:Shared}{env:Env}{value slice:Expr}{pos:Pos}{T id:String}{Q:Value->Shared->Prop}
  (hl:typeLookup (.type T) "__getitem__"=pure (some (.builtin id))) (hs:zU slice)
  (h:wpAny (model prog w) A (eval value env) (fun o s₁=>wpAny (model prog w) A (eval slice env) (fun i s₂=>s₂.TypeIs o T/\wpAny (model prog w) A (getItem o i) Q E s₂) E s₁) E s) :
  wpAny (model prog w) A (eval (.Subscript value slice pos) env) Q E s:=by
 refine Subscript_ (wpAny_mono h (fun o s₁ h₁=>wpAny_mono h₁ (fun i s₂ h₂=>?_) fun _ _ x=>x) fun _ _ x=>x)
 obtain⟨hT,h₂⟩:=h₂
 unfold subscriptTail
 refine wpAny_bind ?_
 rw[getitemInPython_of_ne hT.not_modules]
 refine wpAny_bind (wpAny_specialOf hT hl ?_)
 have fin:wpAny (model prog w) A (subscripted slice false o i) (fun r s₃=>wpAny (model prog w) A (letTemporaryGo value o r>>=fun _=>pure r) Q E s₃) E s₂:=by
  rw[hs o i]
  exact wpAny_operating (wpAny_mono h₂ (fun r s₃ h₃=>wpAny_bind (wpAny_letTemporaryGo (wpAny_pure h₃))) fun _ _ x=>x)
 first
  |exact wpAny_pure (wpAny_bind fin)
  |exact wpAny_bind (wpAny_pure (wpAny_bind fin))
  |exact wpAny_bind fin
theorem oG{X:Cx}{pins:List (Addr×Obj)}{σ:St}{H:Hp}{s:Shared}{a:Addr}{y:V}{o:Option V}(I:Inv X pins σ H s)(g:dc H a y o):s.TypeIs (.ref a) "dict":=by
 rcases g with⟨kvs,k,e,_,_⟩|⟨kvs,k,b,e,_,_,_⟩
 ·obtain⟨_,_,vs,_,dd⟩:=ko I.hok e
  exact dd.typeIs
 ·obtain⟨_,_,xs,_,dd⟩:=oF I.hok e
  exact dd.typeIs
noncomputable def Bl(td ty:TE):TE:=fun σ H Q=>td σ H fun x H1=>ty σ H1 fun y H2=>∃a v,x=.ref a/\dc H2 a y (some v)/\Q v H2
noncomputable def Bm(td ty tv:TE):TS:=fun D σ H=>tv σ H fun v H1=>td σ H1 fun x H2=>ty σ H2 fun y H3=>∃a H4,x=.ref a/\iP H3 a y v H4/\D.nx σ H4
section
variable {X:Cx}{o i e value:Expr}{pos pos' tpos:Pos}{td ty tv:TE}
theorem xy(hu:X.A.units+1<cLine)(ho:PE X o td)(hi:PE X i ty)(hs:zU i):PE X (.Subscript o i pos) (Bl td ty):=by
 intro pins s σ H Q I h
 refine q9 PySem.F.slot_dict_getitem.lookup hs (bR (ho pins s σ H _ I h) fun u s1 ⟨x,H1,I1,rx,q1⟩=>bR (hi pins s1 σ H1 _ I1 q1) fun iv s2 ⟨y,H2,I2,ry,a,v,ex,g,q2⟩=>?_)
 subst ex
 obtain rfl:u=Value.ref a:=rx
 exact⟨oG I2 g,sW hu I2 g ry fun w' s3 I3 rw'=>⟨v,H2,I3,rw',q2⟩⟩
theorem ir(hu:X.A.units+1<cLine)(ho:PE X o td)(hi:PE X i ty)(hv:PE X value tv)(hs:swapsWith value (some (.Subscript o i pos')) pos.line X.env=pure false) :
  PS X (.Assign [.Subscript o i pos'] value pos) (Bm td ty tv):=by
 intro pins s σ H D I h
 refine wpAny_Assign_Subscript (bR (hv pins s σ H _ I h) fun r s1 ⟨v,H1,I1,rv,q1⟩=>bR (ho pins s1 σ H1 _ I1 q1) fun u s2 ⟨x,H2,I2,rx,q2⟩=>bR (hi pins s2 σ H2 _ I2 q2) fun iv s3 ⟨y,H3,I3,ry,a,H4,ex,g,q3⟩=>?_) hs
 subst ex
 obtain rfl:u=Value.ref a:=rx
 exact sX hu I3 g ry rv fun s4 I4=>⟨σ,H4,I4,q3⟩
end
theorem oH{P:Program}{w:World}{H:Hp}(h:Heap)(hb:sysModules<h.objs.size):b6 P w H (h.push {cls:=.type "dict",data:=.dict #[]}) h.objs.size (.dK []) :=
 ⟨Nat.zero_le _,beq_eq_false_iff_ne.mpr (Ne.symm (Nat.ne_of_lt hb)),[],.nil,Heap.DictOf.new h⟩
noncomputable def zV:TE:=fun _ H Q=>∀p,H p=none->Q (.ref p) (upd H p (.dK []))
section
variable {X:Cx}{pos:Pos}
theorem uP:PE X (.Dict [] [] pos) zV:=fun pins s σ H Q I h =>
 wpAny_Dict_empty ⟨.ref s.heap.objs.size,_,I.laid (a:=s.heap.objs.size) (o:=.dK []) (t':=s.toks) (fun _ _ q=>Heap.get?_push_of_some _ q) (Nat.le_refl _) (oH s.heap I.big),rfl,h _ (I.hok.fresh (Nat.le_refl _))⟩
end
noncomputable def qx:List (TE×TE)->St->Hp->(List (V×V)->Hp->Prop)->Prop
 | [],_,H,Q=>Q [] H
 |(tk,tv)::r,σ,H,Q=>tk σ H fun x H1=>tv σ H1 fun y H2=>qx r σ H2 fun ps H3=>Q ((x,y)::ps) H3
noncomputable abbrev VV:List (V×V)->List (Value×Value)->Prop:=Paired fun p q=>RelV p.1 q.1/\RelV p.2 q.2
noncomputable def Cb(X:Cx)(pos:Pos)(keys:List (Option Expr))(values:List Expr)(trs:List (TE×TE)):Prop :=
 ∀(pins:List (Addr×Obj)) (s:Shared) (σ:St) (H:Hp) (Q:List (V×V)->Hp->Prop),Inv X pins σ H s->qx trs σ H Q ->
  wpAny (model X.prog X.w) X.A (evalPairs (pairTrees keys values X.env pos)) (fun vs s'=>∃ps H',Inv X pins σ H' s'/\VV ps vs/\Q ps H') X.xe s
theorem xA{X:Cx}{pos:Pos}:Cb X pos [] [] []:=fun pins s σ H Q I h=>pairTrees_nil_walk ⟨[],H,I,.nil,h⟩
theorem gQ{X:Cx}{pos:Pos}{k v:Expr}{ks:List (Option Expr)}{vs:List Expr}{tk tv:TE}{trs:List (TE×TE)}(hk:PE X k tk)(hv:PE X v tv)(hr:Cb X pos ks vs trs) :
  Cb X pos (some k::ks) (v::vs) ((tk,tv)::trs):=fun pins s σ H Q I h =>
 pairTrees_cons_walk (bR (hk pins s σ H _ I h) fun u s1 ⟨x,H1,I1,rx,q1⟩=>bR (hv pins s1 σ H1 _ I1 q1) fun w2 s2 ⟨y,H2,I2,ry,q2⟩ =>
  bR (hr pins s2 σ H2 _ I2 q2) fun ws s3 ⟨ps,H3,I3,rel,q3⟩=>⟨(x,y)::ps,H3,I3,.cons ⟨rx,ry⟩ rel,q3⟩)
noncomputable def fj(kvs more:List (Key×V)):List (Key×V):=more.foldl (fun acc kv=>putK acc kv.1 kv.2) kvs
theorem KV.merge:∀{more:List (Key×V)}{rs:List (Key×Value)}{kvs:List (Key×V)}{vs:List (Key×Value)},KV more rs->KV kvs vs->KV (fj kvs more) (merged vs rs):=by
 intro more rs kvs vs r
 unfold KV at r
 induction r generalizing kvs vs with
 |nil=>intro q;exact q
 |@cons p q ps qs h t ih =>
  intro r0
  have e:KV (putK kvs p.1 p.2) (stored vs q.1 q.2):=by
   have:=r0.put p.1 h.2
   rw[←h.1];exact this
  exact ih e
theorem fk:∀(more kvs:List (Key×V)),(fj kvs more).length<=kvs.length+more.length
 | [],kvs=>by show kvs.length<=kvs.length+0;omega
 |p::r,kvs=>by
  have h1:=fk r (putK kvs p.1 p.2)
  have h2:=gO kvs p.1 p.2
  show(fj (putK kvs p.1 p.2) r).length<=_
  rw[List.length_cons];omega
theorem ku{P:Program}{w:World}:∀{kvs:List (Key×V)}{ws:List (Value×Value)},VV (kvs.map fun kv=>(kV kv.1,kv.2)) ws->∃rs,Carries (bz P w) ws rs/\KV kvs rs
 | [],_,r=>by rw[List.map_nil]at r;cases r;exact⟨[],True.intro,.nil⟩
 |p::kvs,_,r=>by
  rw[List.map_cons]at r
  cases r with
  |@cons a b as bs h t =>
   obtain⟨rs,c,q⟩:=ku (P:=P) (w:=w) t
   obtain⟨b1,b2⟩:=b
   exact⟨(p.1,b2)::rs,⟨mD h.1,rfl,c⟩,.cons ⟨rfl,h.2⟩ q⟩
noncomputable def yZ(trs:List (TE×TE)):TE:=fun σ H Q=>∀p,H p=none->qx trs σ (upd H p (.dK [])) fun ps H2=>H2 p=some (.dK [])/\∃kvs:List (Key×V),ps=kvs.map (fun kv=>(kV kv.1,kv.2))/\kvs.length<=15/\Q (.ref p) (upd H2 p (.dK (fj [] kvs)))
theorem xB{X:Cx}{pos:Pos}{keys:List (Option Expr)}{values:List Expr}{trs:List (TE×TE)}(h:Cb X pos keys values trs)(hall:keys.all (·.isSome)=true)(hl:keys.length=values.length)(h0:keys≠[])
  (h15:keys.length<=15):PE X (.Dict keys values pos) (yZ trs):=by
 intro pins s σ H Q I q
 have hn:=I.hok.fresh (Nat.le_refl s.heap.objs.size)
 have I1:=I.laid (a:=s.heap.objs.size) (o:=.dK []) (h':=s.heap.push {cls:=.type "dict",data:=.dict #[]}) (t':=s.toks) (fun _ _ q=>Heap.get?_push_of_some _ q) (Nat.le_refl _) (oH s.heap I.big)
 refine wpAny_Dict_walk (knd:=bz X.prog X.w) hall hl h0 h15 (bR (h pins _ σ _ _ I1 (q _ hn)) fun ws s2 ⟨ps,H2,I2,rel,e,kvs,ep,lk,q2⟩=>?_)
 subst ep
 obtain⟨rs,c,rk⟩:=ku (P:=X.prog) (w:=X.w) rel
 obtain⟨z,hd,vs0,r0,dd⟩:=yY I2.hok e
 cases r0
 refine⟨rs,c,dd,fun h' dd' hs=>⟨.ref s.heap.objs.size,_,?_,rfl,q2⟩⟩
 have hz:(fj [] kvs).length<=sizeLine:=by
  have h1:=fk kvs []
  rw[List.length_nil]at h1
  rw[sizeLine_eq];omega
 have he:∃q,h'.get? s.heap.objs.size=some q:=let⟨q,_,_,hq,_⟩:=dd';⟨q,hq⟩
 exact nD I2 (by rw[e];exact True.intro) hs he (qw hz hd (rk.merge .nil) dd')
structure M2(X:Cx) (o:Expr) (m:Str) (apos:Pos) (e f:Expr) (cpos:Pos):Prop where
 base:attributeBase o m X.env (eval o X.env)=eval o X.env
 few:((backTo cpos (starEach [e,f] X.env)).all (fun x=>!x.1)&&(backToKw cpos (keywordEach [] X.env)).all (fun x=>x.1.isSome)
  && decide (([e,f]:List Expr).length+([]:List Keyword).length+(if([]:List Keyword).isEmpty then 0 else 1)<30))=true
 line:(apos.endLine == cpos.line)=true
 trees:backTo cpos (starEach [e,f] X.env)=[(false,eval e X.env),(false,eval f X.env)]
noncomputable def CH(H:Hp)(a:Addr):Prop:=(∃kvs,Rd H a (.dK kvs))\/∃kvs,Rd H a (.dT kvs)
theorem zW{X:Cx}{pins:List (Addr×Obj)}{σ:St}{H:Hp}{s:Shared}{a:Addr}(I:Inv X pins σ H s)(d:CH H a) :
  s.TypeIs (.ref a) "dict"/\(∀b,Value.ref a=.ref b->∃ob,s.heap.get? b=some ob/\ob.dict=none)/\(a == sysModules)=false:=by
 rcases d with⟨kvs,e⟩|⟨kvs,e⟩
 ·obtain⟨_,hd,vs,_,dd⟩:=ko I.hok e
  refine⟨dd.typeIs,fun b q=>?_,hd⟩
  cases q
  obtain⟨ob,_,_,h1,h2,_⟩:=dd
  exact⟨ob,h1,h2.2.1⟩
 ·obtain⟨_,hd,xs,_,dd⟩:=oF I.hok e
  refine⟨dd.typeIs,fun b q=>?_,hd⟩
  cases q
  obtain⟨ob,_,_,h1,h2,_⟩:=dd
  exact⟨ob,h1,h2.2.1⟩
section
variable {X:Cx}{pins:List (Addr×Obj)}{σ:St}{H:Hp}{s:Shared}{a:Addr}{y d:V}{u r:Value}{o:Option V}{A:Around}{E:Value->Shared->Prop}
theorem zX{Q:Value->Shared->Prop}(hu:A.units+1<cLine)(I:Inv X pins σ H s)(g:dc H a y o)(ry:RelV y u)(rd:RelV d r)(h:∀w' s',Inv X pins σ H s'->RelV (o.getD d) w'->Q w' s') :
  wpAny (model X.prog X.w) A (call (.builtin "dict.get") [.ref a,u,r]) Q E s:=by
 rcases g with⟨kvs,k,e,ey,l⟩|⟨kvs,k,b,e,ey,eb,l⟩
 ·subst ey
  obtain⟨z,hd,vs,rel,dd⟩:=ko I.hok e
  refine call_meetsIn PySem.F.slot_dict_get dd.typeIs PySem.F.entry_dict_get (PySem.F.args_dict_get_3 _ _ _) (meets_dict_get_default (bz X.prog X.w) a (mD ry) hd r) ⟨_,dd.mapOf,h _ _ (I.tok _) ?_⟩
  rw[l]
  exact(rel.val k).getD rd
 ·subst ey
  cases(show u=Value.ref b from ry)
  obtain⟨z,hd,xs,rel,dd⟩:=oF I.hok e
  refine call_meetsIn PySem.F.slot_dict_get dd.typeIs PySem.F.entry_dict_get (PySem.F.args_dict_get_3 _ _ _) (meetsH_dict_get_default (tupleKind (bz X.prog X.w)) a b hd r) ⟨tupleKind_room_in1 hu,k,xs,nC I.hok eb,dd,h _ _ (I.tok _) ?_⟩
  rw[l]
  exact(rel.val k).getD rd
end
noncomputable def zY(td ty tx:TE):TE:=fun σ H Q=>td σ H fun x H1=>∃a,x=.ref a/\CH H1 a/\ty σ H1 fun y H2=>tx σ H2 fun z H3=>∃o,dc H3 a y o/\Q (o.getD z) H3
section
variable {X:Cx}{o e f:Expr}{apos cpos:Pos}{td ty tx:TE}
theorem uQ(hu:X.A.units+1<cLine)(ho:PE X o td)(he:PE X e ty)(hf:PE X f tx)(m:M2 X o "get" apos e f cpos):PE X (.Call (.Attribute o "get" apos) [e,f] [] cpos) (zY td ty tx):=by
 intro pins s σ H Q I h
 refine wpAny_Call_method m.base m.few m.line PySem.F.plainAttrs_dict PySem.F.slot_dict_get PySem.F.type_dict_get (bR (ho pins s σ H _ I h) fun u s1 ⟨x,H1,I1,rx,a,ex,d,q1⟩=>?_)
 subst ex
 obtain rfl:u=Value.ref a:=rx
 obtain⟨t1,t2,_⟩:=zW I1 d
 refine⟨t1,t2,?_⟩
 rw[m.trees]
 refine Calls.callWith_builtin rfl (Calls.evalArgs_plain (Calls.spliced_cons (bR (he pins s1 σ H1 _ I1 q1) fun iv s2 ⟨y,H2,I2,ry,q2⟩ =>
  Calls.spliced_cons (bR (hf pins s2 σ H2 _ I2 q2) fun fv s3 ⟨z,H3,I3,rz,ov,g,q3⟩=>Calls.spliced_nil ?_))))
 exact zX hu I3 g ry rz fun w' s4 I4 rw'=>⟨_,H3,I4,rw',q3⟩
end
section
variable {X:Cx}{pins:List (Addr×Obj)}{σ:St}{H:Hp}{s:Shared}{a:Addr}{kvs:List (Key×V)}{A:Around}{E:Value->Shared->Prop}
end
section
variable {X:Cx}{pins:List (Addr×Obj)}{σ:St}{H:Hp}{s:Shared}{a:Addr}{y:V}{u:Value}{A:Around}{E:Value->Shared->Prop}
end
end L2
set_option maxHeartbeats 4000000
namespace L2
open PySem
inductive T where
 |s (x:Str)|i (n:Int)|n|t (xs:List T)
theorem T.induct{P:T->Prop}(hs:∀x,P (.s x))(hi:∀n,P (.i n))(hn:P .n)(ht:∀xs,(∀x∈xs,P x)->P (.t xs))(a:T):P a :=
 T.rec (motive_1:=P) (motive_2:=fun xs=>∀x∈xs,P x) hs hi hn ht (fun _ h=>nomatch h) (fun _ _ h1 h2 y hy=>by
  cases hy with
  |head=>exact h1
  |tail _ h=>exact h2 y h) a
mutual
noncomputable def T.dep:T->Nat
 |.t xs=>T.dR xs+1
 |_=>0
noncomputable def T.dR:List T->Nat
 | []=>0
 |x::r=>max x.dep (T.dR r)
end
theorem T.ja{xs:List T}{x:T}(h:x∈xs):x.dep<=T.dR xs:=by
 induction xs with
 |nil=>cases h
 |cons y r ih =>
  unfold T.dR
  cases h with
  |head=>exact Nat.le_max_left _ _
  |tail _ h=>exact Nat.le_trans (ih h) (Nat.le_max_right _ _)
mutual
noncomputable def T.eqB:T->T->Bool
 |.s x,.s y=>x == y
 |.i m,.i k=>m == k
 |.n,.n=>true
 |.t xs,.t ys=>T.jW xs ys
 |_,_=>false
noncomputable def T.jW:List T->List T->Bool
 | [],[]=>true
 |x::r,y::q=>x.eqB y&&T.jW r q
 |_,_=>false
end
theorem T.uR{xs:List T}(h:∀x∈xs,∀y,T.eqB x y=true↔x=y):∀ys,T.jW xs ys=true↔xs=ys:=by
 induction xs with
 |nil=>intro ys;cases ys<;>simp[T.jW]
 |cons x r ih =>
  intro ys
  cases ys with
  |nil=>simp[T.jW]
  |cons y q =>
   unfold T.jW
   rw[Bool.and_eq_true,h x (.head _) y,ih (fun z hz=>h z (.tail _ hz)) q,List.cons.injEq]
theorem T.eqB_iff(a:T):∀b,T.eqB a b=true↔a=b:=by
 induction a using T.induct with
 |hs x=>intro b;cases b<;>simp[T.eqB]
 |hi x=>intro b;cases b<;>simp[T.eqB]
 |hn=>intro b;cases b<;>simp[T.eqB]
 |ht xs ih =>
  intro b
  cases b with
  |t ys=>unfold T.eqB;rw[T.uR ih ys,T.t.injEq]
  |_=>simp[T.eqB]
theorem T.uS(a:T):T.eqB a a=true:=(T.eqB_iff a a).mpr rfl
noncomputable instance:DecidableEq T:=fun a b=>if h:T.eqB a b=true then .isTrue ((T.eqB_iff a b).mp h)else .isFalse fun z=>h ((T.eqB_iff a b).mpr z)
theorem T.xC(a b:T):T.eqB a b=decide (a=b):=by rw[Bool.eq_iff_iff,decide_eq_true_iff,T.eqB_iff]
theorem T.iQ:∀(xs ys:List T),T.jW xs ys=((List.range (min xs.length ys.length)).all (fun j=>T.eqB (xs.getD j .n) (ys.getD j .n))&&xs.length == ys.length)
 | [],[]=>rfl
 | [],y::q=>by simp[T.jW]
 |x::r,[]=>by simp[T.jW]
 |x::r,y::q=>by
  unfold T.jW
  rw[T.iQ r q,List.length_cons,List.length_cons,Nat.succ_min_succ,List.range_succ_eq_map,List.all_cons,List.all_map]
  have e:(r.length+1 == q.length+1)=(r.length == q.length):=by simp
  rw[e,Bool.and_assoc]
  rfl
end L2
namespace L2
open PySem
inductive Hd where
 |num (n:Int)|name (x:Str)|gap (n:Int)|op (s:Str)|row|more|first|others|long|tag (t:Str)|call (f:Str)|mat (arms:List (Str×List Str))|ife|lt (x:Str)|fold (x y:Str)
inductive Tm where
 |mk (h:Hd) (ks:List Tm)
noncomputable def Tm.hd:Tm->Hd|.mk h _=>h
noncomputable def Tm.ks:Tm->List Tm|.mk _ ks=>ks
theorem Tm.induct{P:Tm->Prop}(hm:∀h ks,(∀k∈ks,P k)->P (.mk h ks))(a:Tm):P a :=
 Tm.rec (motive_1:=P) (motive_2:=fun xs=>∀x∈xs,P x) hm (fun _ h=>nomatch h) (fun _ _ h1 h2 y hy=>by
  cases hy with
  |head=>exact h1
  |tail _ h=>exact h2 y h) a
noncomputable def br:Hd->Nat->Bool
 |.num _,n=>n == 0
 |.name _,n=>n == 0
 |.gap _,n=>n == 0
 |.op _,n=>n == 2
 |.row,_=>true
 |.more,n=>n == 2
 |.first,n=>n == 1
 |.others,n=>n == 1
 |.long,n=>n == 1
 |.tag _,_=>true
 |.call _,_=>true
 |.mat arms,n=>n == arms.length+1
 |.ife,n=>n == 3
 |.lt _,n=>n == 2
 |.fold _ _,n=>n == 3
inductive Wf:Tm->Prop
 |mk {h:Hd}{ks:List Tm}:br h ks.length=true->(∀k∈ks,Wf k)->Wf (.mk h ks)
noncomputable def bnd:Hd->Nat->List (List Str)
 |.mat arms,_=>[]::arms.map (·.2)
 |.lt x,_=>[[],[x]]
 |.fold x y,_=>[[],[],[x,y]]
 |_,n=>List.replicate n []
noncomputable def gU(a:Str×List Str)(k:T):T:=.t [.s a.1,.t (a.2.map .s),k]
noncomputable def c9:Hd->List T->T
 |.num n,_=>.t [.s "num",.i n]
 |.name x,_=>.t [.s "name",.s x]
 |.gap n,_=>.t [.s "gap",.i n]
 |.op s,ks=>.t (.s "op"::.s s::ks)
 |.row,ks=>.t [.s "row",.t ks]
 |.more,ks=>.t (.s "more"::ks)
 |.first,ks=>.t (.s "first"::ks)
 |.others,ks=>.t (.s "others"::ks)
 |.long,ks=>.t (.s "long"::ks)
 |.tag t,ks=>.t [.s "tag",.s t,.t ks]
 |.call f,ks=>.t [.s "call",.s f,.t ks]
 |.mat arms,ks=>.t [.s "match",ks.headD .n,.t (List.zipWith gU arms ks.tail)]
 |.ife,ks=>.t (.s "if"::ks)
 |.lt x,ks=>.t (.s "let"::.s x::ks)
 |.fold x y,ks=>.t [.s "fold",ks.getD 0 .n,.s x,.s y,ks.getD 1 .n,ks.getD 2 .n]
mutual
noncomputable def enc:Tm->T
 |.mk h ks=>c9 h (xD ks)
noncomputable def xD:List Tm->List T
 | []=>[]
 |k::r=>enc k::xD r
end
theorem oJ:∀ks:List Tm,xD ks=ks.map enc
 | []=>rfl
 |k::r=>by unfold xD;rw[oJ r];rfl
theorem aW(h:Hd)(ks:List Tm):enc (.mk h ks)=c9 h (ks.map enc):=by unfold enc;rw[oJ]
mutual
noncomputable def Tm.size:Tm->Nat
 |.mk _ ks=>Tm.sizes ks+1
noncomputable def Tm.sizes:List Tm->Nat
 | []=>0
 |k::r=>k.size+Tm.sizes r
end
mutual
noncomputable def Tm.depth:Tm->Nat
 |.mk _ []=>0
 |.mk _ (k::r)=>Tm.fq (k::r)+1
noncomputable def Tm.fq:List Tm->Nat
 | []=>0
 |k::r=>max k.depth (Tm.fq r)
end
theorem Tm.bG(k:Tm)(r:List Tm):Tm.sizes (k::r)=k.size+Tm.sizes r:=by rw[Tm.sizes]
theorem Tm.cF(h:Hd)(ks:List Tm):(Tm.mk h ks).size=Tm.sizes ks+1:=by rw[Tm.size]
theorem Tm.fX(h:Hd)(k:Tm)(r:List Tm):(Tm.mk h (k::r)).depth=Tm.fq (k::r)+1:=by rw[Tm.depth]
theorem Tm.jb:∀(a b:List Tm),Tm.sizes (a++b)=Tm.sizes a+Tm.sizes b
 | [],b=>by simp[Tm.sizes]
 |k::r,b=>by rw[List.cons_append,Tm.bG,Tm.bG,Tm.jb r b];omega
theorem Tm.size_pos(a:Tm):0<a.size:=by cases a;unfold Tm.size;omega
theorem Tm.qy{ks:List Tm}{k:Tm}(h:k∈ks):k.depth<=Tm.fq ks:=by
 induction ks with
 |nil=>cases h
 |cons y r ih =>
  unfold Tm.fq
  cases h with
  |head=>exact Nat.le_max_left _ _
  |tail _ h=>exact Nat.le_trans (ih h) (Nat.le_max_right _ _)
theorem Tm.iu{h:Hd}{ks:List Tm}{k:Tm}(m:k∈ks):k.depth<(Tm.mk h ks).depth:=by
 cases ks with
 |nil=>cases m
 |cons y r=>rw[Tm.fX];exact Nat.lt_succ_of_le (Tm.qy m)
theorem Tm.uT{h:Hd}{ks:List Tm}{n:Nat}(a:∀k∈ks,k.depth<=n):(Tm.mk h ks).depth<=n+1:=by
 cases ks with
 |nil=>unfold Tm.depth;omega
 |cons y r =>
  unfold Tm.depth
  refine Nat.succ_le_succ ?_
  generalize(y::r)=l at a
  induction l with
  |nil=>exact Nat.zero_le _
  |cons z q ih=>unfold Tm.fq;exact Nat.max_le.mpr ⟨a z (.head _),ih fun k hk=>a k (.tail _ hk)⟩
end L2
namespace L2
open PySem PySem.Spec PyProof.Rows
noncomputable def bL(env:Env):List (Str×NameKind)->List (Str×Addr)->List (Str×Addr)
 | [],cs=>cs
 |(n,k)::r,cs=>bL env r (if k == .free then(n,(env.cells.lookup n).getD 0)::cs else cs)
theorem iK{scope:Scope}{env:Env}(h:∀x∈scope.names,x.2=.free->∃c,env.cells.lookup x.1=some c):closureFor scope env=pure (bL env scope.names []):=by
 have go:∀(l:List (Str×NameKind)) (cs:List (Str×Addr)),(∀x∈l,x.2=.free->∃c,env.cells.lookup x.1=some c) ->
   (forIn l cs fun x r=>if(x.2 == NameKind.free)=true then do let a ←cellOf env x.1;pure (ForInStep.yield ((x.1,a)::r))else pure (ForInStep.yield r):Sem (List (Str×Addr)))=pure (bL env l cs):=by
  intro l
  induction l with
  |nil=>intro cs _;rfl
  |cons x r ih =>
   intro cs hx
   obtain⟨n,k⟩:=x
   rw[List.forIn_cons]
   by_cases hk:k=.free
   ·subst hk
    obtain⟨c,hc⟩:=hx (n,.free) List.mem_cons_self rfl
    have e:cellOf env n=pure c:=by unfold cellOf;rw[show env.cells.lookup n=some c from hc]
    simp only[beq_self_eq_true,if_true,e,pure_bind]
    rw[ih _ fun y hy=>hx y (List.mem_cons_of_mem _ hy)]
    unfold bL
    rw[show env.cells.lookup n=some c from hc]
    cases r<;>rfl
   ·have hb:(k == NameKind.free)=false:=by simpa using hk
    simp only[hb,Bool.false_eq_true,if_false,pure_bind]
    rw[ih _ fun y hy=>hx y (List.mem_cons_of_mem _ hy)]
    conv=>rhs;unfold bL
    simp only[hb,Bool.false_eq_true,if_false]
 simp only[closureFor]
 have g:=go scope.names [] h
 simp only[g]
 rfl
theorem ef{env:Env}:∀(l:List (Str×NameKind)) (cs:List (Str×Addr)),(∀x∈l,x.2=.free->∃c,env.cells.lookup x.1=some c)->(∀y c,cs.lookup y=some c->env.cells.lookup y=some c) ->
  ∀y c,(bL env l cs).lookup y=some c->env.cells.lookup y=some c
 | [],_,_,hc=>hc
 |(n,k)::r,cs,hl,hc=>by
  refine ef r _ (fun x hx=>hl x (List.mem_cons_of_mem _ hx)) fun y c e=>?_
  by_cases hk:(k == NameKind.free)=true
  ·rw[if_pos hk]at e
   rw[List.lookup_cons]at e
   by_cases hy:y=n
   ·subst hy
    simp only[beq_self_eq_true]at e
    obtain⟨c',hc'⟩:=hl (y,k) List.mem_cons_self (by simpa using hk)
    have hc'':env.cells.lookup y=some c':=hc'
    rw[hc'']at e⊢
    exact e
   ·have hb:(y == n)=false:=beq_eq_false_iff_ne.mpr hy
    rw[hb]at e
    exact hc y c e
  ·rw[if_neg hk]at e
   exact hc y c e
theorem iL{env:Env}:∀(l:List (Str×NameKind)) (cs:List (Str×Addr)) (y:Str),(∃c,cs.lookup y=some c)->∃c,(bL env l cs).lookup y=some c
 | [],_,_,h=>h
 |(n,k)::r,cs,y,h=>by
  refine iL r _ y ?_
  by_cases hk:(k == NameKind.free)=true
  ·rw[if_pos hk,List.lookup_cons]
   cases hb:(y == n)with
   |true=>exact⟨_,rfl⟩
   |false=>exact h
  ·rw[if_neg hk];exact h
theorem jc{env:Env}:∀(l:List (Str×NameKind)) (cs:List (Str×Addr)) (y:Str),(y,NameKind.free)∈l->∃c,(bL env l cs).lookup y=some c
 | [],_,_,h=>nomatch h
 |(n,k)::r,cs,y,h=>by
  rcases List.mem_cons.mp h with e|h
  ·have e1:y=n:=congrArg Prod.fst e
   have e2:NameKind.free=k:=congrArg Prod.snd e
   subst e1
   subst e2
   refine iL r _ y ⟨(env.cells.lookup y).getD 0,?_⟩
   rw[if_pos (by rfl),List.lookup_cons,beq_self_eq_true]
  ·exact jc r _ y h
theorem fu{env:Env}:∀{names:List (Str×NameKind)}{x:Str}{k':NameKind},(names.map fun(n,k)=>if(k == NameKind.free&&env.scope.kind == .function&&env.kindOf n == some .cell)then(n,NameKind.cell)else(n,k)).lookup x=some k' ->
  names.lookup x=some k'\/(k'=.cell/\names.lookup x=some .free)
 | [],_,_,h=>by simp at h
 |(n,k)::r,x,k',h=>by
  have ih:=@fu env r x k'
  change List.lookup x ((if(k == NameKind.free&&env.scope.kind == .function&&env.kindOf n == some .cell)=true then(n,NameKind.cell)else(n,k))::_)=_ at h
  cases hx:x == n with
  |true =>
   by_cases hc:(k == NameKind.free&&env.scope.kind == .function&&env.kindOf n == some .cell)=true
   ·rw[if_pos hc]at h
    simp only[List.lookup_cons,hx]at h
    cases h
    have hk:k=.free:=by simp at hc;exact hc.1.1
    subst hk
    exact .inr ⟨rfl,by simp only[List.lookup_cons,hx]⟩
   ·rw[if_neg hc]at h
    simp only[List.lookup_cons,hx]at h
    cases h
    exact .inl (by simp only[List.lookup_cons,hx])
  |false =>
   by_cases hc:(k == NameKind.free&&env.scope.kind == .function&&env.kindOf n == some .cell)=true
   ·rw[if_pos hc]at h
    simp only[List.lookup_cons,hx]at h⊢
    exact ih h
   ·rw[if_neg hc]at h
    simp only[List.lookup_cons,hx]at h⊢
    exact ih h
theorem jd{env:Env}:∀{names:List (Str×NameKind)}{x:Str},names.lookup x=some .free ->
  (names.map fun(n,k)=>if(k == NameKind.free&&env.scope.kind == .function&&env.kindOf n == some .cell)then(n,NameKind.cell)else(n,k)).lookup x=some .cell \/
  (names.map fun(n,k)=>if(k == NameKind.free&&env.scope.kind == .function&&env.kindOf n == some .cell)then(n,NameKind.cell)else(n,k)).lookup x=some .free
 | [],_,h=>by simp at h
 |(n,k)::r,x,h=>by
  have ih:=@jd env r x
  show List.lookup x ((if(k == NameKind.free&&env.scope.kind == .function&&env.kindOf n == some .cell)=true then(n,NameKind.cell)else(n,k))::_)=_\/List.lookup x ((if(k == NameKind.free&&env.scope.kind == .function&&env.kindOf n == some .cell)=true then(n,NameKind.cell)else(n,k))::_)=_
  cases hx:x == n with
  |true =>
   simp only[List.lookup_cons,hx]at h
   cases h
   by_cases hc:(NameKind.free == NameKind.free&&env.scope.kind == .function&&env.kindOf n == some .cell)=true
   ·rw[if_pos hc];exact .inl (by simp only[List.lookup_cons,hx])
   ·rw[if_neg hc];exact .inr (by simp only[List.lookup_cons,hx])
  |false =>
   simp only[List.lookup_cons,hx]at h
   by_cases hc:(k == NameKind.free&&env.scope.kind == .function&&env.kindOf n == some .cell)=true
   ·rw[if_pos hc];simp only[List.lookup_cons,hx];exact ih h
   ·rw[if_neg hc];simp only[List.lookup_cons,hx];exact ih h
section
variable {prog:Program}{w:World}{A:Around}{R:Result->Shared->Prop}{s:Shared}
theorem dS{elt target iter:Expr}{ifs:List Expr}{scope:Scope}{pos:Pos}{it acc:Value}{env:Env}{E:Value->Shared->Prop}(I:Nat->Shared->Prop)
  (turn:∀n s,I n s->wpAny (model prog w) A (pyNext it) (fun r s₁=>match r with
   |none=>R (.ok .next) s₁
   |some v=>wpAny (model prog w) A (letOwnedTupleGo target it v) (fun _ s₁'=>wpAny (model prog w) A (assign target env v) (fun _ s₂ =>
     wpAny (model prog w) A (forIn ifs true fun c r=>if r=true then do let ok ←isTrue c env (eval c env);pure (ForInStep.yield ok)else pure (ForInStep.yield r)) (fun ok s₃ =>
      if ok=true then wpAny (model prog w) A (eval elt env) (fun x s₄ =>
       wpAny (model prog w) A (call (.builtin "list.append") [acc,x]) (fun _ s₅=>∃m,m<n/\I m s₅) E s₄) E s₃
      else ∃m,m<n/\I m s₃) E s₂) E s₁') E s₁) E s)
  (hE:∀e s',E e s'->notedBy (model prog w) A env (fun e s'=>R (.error e) s') e s')
  (n:Nat) (h:I n s) :
  codeAny (model prog w) A (.compLoop (.ListComp elt [⟨target,iter,ifs,0⟩] scope pos) 0 it acc env) R s:=by
 refine codeAny_loop rfl I (fun n s hI=>?_) n h
 show wpAny _ A ((compTurn (.ListComp elt [⟨target,iter,ifs,0⟩] scope pos) 0 it acc env).onRaise (fun x=>do noteFrame x env;theTreesLotGoes x)) _ _ s
 refine wpAny_noted ?_
 rw[compTurn_list]
 refine wpAny_bind (wpAny_standAt (wpAny_bind (wpAny_mono (turn n s hI) (fun r s₁ h₁=>?_) hE)))
 cases r with
 |none=>exact wpAny_pure h₁
 |some v =>
  refine wpAny_bind (wpAny_mono h₁ (fun _ s₁' h₁'=>?_) hE)
  refine wpAny_bind (wpAny_mono h₁' (fun _ s₂ h₂=>wpAny_bind (wpAny_mono h₂ (fun ok s₃ h₃=>?_) hE)) hE)
  cases ok with
  |false=>exact wpAny_pure ⟨rfl,h₃⟩
  |true =>
   exact wpAny_bind (wpAny_bind (wpAny_mono h₃ (fun x s₄ h₄=>wpAny_bind (wpAny_mono h₄ (fun _ s₅ h₅=>wpAny_pure (wpAny_pure ⟨rfl,h₅⟩)) hE)) hE))
end
noncomputable def aY(X:Cx)(scope:Scope)(N':List Str)(fp:List Addr)(C:Addr)(s₂:Shared)(H₂:Hp):Cx where
 prog:=X.prog
 w:=X.w
 K:=X.K
 mg:=X.mg
 base:=X.base
 A:=X.A
 N:=N'
 s₀:=s₂
 H₀:=H₂
 env:=compEnvC scope (bL X.env scope.names []) C X.env
 outer:=X.stack
 stack:=X.stack
 ex:=fp
 fn:=fun _=>false
 calm:=X.calm
 pn:=[]
 xe:=fun _ _=>False
noncomputable def sY(X:Cx)(ifs:List Expr)(t:TT):Prop :=
 ∀(pins:List (Addr×Obj)) (s:Shared) (σ:St) (H:Hp) (Q:Bool->Hp->Prop),Inv X pins σ H s->t σ H Q ->
  wpAny (model X.prog X.w) X.A (forIn ifs true fun c r=>if r=true then do let ok ←isTrue c X.env (eval c X.env);pure (ForInStep.yield ok)else pure (ForInStep.yield r)) (TP X pins σ Q) X.xe s
noncomputable def jL:TT:=fun _ H Q=>Q true H
theorem fE{X:Cx}:sY X [] jL:=fun pins s σ H Q I h=>by
 rw[List.forIn_nil]
 exact wpAny_pure ⟨H,I,h⟩
theorem kB{X:Cx}{c:Expr}{t:TT}(hc:PT X c t):sY X [c] t:=fun pins s σ H Q I h=>by
 simp only[List.forIn_cons,List.forIn_nil,if_true]
 exact wpAny_bind (wpAny_bind (wpAny_mono (hc pins s σ H Q I h) (fun b s' hb=>wpAny_pure (wpAny_pure hb)) fun _ _ x=>x))
noncomputable def fb(own:Nat)(fr:List Nat)(σ:St):St:=List.replicate own none++fr.map fun j=>(σ[j]?).join
noncomputable def fF(J:It)(g:TG)(tt:TT)(te:TE)(Q:VK)(σ0:St)(H0:Hp):Prop:=∃W:Nat->Nat->St->List V->Hp->Prop,(∃m,W 0 m σ0 [] H0)/\∀i m σ' vs H,W i m σ' vs H ->
 (J.stop i H/\vs.length<=sizeLine/\∀p,H p=none->Q (.ref p) (upd H p (.lst vs))) \/
 (J.go i H/\vs.length<sizeLine/\∃N:St->List V->Hp->Prop,(∀σ2 vs2 H2,N σ2 vs2 H2->∃m',m' < m/\W (i+1) m' σ2 vs2 H2)/\∀x H',J.yld i H x H'->g x σ' H' fun σ2 H2=>tt σ2 H2 fun ok H3 =>
  if ok=true then te σ2 H3 fun v H4=>N σ2 (vs++[v]) H4 else N σ2 vs H3)
noncomputable def oK(own:Nat)(fr:List Nat)(wi:TI)(g:TG)(tt:TT)(te:TE):TE:=fun σ H Q=>wi σ H fun J H1=>fF J g tt te Q (fb own fr σ) H1
section
variable {X:Cx}{pins:List (Addr×Obj)}{σ:St}{H:Hp}{s:Shared}
theorem uU{own:List Str}{fr:List Nat}(hl:σ.length=X.N.length){i:Nat}{x:Str}{v:V}(h1:(own++fr.map fun j=>X.N.getD j Str.empty)[i]?=some x)(h2:(fb own.length fr σ)[i]?=some (some v)) :
  ∃j∈fr,X.N[j]?=some x/\X.N.getD j Str.empty=x/\σ[j]?=some (some v):=by
 unfold fb at h2
 by_cases hi:i<own.length
 ·rw[List.getElem?_append_left (by simpa using hi),List.getElem?_replicate,if_pos hi]at h2
  cases h2
 ·rw[List.getElem?_append_right (by simpa using hi),List.length_replicate,List.getElem?_map]at h2
  rw[List.getElem?_append_right (by omega),List.getElem?_map]at h1
  cases e:fr[i-own.length]? with
  |none=>rw[e]at h2;cases h2
  |some j =>
   rw[e]at h1 h2
   simp only[Option.map_some,Option.some.injEq]at h1 h2
   have hj:σ[j]?=some (some v):=by
    cases q:σ[j]? with
    |none=>rw[q]at h2;cases h2
    |some o=>rw[q]at h2;exact congrArg some h2
   have hjl:j<X.N.length:=by rw[←hl];exact(List.getElem?_eq_some_iff.mp hj).1
   refine⟨j,List.mem_of_getElem? e,?_,h1,hj⟩
   rw[←h1,List.getD_eq_getElem?_getD,List.getElem?_eq_getElem hjl]
   rfl
theorem kD{scope:Scope}{own:List Str}{fr:List Nat}{fp:List Addr}{C:Addr}{h₁:Heap}{tk:Nat}{m:Str->Option Value}(I:Inv X pins σ H s)
  (hkind:scope.kind=.function) (hcell:∀x∈scope.names,x.2≠.cell) (hfr:∀x∈scope.names,x.2=.free->X.env.scope.names.lookup x.1=some .cell\/X.env.scope.names.lookup x.1=some .free)
  (hin:∀j∈fr,scope.names.lookup (X.N.getD j Str.empty)=some .free) (hC:s.heap.objs.size<=C) (hf:∀b∈fp,jT X pins H b) (hfo:∀b∈fp,b<s.heap.objs.size)
  (old:∀b o,s.heap.get? b=some o->h₁.get? b=some o) (hn:h₁.Ns C m) :
  Inv (aY X scope (own++fr.map fun j=>X.N.getD j Str.empty) fp C s H) [] (fb own.length fr σ) H {s with heap:=h₁,toks:=tk}:=by
 have hfree:∀x∈scope.names,x.2=.free->∃c,X.env.cells.lookup x.1=some c:=fun x hx e=>I.ok.has x.1 (hfr x hx e)
 have sub:∀y c,(bL X.env scope.names []).lookup y=some c->X.env.cells.lookup y=some c:=ef _ _ hfree (by intro y c e;simp at e)
 have hasF:∀y,scope.names.lookup y=some .free->∃c,(bL X.env scope.names []).lookup y=some c:=fun y e=>jc _ _ _ (PySem.mem_of_lookup e)
 refine⟨⟨I.ok.mod,?_,I.ok.glob,I.ok.blt,hC,fun x y c h1 h2=>I.ok.inj x y c (sub x c h1) (sub y c h2),fun x hx=>?_,(fun x c hx=>nomatch hx),I.ok.hd,I.ok.frames,.inl rfl,fun b hb=>?_,I.bs,Nat.le_trans I.ok.bsz I.sz,fun b o e hb=>?_,fun b hb z=>?_,I.stack,I.qR⟩,
  rfl,I.bare,Un.kept old,⟨m,hn,fun i x v h1 h2 h3=>?_⟩,fun x c e=>?_,I.hok.fresh hC,fun x c e=>I.freeC x c (sub x c e),fun p hp=>absurd (show p∈([]:List (Addr×Obj))from hp) (by simp),I.hok.kept old,?_⟩
 ·exact hkind
 ·have hx':(relabel scope X.env).names.lookup x=some .cell\/(relabel scope X.env).names.lookup x=some .free:=hx
  have hx2:scope.names.lookup x=some .free:=by
   rcases hx' with e|e
   ·rcases fu e with e|⟨_,e⟩
    ·exact absurd rfl (hcell _ (PySem.mem_of_lookup e))
    ·exact e
   ·rcases fu e with e|⟨z,_⟩
    ·exact e
    ·cases z
  exact hasF x hx2
 ·refine⟨Nat.ne_of_lt (Nat.lt_of_lt_of_le (hfo b hb) hC),fun x c e=>(hf b hb).2.2.2.2.1 x c (sub x c e)⟩
 ·rcases(hf b hb).2.2.2.1 with z|z
  ·exact I.ok.noex b o e z
  ·exact absurd (Nat.lt_of_lt_of_le (Heap.lt_size e) (Nat.le_trans I.ok.bsz z)) (Nat.lt_irrefl _)
 ·have hb':b∈fp:=hb
  have z':b∈frs X.stack:=z
  rcases List.mem_cons.mp (I.j7 b z')with e|e
  ·exact(hf b hb').2.1 e
  ·exact(hf b hb').2.2.1 e
 ·obtain⟨j,hj,e1,e2,e3⟩:=uU (own:=own) I.len h1 h2
  have hxf:scope.names.lookup x=some .free:=by rw[←e2];exact hin j hj
  have hk:=hfr _ (PySem.mem_of_lookup hxf) rfl
  obtain⟨m0,hn0,hl0⟩:=I.loc
  obtain⟨u,r,l⟩:=hl0 j x v e1 e3 (.inr hk)
  refine⟨u,r,?_⟩
  rcases l with⟨k,_⟩|⟨_,c,ec,z⟩
  ·have k':X.env.scope.names.lookup x=some .local:=k
   rcases hk with q|q<;>(rw[show X.env.scope.names.lookup x=_ from q]at k';cases k')
  ·obtain⟨c',ec'⟩:=hasF x hxf
   have:=sub x c' ec'
   rw[ec]at this
   cases this
   obtain⟨o,ho,hd⟩:=z
   exact .inr ⟨jd hxf,c,ec',o,old c o ho,hd⟩
 ·obtain⟨v,o,ho,hd⟩:=I.cell x c (sub x c e)
  exact⟨v,o,old c o ho,hd⟩
 ·show(fb own.length fr σ).length=(own++fr.map fun j=>X.N.getD j Str.empty).length
  simp[fb]
theorem kE{scope:Scope}{N':List Str}{fp:List Addr}{C D:Addr}{s':Shared}{H':Hp}{σ':St}{pins':List (Addr×Obj)}{vs:List V}{ys:Array Value}{h'':Heap}(I:Inv X pins σ H s)(hf:∀b∈fp,jT X pins H b)
  (I':Inv (aY X scope N' fp C s H) pins' σ' H' s') (hC:s.heap.objs.size<=C) (hD:s.heap.objs.size<=D) (hDC:D≠C) (hDn:H' D=none) (pl:s'.heap.PlainList D ys) (rv:Vals vs ys.toList) (hz:vs.length<=sizeLine) (hs:Heap.SameBut C s'.heap h'') :
  Inv X pins σ (upd H' D (.lst vs)) {s' with heap:=h''}:=by
 have un:Un (frs X.stack) fp H H' s.heap s'.heap:=I'.base
 have hCn:H' C=none:=I'.free
 have at':∀b,b≠C->h''.get? b=s'.heap.get? b:=fun b hb=>hs.2 b hb
 have neC:∀b o,s.heap.get? b=some o->b≠C:=fun b o e=>Nat.ne_of_lt (Nat.lt_of_lt_of_le (Heap.lt_size e) hC)
 have neD:∀b o,s.heap.get? b=some o->b≠D:=fun b o e=>Nat.ne_of_lt (Nat.lt_of_lt_of_le (Heap.lt_size e) hD)
 have okHD:∀b u,H b=some u->b≠D:=fun b u e=>Nat.ne_of_lt (Nat.lt_of_lt_of_le (I.hok.lt e) hD)
 have un':Un (frs X.stack) fp H (upd H' D (.lst vs)) s.heap h'':=by
  refine⟨fun b o e n h1 h2=>?_,fun b o e n h1 h2=>?_,fun b o e n h2=>?_,fun b o e h2=>?_,fun b xs e=>?_,fun b o u e=>?_,fun b ps e=>?_⟩
  ·rw[at' b (neC b o e)];exact un.keep b o e n h1 h2
  ·rw[at' b (neC b o e)];exact un.slot b o e n h1 h2
  ·rw[aq (neD b o e)];exact un.free b o e n h2
  ·rw[at' b (neC b o e)];exact un.there b o e h2
  ·rw[aq (okHD b _ e)];exact un.tups b xs e
  ·rw[aq (okHD b _ e)];exact un.frzs b o u e
  ·rw[aq (okHD b _ e)];exact un.tbls b ps e
 have hok:iV X.prog X.w (upd H' D (.lst vs)) h'':=fun b u e=>by
  by_cases hb:b=D
  ·subst hb
   rw[af]at e
   cases e
   obtain⟨n,ho⟩:=pl
   refine⟨hz,ys.toList,n,rv,?_⟩
   rw[at' b hDC]
   simpa using ho
  ·rw[aq hb]at e
   refine(I'.hok b u e).stay (fun c v hc q=>?_) (fun c q=>?_) fun c xs q=>?_
   ·rw[at' c ?_];exact q
    rintro rfl
    rcases hc with z|z
    ·rw[←z,hCn]at e;cases e
    ·rw[hCn]at z;cases z
   ·rw[aq (fun z=>by rw[z,hDn]at q;cases q)];exact q
   ·rw[aq (fun z=>by rw[z,hDn]at q;cases q)];exact q
 exact I.AZ (s':={s' with heap:=h''}) (ch:=fp) I'.os un' hok I'.bare fun b hb=>⟨(hf b hb).2.2.2.1,(hf b hb).2.1,(hf b hb).2.2.2.2.1,(hf b hb).2.2.2.2.2⟩
end
section
variable {X:Cx}
theorem xE{elt iter tg:Expr}{ifs:List Expr}{scope:Scope}{pos:Pos}{wi:TI}{g:TG}{tt:TT}{te:TE}(own:List Str)(fr:List Nat)(hc:X.calm=true)
  (hkind:scope.kind=.function) (hcell:∀x∈scope.names,x.2≠.cell) (hnames:∀x∈scope.names,x.2=.local->scope.names.lookup x.1=some .local)
  (hfr:∀x∈scope.names,x.2=.free->X.env.scope.names.lookup x.1=some .cell\/X.env.scope.names.lookup x.1=some .free)
  (hin:∀j∈fr,scope.names.lookup (X.N.getD j Str.empty)=some .free)
  (hi:PI X tg iter wi) (hg:∀fp C s H,PG (aY X scope (own++fr.map fun j=>X.N.getD j Str.empty) fp C s H) tg g)
  (ht:∀fp C s H,sY (aY X scope (own++fr.map fun j=>X.N.getD j Str.empty) fp C s H) ifs tt)
  (he:∀fp C s H,PE (aY X scope (own++fr.map fun j=>X.N.getD j Str.empty) fp C s H) elt te)
  (hs:∀x,foldedSetIterable iter X.env x=pure x:=by intro _;rfl):PE X (.ListComp elt [⟨tg,iter,ifs,0⟩] scope pos) (oK own.length fr wi g tt te):=by
 intro pins s σ H Q I h
 rw[eval_ListComp]
 have hfree:∀x∈scope.names,x.2=.free->∃c,X.env.cells.lookup x.1=some c:=fun x hx e=>I.ok.has x.1 (hfr x hx e)
 refine wpAny_comprehension_free (use:=none) rfl hs (iK hfree) hkind hnames ?_
 refine bR (hi pins s σ H _ I h) fun v s1 h1=>bR h1 fun itv s2 h2=>?_
 obtain⟨it,fp,tn,J,H2,e,I2,T,st2,f2,W,⟨m0,w0⟩,turn⟩:=h2
 subst e
 have hfo:∀b∈fp,b<s2.heap.objs.size:=fun b hb=>by obtain⟨o,e,_⟩:=T.obj 0 _ st2 b hb;exact Heap.lt_size e
 refine wpAny_newObj_type (wpAny_newFunctionEnv hcell (by intro y hy;simp at hy) (fun h₁ hns₁ hsb₁=>?_) hkind)
 dsimp only at hns₁ hsb₁⊢
 generalize hH2:s2.heap.push {cls:=.type "list",dict:=none,data:=.seq ([]:List Value).toArray}=G2 at hns₁ hsb₁⊢
 have hC:G2.objs.size=s2.heap.objs.size+1:=by rw[←hH2,Heap.size_push]
 have hDC:s2.heap.objs.size≠G2.objs.size:=by rw[hC];exact Nat.ne_of_lt (Nat.lt_succ_self _)
 have hCle:s2.heap.objs.size<=G2.objs.size:=by rw[hC];exact Nat.le_succ _
 have old:∀b o,s2.heap.get? b=some o->h₁.get? b=some o:=fun b o e=>hsb₁.extBut b o (by rw[hC];exact Nat.ne_of_lt (Nat.lt_succ_of_lt (Heap.lt_size e))) (Heap.get?_push_of_some _ (hH2▸Heap.get?_push_of_some _ e))
 have hacc:h₁.PlainList s2.heap.objs.size #[]:=⟨_,hsb₁.extBut _ _ hDC (Heap.get?_push_of_some _ (hH2▸Heap.get?_push_size _ rfl))⟩
 have I3:Inv (aY X scope (own++fr.map fun j=>X.N.getD j Str.empty) fp G2.objs.size s2 H2) [] (fb own.length fr σ) H2 {s2 with heap:=h₁,toks:=s2.toks+([]:List (Str×Value)).length} :=
  kD I2 hkind hcell hfr hin hCle f2 hfo old hns₁
 have st3:tn 0 h₁:=T.keep 0 _ _ st2 fun b _ o e=>old b o e
 have hDf:s2.heap.objs.size∉fp:=fun hm=>Nat.lt_irrefl _ (hfo _ hm)
 have hDn2:H2 s2.heap.objs.size=none:=I2.hok.fresh (Nat.le_refl _)
 have sub:∀y c,(bL X.env scope.names []).lookup y=some c->X.env.cells.lookup y=some c:=ef _ _ hfree (by intro y c e;simp at e)
 have cellD:∀y c,(bL X.env scope.names []).lookup y=some c->c≠s2.heap.objs.size:=fun y c e=>by
  obtain⟨_,o,ho,_⟩:=I2.cell y c (sub y c e)
  exact Nat.ne_of_lt (Heap.lt_size ho)
 have Dfs:s2.heap.objs.size∉frs X.stack:=fun z=>by
  rcases List.mem_cons.mp (I2.j7 _ z)with e|e
  ·exact absurd I2.lt (by rw[←e];exact Nat.lt_irrefl _)
  ·exact I2.wW (Nat.le_refl _) e
 -- the iterator's records,in the block's context
 have stat:∀{H':Hp}{pl:List (Addr×Obj)},(∀b∈fp,H' b=none)->(∀p∈pl,p.1=s2.heap.objs.size)->∀b∈fp,jT (aY X scope (own++fr.map fun j=>X.N.getD j Str.empty) fp G2.objs.size s2 H2) pl H' b:=fun{H' pl} hn hp b hb=>by
  refine⟨hn b hb,(I3.ok.exf b hb).1,I3.ok.exfs b hb,.inl hb,(I3.ok.exf b hb).2,fun p hpp z=>?_⟩
  have hpp':p∈pl:=by simpa[aY]using hpp
  exact hDf (by rw[←hp p hpp',z];exact hb)
 have pinD:∀{σ':St}{H':Hp}{s':Shared}{ys:Array Value}{n:Nat},Inv (aY X scope (own++fr.map fun j=>X.N.getD j Str.empty) fp G2.objs.size s2 H2) [] σ' H' s'->H' s2.heap.objs.size=none->s'.heap.get? s2.heap.objs.size=some {cls:=.type "list",data:=.seq ys n} ->
   Inv (aY X scope (own++fr.map fun j=>X.N.getD j Str.empty) fp G2.objs.size s2 H2) [(s2.heap.objs.size,{cls:=.type "list",data:=.seq ys n})] σ' H' s':=fun{σ' H' s' ys n} J hn e=>J.dN fun p hp=>by
  have e':p=(s2.heap.objs.size,{cls:=.type "list",data:=.seq ys n}):=by simpa using hp
  subst e'
  exact⟨e,hn,hDC,Dfs,fun v z=>nomatch z⟩
 have loop:codeAny (model X.prog X.w) X.A (.compLoop (.ListComp elt [⟨tg,iter,ifs,0⟩] scope pos) 0 (.ref it) (.ref s2.heap.objs.size) (compEnvC scope (bL X.env scope.names []) G2.objs.size X.env))
   (compPost (model X.prog X.w) X.A X.xe none (EP X pins σ Q) (.ref s2.heap.objs.size) G2.objs.size) {s2 with heap:=h₁,toks:=s2.toks+([]:List (Str×Value)).length}:=by
  refine dS (E:=fun _ _=>False) (fun n s'=>∃i σ' H' vs ys,Inv (aY X scope (own++fr.map fun j=>X.N.getD j Str.empty) fp G2.objs.size s2 H2) [] σ' H' s'/\tn i s'.heap/\(∀b∈fp,H' b=none)/\H' s2.heap.objs.size=none/\s'.heap.PlainList s2.heap.objs.size ys/\Vals vs ys.toList/\W i n σ' vs H')
   ?_ (fun _ _ z=>z.elim) m0 ⟨0,_,H2,[],#[],I3,st3,fun b hb=>(f2 b hb).1,hDn2,hacc,.nil,w0⟩
  rintro n s3 ⟨i,σ3,H3,vs,ys,J3,st3,fr3,dn3,⟨pn,pl3⟩,rv,w3⟩
  have J3':=pinD J3 dn3 pl3
  have hpins:∀p∈[(s2.heap.objs.size,({cls:=.type "list",data:=.seq ys pn}:Obj))],p.1=s2.heap.objs.size:=fun p hp=>by
   have e':p=(s2.heap.objs.size,{cls:=.type "list",data:=.seq ys pn}):=by simpa using hp
   rw[e']
  rcases turn i n σ3 vs H3 w3 with⟨stop,hz,q⟩|⟨go,hz,N,hN,step⟩
  ·refine bR (T.done (aY X scope (own++fr.map fun j=>X.N.getD j Str.empty) fp G2.objs.size s2 H2) rfl rfl rfl hc i _ s3 σ3 H3 (fun _ _=>False) J3' (stat fr3 hpins) st3 stop) fun r s4 ⟨hr,J4⟩=>?_
   subst hr
   obtain⟨m4,hn4,_⟩:=id J4.loc
   refine⟨m4,hn4,fun h' hs'=>?_⟩
   have e4:s4.heap.get? s2.heap.objs.size=some {cls:=.type "list",data:=.seq ys pn}:=(J4.pin (s2.heap.objs.size,{cls:=.type "list",data:=.seq ys pn}) (List.mem_append_right _ (by simp))).1
   exact⟨.ref s2.heap.objs.size,_,kE I2 f2 J4 hCle (Nat.le_refl _) hDC dn3 ⟨pn,e4⟩ rv hz hs',rfl,q _ dn3⟩
  ·refine bR (T.item (aY X scope (own++fr.map fun j=>X.N.getD j Str.empty) fp G2.objs.size s2 H2) rfl rfl rfl hc i _ s3 σ3 H3 (fun _ _=>False) J3' (stat fr3 hpins) st3 go) fun r s4 ⟨u,hr,h4⟩=>?_
   subst hr
   refine bR h4 fun _ s5 ⟨x,H5,J5,r5,y5,st5,fr5⟩=>?_
   have J5':=J5.pinned (stat fr5 hpins) (T.obj _ _ st5)
   refine bR (hg fp _ s2 H2 _ s5 σ3 H5 x u _ J5' r5 (step x H5 y5)) fun _ s6 ⟨σ6,H6,J6,q6⟩=>?_
   refine bR (ht fp _ s2 H2 _ s6 σ6 H6 _ J6 q6) fun ok s7 ⟨H7,J7,q7⟩=>?_
   -- what stood pinned through the turn
   have after:∀{s8:Shared}{H8:Hp},Inv (aY X scope (own++fr.map fun j=>X.N.getD j Str.empty) fp G2.objs.size s2 H2) ([(s2.heap.objs.size,({cls:=.type "list",data:=.seq ys pn}:Obj))]++jx fp s5.heap) σ6 H8 s8 ->
     tn (i+1) s8.heap/\(∀b∈fp,H8 b=none)/\H8 s2.heap.objs.size=none/\s8.heap.get? s2.heap.objs.size=some {cls:=.type "list",data:=.seq ys pn}:=fun{s8 H8} J8=>by
    refine⟨T.keep _ _ _ st5 fun b hb o e=>(J8.pin (b,o) (List.mem_append_right _ (List.mem_append_right _ (di hb e)))).1,fun b hb=>?_,?_,?_⟩
    ·obtain⟨o,e,d⟩:=T.obj _ _ st5 b hb
     exact(J8.pin (b,o) (List.mem_append_right _ (List.mem_append_right _ (di hb e)))).2.1
    ·exact(J8.pin (s2.heap.objs.size,{cls:=.type "list",data:=.seq ys pn}) (List.mem_append_right _ (List.mem_append_left _ (by simp)))).2.1
    ·exact(J8.pin (s2.heap.objs.size,{cls:=.type "list",data:=.seq ys pn}) (List.mem_append_right _ (List.mem_append_left _ (by simp)))).1
   cases ok with
   |false =>
    obtain⟨m',hm,w7⟩:=hN _ _ _ q7
    obtain⟨a1,a2,a3,a4⟩:=after J7
    exact⟨m',hm,i+1,σ6,H7,vs,ys,J7.dN (fun p hp=>absurd hp (by simp)),a1,a2,a3,⟨pn,a4⟩,rv,w7⟩
   |true =>
    refine bR (he fp _ s2 H2 _ s7 σ6 H7 _ J7 q7) fun y s8 ⟨v8,H8,J8,r8,n8⟩=>?_
    obtain⟨m',hm,w8⟩:=hN _ _ _ n8
    obtain⟨a1,a2,a3,a4⟩:=after J8
    have J9:Inv (aY X scope (own++fr.map fun j=>X.N.getD j Str.empty) fp G2.objs.size s2 H2) [] σ6 H8 s8:=J8.dN (fun p hp=>absurd hp (by simp))
    have hys:ys.size<=sizeLine:=by
     have e1:vs.length=ys.toList.length:=rv.length
     have e2:ys.toList.length=ys.size:=by simp
     omega
    refine wpAny_list_append_plain (hsz:=hys) ⟨pn,a4⟩ fun h₅ hl₅ hs₅=>?_
    refine⟨m',hm,i+1,σ6,H8,vs++[v8],ys.push y,J9.turned (t':=s8.toks) (it:=s2.heap.objs.size) (fun b o hb e=>by rw[hs₅.2 b hb];exact e) a3 hDC (.inr (Nat.le_refl _)) cellD (fun p hp=>absurd (show p∈([]:List (Addr×Obj))from hp) (by simp)),
     T.keep _ _ _ a1 fun b hb o e=>(hs₅.2 b (fun z=>hDf (z▸hb))).trans e,a2,a3,hl₅,?_,w8⟩
    have:Vals (vs++[v8]) (ys.toList++[y]):=rv.append (.cons r8 .nil)
    simpa using this
 exact codeAny_compStart_list loop (T.self X.A 0 _ _ _ st3 loop)
end
noncomputable def nF(scope sc:Scope)(N0:List Str)(fr:List Nat):Bool :=
 scope.kind == .function&&scope.names.all (fun x=>x.2 != .cell&&(x.2 != .local||scope.names.lookup x.1 == some .local)&&(x.2 != .free||sc.names.lookup x.1 == some .cell||sc.names.lookup x.1 == some .free)) &&
  fr.all (fun j=>scope.names.lookup (N0.getD j Str.empty) == some .free)
theorem fG{X:Cx}{elt iter tg:Expr}{ifs:List Expr}{scope:Scope}{pos:Pos}{wi:TI}{g:TG}{tt:TT}{te:TE}(sc:Scope)(N0 own:List Str)(fr:List Nat)(hc:X.calm=true)(hsc:X.env.scope=sc)(hN:X.N=N0)
  (ok:nF scope sc N0 fr=true) (hi:PI X tg iter wi) (hg:∀fp C s H,PG (aY X scope (own++fr.map fun j=>N0.getD j Str.empty) fp C s H) tg g)
  (ht:∀fp C s H,sY (aY X scope (own++fr.map fun j=>N0.getD j Str.empty) fp C s H) ifs tt)
  (he:∀fp C s H,PE (aY X scope (own++fr.map fun j=>N0.getD j Str.empty) fp C s H) elt te)
  (hs:∀x,foldedSetIterable iter X.env x=pure x:=by intro _;rfl):PE X (.ListComp elt [⟨tg,iter,ifs,0⟩] scope pos) (oK own.length fr wi g tt te):=by
 subst hsc hN
 unfold nF at ok
 simp only[Bool.and_eq_true,List.all_eq_true,bne_iff_ne,beq_iff_eq,Bool.or_eq_true]at ok
 obtain⟨⟨k1,k2⟩,k3⟩:=ok
 refine xE own fr hc k1 (fun x hx=>(k2 x hx).1.1) (fun x hx e=>?_) (fun x hx e=>?_) (fun j hj=>k3 j hj) hi hg ht he hs
 ·rcases(k2 x hx).1.2 with z|z
  ·exact absurd e z
  ·exact z
 ·rcases(k2 x hx).2 with(z|z)|z
  ·exact absurd e z
  ·exact .inl z
  ·exact .inr z
section
variable {g:TG}{tt:TT}{te:TE}{Q:VK}{σ0:St}{H0:Hp}
theorem j0{J:It}(n:Nat)(Pv:Nat->St->List V->Hp->Prop)(h0:Pv 0 σ0 [] H0)(hlen:∀i σ vs H,i<=n->Pv i σ vs H->vs.length<=i)(hn:n<=sizeLine)(hgo:∀i σ vs H,i<n->Pv i σ vs H->J.go i H)(hst:∀σ vs H,Pv n σ vs H->J.stop n H)
  (hs:∀i σ vs H x H',i<n->Pv i σ vs H->J.yld i H x H'->g x σ H' fun σ2 H2=>tt σ2 H2 fun ok H3=>if ok=true then te σ2 H3 fun v H4=>Pv (i+1) σ2 (vs++[v]) H4 else Pv (i+1) σ2 vs H3)
  (hd:∀σ vs H,Pv n σ vs H->∀p,H p=none->Q (.ref p) (upd H p (.lst vs))):fF J g tt te Q σ0 H0:=by
 refine⟨fun i m σ vs H=>m=n-i/\i<=n/\Pv i σ vs H,⟨n,by simp,Nat.zero_le _,h0⟩,?_⟩
 rintro i m σ vs H ⟨rfl,hi,p⟩
 have hv:=hlen i σ vs H hi p
 by_cases hlt:i<n
 ·exact .inr ⟨hgo i σ vs H hlt p,by omega,Pv (i+1),fun σ2 vs2 H2 q=>⟨n - (i+1),by omega,rfl,hlt,q⟩,fun x H' y=>hs i σ vs H x H' hlt p y⟩
 ·have e:i=n:=by omega
  subst e
  exact .inl ⟨hst σ vs H p,by omega,hd σ vs H p⟩
theorem iR{lo:Int}{n:Nat}(Pv:Nat->St->List V->Hp->Prop)(h0:Pv 0 σ0 [] H0)(hlen:∀i σ vs H,i<=n->Pv i σ vs H->vs.length<=i)(hn:n<=sizeLine)
  (hs:∀i σ vs H,i<n->Pv i σ vs H->g (.int (lo+i)) σ H fun σ2 H2=>tt σ2 H2 fun ok H3=>if ok=true then te σ2 H3 fun v H4=>Pv (i+1) σ2 (vs++[v]) H4 else Pv (i+1) σ2 vs H3)
  (hd:∀σ vs H,Pv n σ vs H->∀p,H p=none->Q (.ref p) (upd H p (.lst vs))):fF (zD lo n) g tt te Q σ0 H0 :=
 j0 n Pv h0 hlen hn (fun _ _ _ _ h _=>h) (fun _ _ _ _=>Nat.le_refl _) (fun i σ vs H x H' hi p y=>by obtain⟨rfl,rfl⟩:=y;exact hs i σ vs _ hi p) hd
theorem cy{K:PySem.W.Frag}{a:Addr}{xs:List V}(Pv:Nat->St->List V->Hp->Prop)(h0:Pv 0 σ0 [] H0)(hlen:∀i σ vs H,i<=xs.length->Pv i σ vs H->vs.length<=i)(hn:xs.length<=sizeLine)(hl:∀i σ vs H,i<=xs.length->Pv i σ vs H->bJ K H a xs)
  (hs:∀i x σ vs H,xs[i]?=some x->Pv i σ vs H->g x σ H fun σ2 H2=>tt σ2 H2 fun ok H3=>if ok=true then te σ2 H3 fun v H4=>Pv (i+1) σ2 (vs++[v]) H4 else Pv (i+1) σ2 vs H3)
  (hd:∀σ vs H,Pv xs.length σ vs H->∀p,H p=none->Q (.ref p) (upd H p (.lst vs))):fF (yT K a) g tt te Q σ0 H0:=by
 refine j0 xs.length Pv h0 hlen hn (fun i σ vs H hi p=>⟨xs,xs[i],hl i σ vs H (Nat.le_of_lt hi) p,by simp[hi]⟩) (fun σ vs H p=>⟨xs,hl _ σ vs H (Nat.le_refl _) p,Nat.le_refl _⟩) (fun i σ vs H x H' hi p y=>?_) hd
 obtain⟨rfl,y⟩:=y
 exact hs i x σ vs _ (y xs (hl i σ vs _ (Nat.le_of_lt hi) p)) p
end
noncomputable abbrev nG(h:Heap)(z TI TO T:Addr)(flag:Bool):Prop :=
 h.get? z=some {cls:=.type "zip",dict:=none,data:=.fields #[rawInt T,.bool flag,.bool false,.ref TI,.ref TO],slots:=#[]}
section
variable {prog:Program}{w:World}{A:Around}{E:Value->Shared->Prop}{s:Shared}
theorem jz{z TI TO T:Addr}{flag:Bool}{oT:Obj}{Q:Bool->Shared->Prop}(hz:nG s.heap z TI TO T flag)(hT:s.heap.get? T=some oT)
  (hQ:∀h',nG h' z TI TO T true->Heap.SameBut z s.heap h'->Q false {s with heap:=h'}):wpAny (model prog w) A (Builtin.SmallTypes.ownedTupleIsFree (.ref z)) Q E s:=by
 unfold Builtin.SmallTypes.ownedTupleIsFree
 refine wpAny_bind (wpAny_field hz rfl (x:=rawInt T) rfl ?_)
 show wpAny _ _ (loadIfAlive ((T:Int).toNat)>>=_) _ _ _
 rw[Int.toNat_natCast]
 refine wpAny_bind (PySem.W.kdx_alive hT ?_)
 simp only[Option.isNone_some,Bool.false_eq_true,if_false]
 refine wpAny_bind (wpAny_field hz rfl (x:=.bool flag) rfl ?_)
 cases flag with
 |true =>
  rw[if_neg (show ¬((Value.bool true != Value.bool true)=true)from Bool.false_ne_true)]
  exact wpAny_pure (hQ s.heap hz (Heap.SameBut.refl _ _))
 |false =>
  rw[if_pos (show(Value.bool false != Value.bool true)=true from rfl)]
  exact wpAny_bind (wpAny_setField_rec hz (by simp) fun h' hz' hs'=>wpAny_pure (hQ h' hz' hs'))
end
theorem qz:typeLookup (.type "zip") "__len__"=pure none:=by rw[typeLookup_type,builtinLookup_eq_fast];kernel_rfl
theorem oM:typeLookup (.type "zip") "__length_hint__"=pure none:=by rw[typeLookup_type,builtinLookup_eq_fast];kernel_rfl
structure gp(h:Heap) (lo:Nat) (xs ys:Array Value) (as:List Nat):Prop where
 rise:as.Pairwise (· < ·)
 low:∀a∈as,lo<=a
 pairs:∀(j:Nat) (a:Nat),as[j]?=some a->∃x y,xs[j]?=some x/\ys[j]?=some y/\IsPair h a x y
theorem gp.lt{h:Heap}{lo:Nat}{xs ys:Array Value}{as:List Nat}(g:gp h lo xs ys as){a:Nat}(ha:a∈as):a<h.objs.size:=by
 obtain⟨j,hj⟩:=List.mem_iff_getElem?.mp ha
 obtain⟨_,_,_,_,e⟩:=g.pairs j a hj
 exact Heap.lt_size e
theorem gp.keep{h h':Heap}{lo:Nat}{xs ys:Array Value}{as:List Nat}(g:gp h lo xs ys as)(k:∀c o,lo<=c->h.get? c=some o->h'.get? c=some o):gp h' lo xs ys as :=
 ⟨g.rise,g.low,fun j a e=>by
  obtain⟨x,y,e1,e2,e3⟩:=g.pairs j a e
  exact⟨x,y,e1,e2,k a _ (g.low a (List.mem_of_getElem? e)) e3⟩⟩
theorem gp.snoc{h h':Heap}{lo:Nat}{xs ys:Array Value}{as:List Nat}{n:Nat}{x y:Value}(g:gp h lo xs ys as)(k:∀c o,lo<=c->h.get? c=some o->h'.get? c=some o)(hn:lo<=n)(hn2:h.objs.size<=n)(hx:xs[as.length]?=some x)(hy:ys[as.length]?=some y)(hp:IsPair h' n x y) :
  gp h' lo xs ys (as++[n]):=by
 have g':=g.keep k
 refine⟨List.pairwise_append.mpr ⟨g.rise,List.pairwise_singleton _ _,fun a ha b hb=>?_⟩,fun a ha=>?_,fun j a e=>?_⟩
 ·rw[List.mem_singleton.mp hb];exact Nat.lt_of_lt_of_le (g.lt ha) hn2
 ·rcases List.mem_append.mp ha with h|h
  ·exact g.low a h
  ·rw[List.mem_singleton.mp h];exact hn
 ·rcases Nat.lt_trichotomy j as.length with hj|hj|hj
  ·rw[List.getElem?_append_left hj]at e;exact g'.pairs j a e
  ·subst hj
   rw[List.getElem?_append_right (Nat.le_refl _),Nat.sub_self]at e
   cases e
   exact⟨x,y,hx,hy,hp⟩
  ·rw[List.getElem?_eq_none (by rw[List.length_append,List.length_singleton];omega)]at e;cases e
section
variable {prog:Program}{w:World}{A:Around}{R:Result->Shared->Prop}{s:Shared}
end
section
variable {prog:Program}{w:World}{A:Around}{E:Value->Shared->Prop}{s:Shared}
end
section
variable {X:Cx}{pins:List (Addr×Obj)}{σ:St}{H H':Hp}{s:Shared}{h':Heap}
theorem Inv.grow{t':Nat}(I:Inv X pins σ H s)(k:∀b u,s.heap.get? b=some u->h'.get? b=some u)(hH:∀b,b<s.heap.objs.size->H' b=H b)
  (hnew:∀b o,s.heap.objs.size<=b->H' b=some o->b6 X.prog X.w H' h' b o):Inv X pins σ H' {s with heap:=h',toks:=t'}:=by
 have up:∀b o,H b=some o->H' b=some o:=fun b o e=>by rw[hH b (I.hok.lt e)];exact e
 refine I.un (h':=h') ⟨fun b o e _ _ _=>k b o e,fun b o e _ _ _=>⟨o.slots,k b o e⟩,fun b o e n _=>by rw[hH b (Heap.lt_size e)];exact n,fun b o e _=>⟨o,k b o e⟩,fun b xs e=>up b _ e,fun b o u e=>up b _ e,fun b ps e=>⟨#[],by rw[up b _ e];simp⟩⟩ fun b o e=>?_
 by_cases hb:b<s.heap.objs.size
 ·rw[hH b hb]at e
  exact(I.hok b o e).stay (fun c u _ q=>k c u q) (fun c q=>up c _ q) fun c xs q=>up c _ q
 ·exact hnew b o (Nat.not_lt.mp hb) e
end
noncomputable def fY:List Nat->List V->List V->Hp->Hp
 |a::as,x::xs,y::ys,H=>upd (fY as xs ys H) a (.tup [x,y])
 |_,_,_,H=>H
theorem oN{H:Hp}{b:Nat}:∀(as:List Nat) (xs ys:List V),b∉as->fY as xs ys H b=H b
 | [],_,_,_=>by unfold fY;rfl
 |a::as,[],_,_=>by unfold fY;rfl
 |a::as,_::_,[],_=>by unfold fY;rfl
 |a::as,x::xs,y::ys,h=>by
  unfold fY
  rw[aq (fun z=>h (by rw[z];exact List.mem_cons_self))]
  exact oN as xs ys fun z=>h (List.mem_cons_of_mem _ z)
theorem rf{H:Hp}:∀(as:List Nat) (xs ys:List V),as.Pairwise (· < ·)->∀(j:Nat) (u:Nat) (x y:V),as[j]?=some u->xs[j]?=some x->ys[j]?=some y->fY as xs ys H u=some (.tup [x,y])
 | [],_,_,_,j,u,x,y,h,_,_=>by simp at h
 |a::as,[],_,_,j,u,x,y,_,h,_=>by simp at h
 |a::as,_::_,[],_,j,u,x,y,_,_,h=>by simp at h
 |a::as,x0::xs,y0::ys,hp,0,u,x,y,h1,h2,h3=>by
  simp at h1 h2 h3
  subst h1 h2 h3
  unfold fY
  exact af
 |a::as,x0::xs,y0::ys,hp,j+1,u,x,y,h1,h2,h3=>by
  simp at h1 h2 h3
  have hu:a<u:=(List.pairwise_cons.mp hp).1 u (List.mem_of_getElem? h1)
  unfold fY
  rw[aq (Nat.ne_of_gt hu)]
  exact rf as xs ys (List.pairwise_cons.mp hp).2 j u x y h1 h2 h3
theorem mF{H:Hp}{b:Nat}{o:HO}:∀(as:List Nat) (xs ys:List V),fY as xs ys H b=some o->H b=some o\/∃(j:Nat) (x y:V),as[j]?=some b/\xs[j]?=some x/\ys[j]?=some y/\o=.tup [x,y]
 | [],_,_,h=>by unfold fY at h;exact .inl h
 |a::as,[],_,h=>by unfold fY at h;exact .inl h
 |a::as,_::_,[],h=>by unfold fY at h;exact .inl h
 |a::as,x::xs,y::ys,h=>by
  unfold fY at h
  by_cases hb:b=a
  ·subst hb
   rw[af]at h
   cases h
   exact .inr ⟨0,x,y,rfl,rfl,rfl,rfl⟩
  ·rw[aq hb]at h
   rcases mF as xs ys h with e|⟨j,x',y',e1,e2,e3,e4⟩
   ·exact .inl e
   ·exact .inr ⟨j+1,x',y',by simpa using e1,by simpa using e2,by simpa using e3,e4⟩
section
variable {X:Cx}{a b:Expr}{t:TA}{p1 p2 p3 p4:Pos}
theorem mG:∀(as:List Nat),Vals (as.map V.ref) (as.map Value.ref)
 | []=>.nil
 |_::r=>.cons rfl (mG r)
end
section
variable {X:Cx}{tg:Expr}
end
section
variable {X:Cx}
theorem rh:∀{ys:List Str}{us:List Value},Vals (ys.map V.str) us->StrsAre us ys
 | [],_,.nil=>.nil
 |_::_,_,.cons ⟨t,e⟩ r=>by subst e;exact .cons _ t (rh r)
noncomputable def rJoin(K:PySem.W.Frag):V->List V->Hp->VK->Prop:=fun x vs H Q=>∃z p ys,x=.str z/\vs=[.ref p]/\bJ K H p (ys.map V.str)/\(ys.map (·.length)).sum+ys.length*z.length<=16777216/\Q (.str (Txt.join z ys)) H
theorem xF:BZ X "str.join" (rJoin X.K):=by
 intro pins s σ H x xs v us Q I rx rs h
 obtain⟨z,p,ys,rfl,rfl,hq,hb,q⟩:=h
 obtain⟨t,rfl⟩:=rx
 obtain⟨u,rfl,ru⟩:=vals1 rs
 cases ru
 obtain⟨its,rv,pl,hz⟩:=I.list hq
 exact join_list pl.isList (by simpa using rh rv) hb fun t' k=>⟨.str _,H,I.tok _,⟨_,rfl⟩,q⟩
theorem oO:∀{bs:List Bool}{us:List Value},Vals (bs.map V.bl) us->LSm.BoolsAre us bs
 | [],_,.nil=>.nil
 |_::_,_,.cons e r=>by cases e;exact .cons _ (oO r)
theorem uV(hc:X.calm=true):dO X (.builtin "all") (fun xs H Q=>∃(p:Addr) (bs:List Bool),xs=[.ref p]/\bJ X.K H p (bs.map V.bl)/\Q (.bl (bs.all id)) H):=by
 intro pins s σ H xs us Q I r h
 obtain⟨p,bs,rfl,hq,q⟩:=h
 obtain⟨u,rfl,ru⟩:=vals1 r
 cases ru
 obtain⟨its,rv,pl,hz⟩:=I.list hq
 have hb:=oO rv
 have hl:=pl.isList
 have hlt:p<s.heap.objs.size:=by obtain⟨_,e,_⟩:=hl;exact Heap.lt_size e
 refine call_all_walk (wpAny_pyIter_list hl ?_)
 refine⟨s.heap.objs.size,[s.heap.objs.size,p],[s.heap.objs.size],its.toArray.size,_,_,fun i=>(bs[i]?).getD true,rfl,Walks.list (A:=X.A.in1) (I.ok.hd hc) _ p (Nat.ne_of_lt hlt) its.toArray,
  ⟨⟨_,Heap.get?_push_size _ rfl,rfl,rfl⟩,hl.push _⟩,fun i v s' Q' E' hP hQ=>?_,fun h' tk hk=>?_⟩
 ·obtain⟨b,e,rfl⟩:=hb.get i v (by simpa using hP)
  simp only[e,Option.getD_some]at hQ
  exact wpAny_truthy_bool hQ
 ·have e:((List.range its.toArray.size).all fun i=>(bs[i]?).getD true)=bs.all id:=by
   rw[List.size_toArray,hb.length];exact LSm.range_all bs
  rw[e]
  exact⟨.bl _,H,I.kept (LSm.kept_iter hk),rfl,q⟩
noncomputable def CJ:V->Option Int->Option Int->Hp->VK->Prop:=fun x lo hi H Q=>∃z,x=.str z/\z.length<=sizeLine/\Q (.str (Txt.slice z lo hi)) H
theorem part_of{v:Value}{o:Option Int}(h:IsPart v o):∃p:Option (Int×Tok),v=partValue p/\p.map (·.1)=o:=by
 cases h with
 |none=>exact⟨none,rfl,rfl⟩
 |int i t=>exact⟨some (i,t),rfl,rfl⟩
theorem uW:BY X CJ:=by
 intro pins s σ H x v vl vu lo hi sl Q I rx hs pl pu h
 obtain⟨z,rfl,hz,q⟩:=h
 obtain⟨t,rfl⟩:=rx
 obtain⟨p1,rfl,e1⟩:=part_of pl
 obtain⟨p2,rfl,e2⟩:=part_of pu
 refine⟨"str",_,PySem.F.slot_str_getitem.lookup,typeIs_str s z t,?_⟩
 refine wpAny_getItem_str_slice (l:=p1) (u:=p2) (st:=none) hs rfl ?_
 subst e1 e2
 cases p1<;>cases p2<;>exact post_val_or_str ⟨Nat.le_trans (Txt.slice_le z _ _) hz,fun t' k=>⟨.str _,H,I.tok _,⟨_,rfl⟩,q⟩⟩
end
noncomputable def mH(xs:List V)(lo hi st:Option Int):List V:=(sliceRange (sliceBounds lo hi st xs.length).1 (sliceBounds lo hi st xs.length).2.1 (sliceBounds lo hi st xs.length).2.2).filterMap (xs[·]?)
theorem jA{xs:List V}{us:List Value}(r:Vals xs us):∀ix:List Nat,Vals (ix.filterMap (xs[·]?)) (ix.filterMap (us[·]?))
 | []=>.nil
 |i::ix=>by
  rw[List.filterMap_cons,List.filterMap_cons]
  cases e:xs[i]? with
  |none=>rw[r.none_of e];exact jA r ix
  |some x =>
   obtain⟨u,e2,rx⟩:=r.get e
   rw[e2]
   exact .cons rx (jA r ix)
section
variable {X:Cx}{e st:Expr}{lo hi:Option Expr}{te:TE}{tl th tk:TO}{p2 pos:Pos}
noncomputable def CK(K:PySem.W.Frag)(te:TE)(tl th tk:TO):TE:=fun σ H Q=>te σ H fun x H1=>tl σ H1 fun l H2=>th σ H2 fun u H3=>tk σ H3 fun k H4=>∃a xs,x=.ref a/\bJ K H4 a xs/\k≠some 0/\(mH xs l u k).length<=sizeLine /\
 ∀p,H4 p=none->Q (.ref p) (upd H4 p (.lst (mH xs l u k)))
theorem sZ(he:PE X e te)(hl:PO X lo tl)(hu:PO X hi th)(hk:PO X (some st) tk):PE X (.Subscript e (.Slice lo hi (some st) p2) pos) (CK X.K te tl th tk):=by
 intro pins s σ H Q I h
 refine Subscript_ (bR (he pins s σ H _ I h) fun v s1 ⟨x,H1,I1,r1,q1⟩=>?_)
 refine wpAny_Slice (bR (hl pins s1 σ H1 _ I1 q1) fun vl s2 ⟨l,H2,I2,pl,q2⟩=>bR (hu pins s2 σ H2 _ I2 q2) fun vu s3 ⟨u,H3,I3,pu,q3⟩=>bR (hk pins s3 σ H3 _ I3 q3) fun vk s4 ⟨k,H4,I4,pk,q4⟩=>?_)
 obtain⟨a,xs,rfl,hx,k0,hz2,q⟩:=q4
 cases r1
 have I5:Inv X pins σ H4 {s4 with heap:=s4.heap.push {cls:=.type "slice",data:=.fields #[vl,vu,vk]}}:=I4.kept (t':=s4.toks) fun b ob q=>Heap.get?_push_of_some _ q
 obtain⟨its,r,ht,hz⟩:=I5.list hx
 have hlen:=r.length
 refine tail_any (T:="list") (ops:=[.ref a,.ref s4.heap.objs.size]) ht.isList.typeIs slot_list_getitem.lookup ?_ (by with_unfolding_all rfl)
 refine wpAny_getItem_list_slice ht.isList (Heap.IsSliceOf.new ..) pl pu pk k0 ?_ (by rw[List.size_toArray]<;>omega)
 have ep:slicePick its.toArray l u k=((sliceRange (sliceBounds l u k xs.length).1 (sliceBounds l u k xs.length).2.1 (sliceBounds l u k xs.length).2.2).filterMap (its[·]?)).toArray:=by
  unfold slicePick
  rw[List.size_toArray,←hlen]
  simp
 rw[ep]
 refine⟨.ref _,_,I5.laid (t':=s4.toks) (o:=.lst (mH xs l u k)) (fun b ob q=>Heap.get?_push_of_some _ q) (Nat.le_refl _) ?_,rfl,q _ (I5.hok.fresh (Nat.le_refl _))⟩
 exact⟨hz2,_,0,jA r _,Heap.get?_push_size _ rfl⟩
end
theorem xG{xs:List V}{lo hi st:Option Int}{ix:List Nat}(h:sliceRange (sliceBounds lo hi st xs.length).1 (sliceBounds lo hi st xs.length).2.1 (sliceBounds lo hi st xs.length).2.2=ix):mH xs lo hi st=ix.filterMap (xs[·]?):=by
 unfold mH
 rw[h]
noncomputable def xH:Expr->Option Str
 |.Constant (.str x) _ _=>some x
 |_=>none
noncomputable def strsOf:List Expr->Option (List Str)
 | []=>some []
 |e::r=>(xH e).bind fun x=>(strsOf r).map (x::·)
noncomputable def uX(xs:List Str):TA:=fun _ H Q=>Q (xs.map V.str) H
theorem xJ{e:Expr}{x:Str}(h:xH e=some x):∃j p,e=.Constant (.str x) j p:=by
 unfold xH at h
 split at h
 ·cases h;exact⟨_,_,rfl⟩
 ·cases h
theorem rm{X:Cx}{es:List Expr}:∀{xs:List Str},strsOf es=some xs->PA X es (uX xs):=by
 induction es with
 |nil=>intro xs h;cases h;exact ah
 |cons e r ih =>
  intro xs h
  unfold strsOf at h
  cases h1:xH e with
  |none=>rw[h1]at h;cases h
  |some x =>
   cases h2:strsOf r with
   |none=>rw[h1,h2]at h;cases h
   |some ys =>
    rw[h1,h2]at h
    cases h
    obtain⟨j,p,rfl⟩:=xJ h1
    exact aQ au (ih h2) rfl
end L2
namespace L2
open PySem PySem.Spec PyProof.Rows PySem.SeqAt
section
variable {X:Cx}
end
mutual
noncomputable def Rp(K:PySem.W.Frag)(H:Hp):T->V->Prop
 |.s x,v=>v=.str x
 |.i n,v=>v=.int n
 |.n,v=>v=.cW
 |.t xs,v=>∃a vs,v=.ref a/\aJ K H a vs/\aM K H xs vs
noncomputable def aM(K:PySem.W.Frag)(H:Hp):List T->List V->Prop
 | [],vs=>vs=[]
 |x::r,vs=>∃v q,vs=v::q/\Rp K H x v/\aM K H r q
end
noncomputable def Kt(H H':Hp):Prop:=∀a xs,Rd H a (.tup xs)->Rd H' a (.tup xs)
theorem Kt.trans{H H1 H2:Hp}(a:Kt H H1)(b:Kt H1 H2):Kt H H2:=fun c xs h=>b c xs (a c xs h)
theorem Kt.same{H H':Hp}(s:aL H H'):Kt H H':=fun a xs h=>h.elim (fun e=>.inl (s _ _ e)) fun⟨o,e⟩=>.inr ⟨o,s _ _ e⟩
theorem Kt.new{H:Hp}{p:Addr}(h:H p=none)(o:HO):Kt H (upd H p o):=fun a xs r=>r.elim (fun e=>.inl (by rw[aq (aB e h)];exact e)) fun⟨u,e⟩=>.inr ⟨u,by rw[aq (aB e h)];exact e⟩
theorem Kt.upd{H:Hp}{l:Addr}{u:HO}(h:H l=some u)(h1:∀xs,u≠.tup xs)(h2:∀o xs,u≠.jv o (.tup xs))(o:HO):Kt H (upd H l o):=fun a xs r=>by
 rcases r with e|⟨p,e⟩
 ·exact .inl (by rw[aq (iW e h fun z=>h1 _ z.symm)];exact e)
 ·exact .inr ⟨p,by rw[aq (iW e h fun z=>h2 _ _ z.symm)];exact e⟩
theorem Kt.lst{H:Hp}{l:Addr}{xs:List V}(h:H l=some (.lst xs))(o:HO):Kt H (L2.upd H l o):=Kt.upd h (fun _ z=>nomatch z) (fun _ _ z=>nomatch z) o
section
variable {K:PySem.W.Frag}{H H':Hp}
theorem aJ.kt(k:Kt H H'){a:Addr}{xs:List V}(h:aJ K H a xs):aJ K H' a xs:=h.elim (fun e=>.inl (k _ _ e)) .inr
theorem aM.all(f:∀{x v},Rp K H x v->Rp K H' x v):∀{xs:List T}{vs:List V},aM K H xs vs->aM K H' xs vs
 | [],vs,h=>by unfold aM at h⊢;exact h
 |x::r,vs,h=>by
  unfold aM at h⊢
  obtain⟨v,q,e,h1,h2⟩:=h
  exact⟨v,q,e,f h1,aM.all f h2⟩
theorem aM.nil:aM K H [] []:=by unfold aM;rfl
theorem aM.cons{x:T}{v:V}{r:List T}{q:List V}(h:Rp K H x v)(t:aM K H r q):aM K H (x::r) (v::q):=by unfold aM;exact⟨v,q,rfl,h,t⟩
theorem aM.inv{x:T}{r:List T}{vs:List V}(h:aM K H (x::r) vs):∃v q,vs=v::q/\Rp K H x v/\aM K H r q:=by unfold aM at h;exact h
theorem aM.cG{vs:List V}(h:aM K H [] vs):vs=[]:=by unfold aM at h;exact h
theorem Rp.s{x:Str}:Rp K H (.s x) (.str x):=by unfold Rp;rfl
theorem Rp.i{n:Int}:Rp K H (.i n) (.int n):=by unfold Rp;rfl
theorem Rp.cW:Rp K H .n .cW:=by unfold Rp;rfl
theorem Rp.t{xs:List T}{vs:List V}{a:Addr}(h:aJ K H a vs)(r:aM K H xs vs):Rp K H (.t xs) (.ref a):=by unfold Rp;exact⟨a,vs,rfl,h,r⟩
theorem Rp.aI{x:Str}{v:V}(h:Rp K H (.s x) v):v=.str x:=by unfold Rp at h;exact h
theorem Rp.cX{n:Int}{v:V}(h:Rp K H (.i n) v):v=.int n:=by unfold Rp at h;exact h
theorem Rp.aH{xs:List T}{v:V}(h:Rp K H (.t xs) v):∃a vs,v=.ref a/\aJ K H a vs/\aM K H xs vs:=by unfold Rp at h;exact h
theorem Rp.kt(k:Kt H H'){x:T}:∀{v:V},Rp K H x v->Rp K H' x v:=by
 induction x using T.induct with
 |hs x=>intro v h;rw[h.aI];exact .s
 |hi x=>intro v h;rw[h.cX];exact .i
 |hn=>intro v h;unfold Rp at h;rw[h];exact .cW
 |ht xs ih =>
  intro v h
  obtain⟨a,vs,rfl,hs,hr⟩:=h.aH
  refine .t (hs.kt k) ?_
  clear hs h
  induction xs generalizing vs with
  |nil=>rw[hr.cG];exact .nil
  |cons x r ih2 =>
   obtain⟨v,q,rfl,h1,h2⟩:=hr.inv
   exact .cons (ih x (.head _) h1) (ih2 (fun y hy=>ih y (.tail _ hy)) _ h2)
theorem aM.kt(k:Kt H H'){xs:List T}{vs:List V}(h:aM K H xs vs):aM K H' xs vs:=aM.all (fun h=>h.kt k) h
theorem aM.length:∀{xs:List T}{vs:List V},aM K H xs vs->vs.length=xs.length
 | [],vs,h=>by rw[h.cG];rfl
 |x::r,vs,h=>by
  obtain⟨v,q,rfl,_,h2⟩:=h.inv
  rw[List.length_cons,List.length_cons,aM.length h2]
theorem aM.get:∀{xs:List T}{vs:List V}{i:Nat}{x:T},aM K H xs vs->xs[i]?=some x->∃v,vs[i]?=some v/\Rp K H x v
 | [],vs,i,x,h,e=>by simp at e
 |x::r,vs,0,y,h,e=>by
  obtain⟨v,q,rfl,h1,_⟩:=h.inv
  simp at e;subst e
  exact⟨v,rfl,h1⟩
 |x::r,vs,i+1,y,h,e=>by
  obtain⟨v,q,rfl,_,h2⟩:=h.inv
  obtain⟨w,h3,h4⟩:=aM.get (i:=i) h2 (by simpa using e)
  exact⟨w,by simpa using h3,h4⟩
theorem aM.get':∀{xs:List T}{vs:List V}{i:Nat}{v:V},aM K H xs vs->vs[i]?=some v->∃x,xs[i]?=some x/\Rp K H x v:=fun{xs vs i v} h e=>by
 have l:=h.length
 have hi:i<xs.length:=by
  rcases Nat.lt_or_ge i vs.length with z|z
  ·omega
  ·rw[List.getElem?_eq_none_iff.mpr z]at e;cases e
 obtain⟨w,h1,h2⟩:=h.get (List.getElem?_eq_getElem hi)
 rw[e]at h1;cases h1
 exact⟨_,List.getElem?_eq_getElem hi,h2⟩
theorem aM.append:∀{xs ys:List T}{vs ws:List V},aM K H xs vs->aM K H ys ws->aM K H (xs++ys) (vs++ws)
 | [],ys,vs,ws,h,g=>by rw[h.cG];exact g
 |x::r,ys,vs,ws,h,g=>by
  obtain⟨v,q,rfl,h1,h2⟩:=h.inv
  exact .cons h1 (aM.append h2 g)
theorem aM.one{x:T}{v:V}(h:Rp K H x v):aM K H [x] [v]:=.cons h .nil
theorem aM.snoc{xs:List T}{vs:List V}{x:T}{v:V}(h:aM K H xs vs)(g:Rp K H x v):aM K H (xs++[x]) (vs++[v]):=h.append (.one g)
theorem aM.split:∀{xs ys:List T}{vs:List V},aM K H (xs++ys) vs->∃ws us,vs=ws++us/\aM K H xs ws/\aM K H ys us
 | [],ys,vs,h=>⟨[],vs,rfl,.nil,h⟩
 |x::r,ys,vs,h=>by
  obtain⟨v,q,rfl,h1,h2⟩:=aM.inv h
  obtain⟨ws,us,rfl,h3,h4⟩:=aM.split h2
  exact⟨v::ws,us,rfl,.cons h1 h3,h4⟩
theorem aM.reverse:∀{xs:List T}{vs:List V},aM K H xs vs->aM K H xs.reverse vs.reverse
 | [],vs,h=>by rw[h.cG];exact .nil
 |x::r,vs,h=>by
  obtain⟨v,q,rfl,h1,h2⟩:=h.inv
  rw[List.reverse_cons,List.reverse_cons]
  exact(aM.reverse h2).snoc h1
theorem aM.strs:∀(xs:List Str),aM K H (xs.map .s) (xs.map .str)
 | []=>.nil
 |_::r=>.cons .s (aM.strs r)
theorem aM.je:∀{xs:List Str}{vs:List V},aM K H (xs.map .s) vs->vs=xs.map .str
 | [],vs,h=>h.cG
 |x::r,vs,h=>by
  obtain⟨v,q,rfl,h1,h2⟩:=aM.inv h
  rw[h1.aI,aM.je h2];rfl
end
section
variable {X:Cx}{pins:List (Addr×Obj)}{σ:St}{H:Hp}{s:Shared}
theorem Rp.inj(I:Inv X pins σ H s)(a:T):∀(b:T) {v:V},Rp X.K H a v->Rp X.K H b v->a=b:=by
 induction a using T.induct with
 |hs x =>
  intro b v h g
  rw[h.aI]at g
  cases b with
  |s y=>have z:=g.aI;injection z with z;rw[z]
  |i y=>have z:=g.cX;cases z
  |n=>unfold Rp at g;cases g
  |t ys=>obtain⟨_,_,z,_⟩:=g.aH;cases z
 |hi x =>
  intro b v h g
  rw[h.cX]at g
  cases b with
  |s y=>have z:=g.aI;cases z
  |i y=>have z:=g.cX;injection z with z;rw[z]
  |n=>unfold Rp at g;cases g
  |t ys=>obtain⟨_,_,z,_⟩:=g.aH;cases z
 |hn =>
  intro b v h g
  unfold Rp at h
  rw[h]at g
  cases b with
  |s y=>have z:=g.aI;cases z
  |i y=>have z:=g.cX;cases z
  |n=>rfl
  |t ys=>obtain⟨_,_,z,_⟩:=g.aH;cases z
 |ht xs ih =>
  intro b v h g
  obtain⟨p,vs,rfl,hs,hr⟩:=h.aH
  cases b with
  |t ys =>
   obtain⟨p',ws,e,hs',hr'⟩:=g.aH
   cases e
   have e:=I.jw hs hs'
   subst e
   congr 1
   clear hs hs' h g
   induction xs generalizing ys vs with
   |nil =>
    have z:=hr.cG
    subst z
    cases ys with
    |nil=>rfl
    |cons y q=>obtain⟨_,_,z,_⟩:=hr'.inv;cases z
   |cons x r ih2 =>
    obtain⟨v,q,rfl,h1,h2⟩:=hr.inv
    cases ys with
    |nil=>cases hr'.cG
    |cons y q' =>
     obtain⟨v',q'',e,h1',h2'⟩:=hr'.inv
     cases e
     rw[ih x (.head _) y h1 h1',ih2 (fun z hz=>ih z (.tail _ hz)) _ h2 _ h2']
  |_=>unfold Rp at g;cases g
theorem aP{h:Heap}{a:Addr}{its:Array Value}(p:IsTup h a its):h.IsTuple a its:=p
theorem mJ{us:List V}{its:List Value}(r:Vals us its){j:Nat}{v:V}(e:us[j]?=some v){h:j<its.toArray.size}:RelV v its.toArray[j]:=by
 obtain⟨u,h1,h2⟩:=r.get e
 have z:its.toArray[j]=u:=by
  have q:its[j]?=some its.toArray[j]:=by
   rw[List.getElem?_eq_getElem (by simpa using h)]
   simp
  rw[h1]at q
  exact(Option.some.inj q).symm
 rw[z];exact h2
noncomputable def rA(s:Shared)(K:PySem.W.Frag)(H:Hp)(x:T):Prop:=∀(b:T) {u v:V}{u' v':Value}(A:Around),A.units+x.dep<cLine->Rp K H x u->Rp K H b v->RelV u u'->RelV v v'->EqAt A s u' v' (x.eqB b)
theorem mK{xs ys:List T}{us ws:List V}{its its':List Value}{A:Around}(ih:∀x∈xs,rA s X.K H x)(hu:A.units+T.dR xs<cLine)(hr:aM X.K H xs us)(hr':aM X.K H ys ws)(r:Vals us its)(r':Vals ws its')
  (j:Nat) (h1:j<its.toArray.size) (h2:j<its'.toArray.size):EqAt A s its.toArray[j] its'.toArray[j] (T.eqB (xs.getD j .n) (ys.getD j .n)):=by
 have l1:us.length=its.length:=r.length
 have l2:ws.length=its'.length:=r'.length
 have l3:=hr.length
 have l4:=hr'.length
 have h1':j<its.length:=by simpa using h1
 have h2':j<its'.length:=by simpa using h2
 have hx:j<xs.length:=by omega
 have hy:j<ys.length:=by omega
 obtain⟨v,hv,rv⟩:=hr.get (List.getElem?_eq_getElem hx)
 obtain⟨w,hw,rw'⟩:=hr'.get (List.getElem?_eq_getElem hy)
 have e1:xs.getD j .n=xs[j]:=by simp[hx]
 have e2:ys.getD j .n=ys[j]:=by simp[hy]
 rw[e1,e2]
 exact ih _ (List.getElem_mem hx) _ A (Nat.lt_of_le_of_lt (Nat.add_le_add_left (T.ja (List.getElem_mem hx)) _) hu) rv rw' (mJ r hv) (mJ r' hw)
theorem mL(I:Inv X pins σ H s){xs ys:List T}{us ws:List V}{p q:Addr}{A:Around}(ih:∀x∈xs,rA s X.K H x)(hu:A.units+1+T.dR xs<cLine)(hs:aJ X.K H p us)(hr:aM X.K H xs us)(hs':aJ X.K H q ws)(hr':aM X.K H ys ws) :
  RcAt A s (.ref p) (.ref q) (T.jW xs ys):=by
 obtain⟨its,r,it,_⟩:=I.tuple hs
 obtain⟨its',r',it',_⟩:=I.tuple hs'
 have z:=RcAt.tuples (A:=A) (aP it) (aP it') (by omega) (e:=fun j=>T.eqB (xs.getD j .n) (ys.getD j .n)) (mK (A:=A.in1) ih (by show A.units+1+_<_;exact hu) hr hr' r r')
 have l1:us.length=its.length:=r.length
 have l2:ws.length=its'.length:=r'.length
 have l3:=hr.length
 have l4:=hr'.length
 rw[T.iQ]
 have e1:its.toArray.size=xs.length:=by simp;omega
 have e2:its'.toArray.size=ys.length:=by simp;omega
 rw[e1,e2]at z
 exact z
theorem oQ(I:Inv X pins σ H s){xs ys:List T}{us ws:List V}{p q:Addr}{A:Around}(ih:∀x∈xs,rA s X.K H x)(hu:A.units+1+T.dR xs<cLine)(hs:aJ X.K H p us)(hr:aM X.K H xs us)(hs':aJ X.K H q ws)(hr':aM X.K H ys ws) :
  RcNeAt A s (.ref p) (.ref q) (!T.jW xs ys):=by
 obtain⟨its,r,it,_⟩:=I.tuple hs
 obtain⟨its',r',it',_⟩:=I.tuple hs'
 have z:=RcNeAt.tuples (A:=A) (aP it) (aP it') (by omega) (e:=fun j=>T.eqB (xs.getD j .n) (ys.getD j .n)) (mK (A:=A.in1) ih (by show A.units+1+_<_;exact hu) hr hr' r r')
 have l1:us.length=its.length:=r.length
 have l2:ws.length=its'.length:=r'.length
 have l3:=hr.length
 have l4:=hr'.length
 rw[T.iQ]
 have e1:its.toArray.size=xs.length:=by simp;omega
 have e2:its'.toArray.size=ys.length:=by simp;omega
 rw[e1,e2]at z
 exact z
theorem Bo(I:Inv X pins σ H s)(a:T):rA s X.K H a:=by
 induction a using T.induct with
 |hs x =>
  intro b u v u' v' A hu h g ru rv
  rw[h.aI]at ru
  obtain⟨t,rfl⟩:=ru
  cases b with
  |s y=>rw[g.aI]at rv;obtain⟨t',rfl⟩:=rv;unfold T.eqB;exact EqAt.str_str _ _ _ _
  |i y=>rw[g.cX]at rv;obtain⟨t',rfl⟩:=rv;unfold T.eqB;exact EqAt.str_int _ _ _ _
  |n=>unfold Rp at g;rw[g]at rv;cases rv;unfold T.eqB;exact EqAt.str_none _ _
  |t ys =>
   obtain⟨q,ws,rfl,hs,hr⟩:=g.aH
   cases rv
   obtain⟨its,_,it,_⟩:=I.tuple hs
   unfold T.eqB
   exact EqAt.str_tuple _ _ (aP it) (by omega)
 |hi x =>
  intro b u v u' v' A hu h g ru rv
  rw[h.cX]at ru
  obtain⟨t,rfl⟩:=ru
  cases b with
  |s y=>rw[g.aI]at rv;obtain⟨t',rfl⟩:=rv;unfold T.eqB;exact EqAt.int_str _ _ _ _
  |i y=>rw[g.cX]at rv;obtain⟨t',rfl⟩:=rv;unfold T.eqB;exact EqAt.int_int _ _ _ _
  |n=>unfold Rp at g;rw[g]at rv;cases rv;unfold T.eqB;exact EqAt.int_none _ _
  |t ys =>
   obtain⟨q,ws,rfl,hs,hr⟩:=g.aH
   cases rv
   obtain⟨its,_,it,_⟩:=I.tuple hs
   unfold T.eqB
   exact EqAt.int_tuple _ _ (aP it) (by omega)
 |hn =>
  intro b u v u' v' A hu h g ru rv
  unfold Rp at h
  rw[h]at ru
  cases ru
  cases b with
  |s y=>rw[g.aI]at rv;obtain⟨t',rfl⟩:=rv;unfold T.eqB;exact EqAt.none_str _ _
  |i y=>rw[g.cX]at rv;obtain⟨t',rfl⟩:=rv;unfold T.eqB;exact EqAt.none_int _ _
  |n=>unfold Rp at g;rw[g]at rv;cases rv;unfold T.eqB;exact EqAt.same _
  |t ys =>
   obtain⟨q,ws,rfl,hs,hr⟩:=g.aH
   cases rv
   obtain⟨its,_,it,_⟩:=I.tuple hs
   unfold T.eqB
   exact EqAt.none_tuple (aP it) (by omega)
 |ht xs ih =>
  intro b u v u' v' A hu h g ru rv
  obtain⟨p,us,rfl,hs,hr⟩:=h.aH
  cases ru
  obtain⟨its,rits,it,_⟩:=I.tuple hs
  cases b with
  |s y=>rw[g.aI]at rv;obtain⟨t',rfl⟩:=rv;unfold T.eqB;exact EqAt.tuple_str _ _ (aP it) (by omega)
  |i y=>rw[g.cX]at rv;obtain⟨t',rfl⟩:=rv;unfold T.eqB;exact EqAt.tuple_int _ _ (aP it) (by omega)
  |n=>unfold Rp at g;rw[g]at rv;cases rv;unfold T.eqB;exact EqAt.tuple_none (aP it) (by omega)
  |t ys =>
   obtain⟨q,ws,rfl,hs',hr'⟩:=g.aH
   cases rv
   by_cases e:p=q
   ·subst e
    have z:=Rp.inj I _ _ h g
    rw[z,T.uS]
    exact EqAt.same _
   ·unfold T.dep at hu
    unfold T.eqB
    exact EqAt.of_refs e (mL I ih (by omega) hs hr hs' hr')
theorem CL(I:Inv X pins σ H s)(a b:T){u v:V}{u' v':Value}(A:Around)(hu:A.units+a.dep<cLine)(h:Rp X.K H a u)(g:Rp X.K H b v)(ru:RelV u u')(rv:RelV v v'):RcAt A s u' v' (a.eqB b)/\RcNeAt A s u' v' (!a.eqB b):=by
 cases a with
 |s x =>
  rw[h.aI]at ru
  obtain⟨t,rfl⟩:=ru
  cases b with
  |s y=>rw[g.aI]at rv;obtain⟨t',rfl⟩:=rv;unfold T.eqB;exact⟨RcAt.str_str _ _ _ _,RcNeAt.str_str _ _ _ _⟩
  |i y=>rw[g.cX]at rv;obtain⟨t',rfl⟩:=rv;unfold T.eqB;exact⟨RcAt.str_int _ _ _ _,RcNeAt.str_int _ _ _ _⟩
  |n=>unfold Rp at g;rw[g]at rv;cases rv;unfold T.eqB;exact⟨RcAt.str_none _ _,RcNeAt.str_none _ _⟩
  |t ys =>
   obtain⟨q,ws,rfl,hs,hr⟩:=g.aH
   cases rv
   obtain⟨its,_,it,_⟩:=I.tuple hs
   unfold T.eqB
   exact⟨RcAt.str_tuple _ _ (aP it) (by omega),RcNeAt.str_tuple _ _ (aP it) (by omega)⟩
 |i x =>
  rw[h.cX]at ru
  obtain⟨t,rfl⟩:=ru
  cases b with
  |s y=>rw[g.aI]at rv;obtain⟨t',rfl⟩:=rv;unfold T.eqB;exact⟨RcAt.int_str _ _ _ _,RcNeAt.int_str _ _ _ _⟩
  |i y=>rw[g.cX]at rv;obtain⟨t',rfl⟩:=rv;unfold T.eqB;exact⟨RcAt.int_int _ _ _ _,RcNeAt.int_int _ _ _ _⟩
  |n=>unfold Rp at g;rw[g]at rv;cases rv;unfold T.eqB;exact⟨RcAt.int_none _ _,RcNeAt.int_none _ _⟩
  |t ys =>
   obtain⟨q,ws,rfl,hs,hr⟩:=g.aH
   cases rv
   obtain⟨its,_,it,_⟩:=I.tuple hs
   unfold T.eqB
   exact⟨RcAt.int_tuple _ _ (aP it) (by omega),RcNeAt.int_tuple _ _ (aP it) (by omega)⟩
 |n =>
  unfold Rp at h
  rw[h]at ru
  cases ru
  cases b with
  |s y=>rw[g.aI]at rv;obtain⟨t',rfl⟩:=rv;unfold T.eqB;exact⟨RcAt.none_str _ _,RcNeAt.none_str _ _⟩
  |i y=>rw[g.cX]at rv;obtain⟨t',rfl⟩:=rv;unfold T.eqB;exact⟨RcAt.none_int _ _,RcNeAt.none_int _ _⟩
  |n=>unfold Rp at g;rw[g]at rv;cases rv;unfold T.eqB;exact⟨RcAt.none_none,RcNeAt.none_none⟩
  |t ys =>
   obtain⟨q,ws,rfl,hs,hr⟩:=g.aH
   cases rv
   obtain⟨its,_,it,_⟩:=I.tuple hs
   unfold T.eqB
   exact⟨RcAt.none_tuple (aP it) (by omega),RcNeAt.none_tuple (aP it) (by omega)⟩
 |t xs =>
  obtain⟨p,us,rfl,hs,hr⟩:=h.aH
  cases ru
  obtain⟨its,rits,it,_⟩:=I.tuple hs
  cases b with
  |s y=>rw[g.aI]at rv;obtain⟨t',rfl⟩:=rv;unfold T.eqB;exact⟨RcAt.tuple_str _ _ (aP it) (by omega),RcNeAt.tuple_str _ _ (aP it) (by omega)⟩
  |i y=>rw[g.cX]at rv;obtain⟨t',rfl⟩:=rv;unfold T.eqB;exact⟨RcAt.tuple_int _ _ (aP it) (by omega),RcNeAt.tuple_int _ _ (aP it) (by omega)⟩
  |n=>unfold Rp at g;rw[g]at rv;cases rv;unfold T.eqB;exact⟨RcAt.tuple_none (aP it) (by omega),RcNeAt.tuple_none (aP it) (by omega)⟩
  |t ys =>
   obtain⟨q,ws,rfl,hs',hr'⟩:=g.aH
   cases rv
   unfold T.dep at hu
   unfold T.eqB
   exact⟨mL I (fun x _=>Bo I x) (by omega) hs hr hs' hr',oQ I (fun x _=>Bo I x) (by omega) hs hr hs' hr'⟩
noncomputable def Bp(K:PySem.W.Frag):R2:=fun x y H Q=>∃a b,Rp K H a x/\Rp K H b y/\a.dep<=150/\Q (.bl (decide (a=b))) H
theorem kF(hu:X.A.units+150<cLine):i4 X (compareOp .Eq) (Bp X.K):=by
 intro pins s σ H x y v u Q I rx ry h
 obtain⟨a,b,ha,hb,hd,q⟩:=h
 rw[←T.xC]at q
 exact(CL I a b X.A (by omega) ha hb rx ry).1 X.prog X.w X.xe _ ⟨.bl _,H,I,rfl,q⟩
theorem eW.qA{k:Nat}{A:Around}(r:eW k A):A.units+150<cLine:=by have:=r.un;omega
end
end L2
namespace L2
open PySem PySem.Spec PyProof.Rows
theorem wO{b:Bool}{A B:Prop}(e:b=true)(h:A):if b=true then A else B:=by rw[if_pos e];exact h
theorem dh{b:Bool}{A B:Prop}(e:b=false)(h:B):if b=true then A else B:=by rw[if_neg (by rw[e];exact Bool.false_ne_true)];exact h
section
variable {X:Cx}
theorem rB{pos:Pos}{es:List Expr}{k:Nat}{t:yS}{n:Nat}(K:PySem.W.Frag)(hK:X.K=K)(hc:X.calm=true)(h:A3 X es t)(hn:(assignEach es X.env).length=n:=by rfl)(hst:(assignEach es X.env).findIdx? (·.1)=none:=by rfl):PG X (.Tuple es k pos) (uv K n t):=by
 subst hK
 exact zB hc h hn hst
theorem j3(K:PySem.W.Frag)(hK:X.K=K):AU X (zN K):=by subst hK;exact aD
theorem uY(K:PySem.W.Frag)(hK:X.K=K):AU X (uK K):=by subst hK;exact aT
theorem lR(K:PySem.W.Frag)(hK:X.K=K):i4 X (compareOp .NotIn) (CC K true):=by subst hK;exact nB
noncomputable def y9(w:World):List DictEntry->List (Str×V)->Prop
 | [],kvs=>kvs=[]
 |e::r,kvs=>∃x v q,kvs=(x,v)::q/\(∃t,e.key=.str x t)/\e.hash=hashStr w x/\RelV v e.val/\y9 w r q
noncomputable def KD(K:PySem.W.Frag)(w:World)(d:Addr)(kvs:List (Str×V)):Prop :=
 ∃(es:Array DictEntry) (n:Nat),K.lookup d=some {cls:=.type "dict",dict:=none,data:=.dict es n,slots:=#[]}/\y9 w es.toList kvs/\(kvs.map (·.1)).Nodup/\(d == sysModules)=false
theorem y9.keys{w:World}{P:Program}:∀{es:List DictEntry}{kvs:List (Str×V)},y9 w es kvs->∃vs:List (Str×Value),Pairs (PySem.strKind P w) es vs/\(∀e∈es,∃k,(PySem.strKind P w).is k e.key=true/\e.hash=(PySem.strKind P w).hash k)/\vs.map (·.1)=kvs.map (·.1) /\
  ∀k,gy (kvs.lookup k) (valueAt vs k)
 | [],kvs,h=>by
  obtain rfl:kvs=[]:=h
  exact⟨[],.nil,(fun _ h=>nomatch h),rfl,fun _=>trivial⟩
 |e::r,kvs,h=>by
  obtain⟨x,v,q,rfl,⟨t,hk⟩,hh,rv,hr⟩:=h
  obtain⟨vs,h1,h2,h3,h4⟩:=y9.keys (P:=P) hr
  have ek:(PySem.strKind P w).is x e.key=true:=by rw[hk];exact(by simp[PySem.strKind,Value.isStrOf]:(PySem.strKind P w).is x (.str x t)=true)
  refine⟨(x,e.val)::vs,.cons ek rfl h1,fun e' he=>?_,by rw[List.map_cons,List.map_cons,h3],fun k=>?_⟩
  ·cases he with
   |head=>exact⟨x,ek,hh⟩
   |tail _ he=>exact h2 e' he
  ·rw[List.lookup_cons]
   by_cases c:k=x
   ·subst c
    rw[beq_self_eq_true]
    simp only[valueAt,List.find?_cons,decide_true,Option.map_some]
    exact rv
   ·rw[beq_false_of_ne c]
    have z:=h4 k
    have e1:valueAt ((x,e.val)::vs) k=valueAt vs k:=by
     simp only[valueAt,List.find?_cons]
     rw[decide_eq_false (fun q=>c q.symm)]
    rw[e1]
    exact z
theorem KD.dict{K:PySem.W.Frag}{P:Program}{w:World}{d:Addr}{kvs:List (Str×V)}(D:KD K w d kvs){h:Heap}(X:K.In h):∃vs,h.DictOf (PySem.strKind P w) d vs/\(d == sysModules)=false/\∀k,gy (kvs.lookup k) (valueAt vs k):=by
 obtain⟨es,n,e,hs,nd,hd⟩:=D
 obtain⟨vs,h1,h2,h3,h4⟩:=y9.keys (P:=P) hs
 exact⟨vs,⟨_,es,n,X _ _ e,⟨rfl,rfl,rfl⟩,rfl,fun e' he=>h2 e' (by simpa using he),h1,by rw[h3];exact nd⟩,hd,h4⟩
theorem rC{P:Program}{w:World}{x:Str}{t:Tok}:(PySem.strKind P w).is x (.str x t)=true:=by simp[PySem.strKind,Value.isStrOf]
noncomputable def CM(K:PySem.W.Frag)(w:World):R2:=fun x y H Q=>∃k d kvs,x=.str k/\y=.ref d/\KD K w d kvs/\Q (.bl (kvs.lookup k).isSome) H
theorem gy.xK{a:Option V}{b:Option Value}(r:gy a b):b.isSome=a.isSome:=by
 cases a<;>cases b<;>first|rfl|exact r.elim
theorem xM:i4 X (compareOp .In) (CM X.K X.w):=by
 intro pins s σ H x y v u Q I rx ry h
 obtain⟨k,d,kvs,rfl,rfl,D,q⟩:=h
 obtain⟨t,rfl⟩:=rx
 obtain rfl:u=Value.ref d:=ry
 obtain⟨vs,dd,hd,rel⟩:=D.dict (P:=X.prog) I.wV
 refine wpAny_in_of rC hd dd.mapOf ?_
 rw[(rel k).xK]
 exact⟨.bl _,H,I.tok _,rfl,q⟩
noncomputable def Bq(K:PySem.W.Frag)(w:World)(td ty:TE):TE:=fun σ H Q=>td σ H fun x H1=>ty σ H1 fun y H2=>∃d kvs k v,x=.ref d/\y=.str k/\KD K w d kvs/\kvs.lookup k=some v/\Q v H2
theorem rD{o i:Expr}{pos:Pos}{td ty:TE}(ho:PE X o td)(hi:PE X i ty)(hs:zU i):PE X (.Subscript o i pos) (Bq X.K X.w td ty):=by
 intro pins s σ H Q I h
 refine q9 PySem.F.slot_dict_getitem.lookup hs (bR (ho pins s σ H _ I h) fun u s1 ⟨x,H1,I1,rx,q1⟩=>bR (hi pins s1 σ H1 _ I1 q1) fun iv s2 ⟨y,H2,I2,ry,d,kvs,k,v,ex,ey,D,lk,q2⟩=>?_)
 subst ex ey
 obtain rfl:u=Value.ref d:=rx
 obtain⟨t,rfl⟩:=ry
 obtain⟨vs,dd,hd,rel⟩:=D.dict (P:=X.prog) I2.wV
 obtain⟨w',hw,rw'⟩:=gy.some_of (v:=v) (o:=valueAt vs k) (by rw[←lk];exact rel k)
 exact⟨dd.typeIs,wpAny_getItem_of rC dd.mapOf hw ⟨v,H2,I2.tok _,rw',q2⟩⟩
theorem qB:i4 X (binaryOp .Mult) (fun x y H Q=>∃z n,x=.str z/\y=.int n/\-1000000<=n/\n<=1000000/\z.length*n.toNat<=sizeLine/\Q (.str (Txt.mul z n)) H):=by
 intro pins s σ H x y v u Q I rx ry h
 obtain⟨z,n,rfl,rfl,h1,h2,h3,q⟩:=h
 obtain⟨t,rfl⟩:=rx
 obtain⟨t',rfl⟩:=ry
 refine PySem.SB.mul ⟨by simp;omega,fun a b=>?_,fun a b=>?_⟩ fun t' k=>⟨.str _,H,I.tok _,⟨_,rfl⟩,q⟩
 ·intro c
  have n1:1<=n:=by omega
  have h3':z.length*n.toNat<=16777216:=by rw[←sizeLine_eq];exact h3
  have hz:z.length<=z.length*n.toNat:=Nat.le_mul_of_pos_right _ (by omega)
  have e:(9223372036854:Int)<=(2 ^ 63-1) / n:=Int.le_ediv_of_mul_le (by omega) (by omega)
  omega
 ·unfold Builtin.Str.tooLong
  simp
  exact h3
theorem tq(hc:X.calm=true):dO X (.builtin "max") (fun xs H Q=>∃(p:Addr) (ns:List Int),xs=[.ref p]/\bJ X.K H p (ns.map V.int)/\0<ns.length/\∀M∈ns,(∀a∈ns,a<=M)->Q (.int M) H):=by
 intro pins s σ H xs us Q I r h
 obtain⟨p,ns,rfl,hq,hne,q⟩:=h
 obtain⟨u,rfl,ru⟩:=vals1 r
 cases ru
 obtain⟨its,rv,pl,hz⟩:=I.list hq
 have hi:IntsAre its ns:=intsAre_of rv
 obtain⟨xs,hxs⟩:=hi.allInts.items
 have hl:=pl.isList
 rw[hxs]at hl
 have hn:(numsOf (intItems xs).toList)=ns:=by rw[←hxs];exact hi.numsOf
 rw[nums_intItems]at hn
 have hsz:0<xs.size:=by
  have:ns.length=xs.size:=by rw[←hn];simp
  omega
 refine max_intList (I.ok.hd hc) hl hsz fun v h' tk hv hk=>?_
 obtain⟨t,rfl⟩:=intItems_at hv
 obtain⟨h1,h2⟩:=argBest_gt (numAt xs) (xs.size-1)
 refine⟨.int _,H,I.kept hk,⟨_,rfl⟩,q _ ?_ fun a ha=>?_⟩
 ·rw[←hn,numAt_eq];exact getD_mem (by rw[List.length_map,Array.length_toList];omega)
 ·rw[←hn]at ha
  obtain⟨j,hj,rfl⟩:=mem_getD ha
  rw[List.length_map,Array.length_toList]at hj
  rw[←numAt_eq];exact h2 j (by omega)
end
section
variable {g:TG}{tt:TT}{te:TE}{Q:VK}{σ0:St}{H0:Hp}
theorem bT{K:PySem.W.Frag}{a:Addr}{xs:List V}(Pv:Nat->St->List V->Hp->Prop)(h0:Pv 0 σ0 [] H0)(hlen:∀i σ vs H,i<=xs.length->Pv i σ vs H->vs.length<=i)(hn:xs.length<=sizeLine)(hl:∀i σ vs H,i<=xs.length->Pv i σ vs H->aJ K H a xs)
  (hs:∀i x σ vs H,xs[i]?=some x->Pv i σ vs H->g x σ H fun σ2 H2=>tt σ2 H2 fun ok H3=>if ok=true then te σ2 H3 fun v H4=>Pv (i+1) σ2 (vs++[v]) H4 else Pv (i+1) σ2 vs H3)
  (hd:∀σ vs H,Pv xs.length σ vs H->∀p,H p=none->Q (.ref p) (upd H p (.lst vs))):fF (uC K a) g tt te Q σ0 H0:=by
 refine j0 xs.length Pv h0 hlen hn (fun i σ vs H hi p=>⟨xs,xs[i],hl i σ vs H (Nat.le_of_lt hi) p,by simp[hi]⟩) (fun σ vs H p=>⟨xs,hl _ σ vs H (Nat.le_refl _) p,Nat.le_refl _⟩) (fun i σ vs H x H' hi p y=>?_) hd
 obtain⟨rfl,y⟩:=y
 exact hs i x σ vs _ (y xs (hl i σ vs _ (Nat.le_of_lt hi) p)) p
end
mutual
noncomputable def T.py:T->PyData
 |.s x=>.str x
 |.i k=>.int k
 |.n=>.none
 |.t xs=>.tuple (T.AV xs)
noncomputable def T.AV:List T->List PyData
 | []=>[]
 |x::r=>x.py::T.AV r
end
section
variable {X:Cx}{pins:List (Addr×Obj)}{σ:St}{H:Hp}{s:Shared}
theorem oR:∀{xs:List T},(∀x∈xs,∀{v:V}{u:Value},Rp X.K H x v->RelV v u->∃as,Reads s.heap u x.py as)->∀{vs:List V}{us:List Value},aM X.K H xs vs->Vals vs us->∃as,ReadsAll s.heap us (T.AV xs) as
 | [],_,vs,us,h,r=>by
  obtain rfl:=h.cG
  cases r
  exact⟨[],.nil⟩
 |x::q,ih,vs,us,h,r=>by
  obtain⟨v,w,rfl,h1,h2⟩:=h.inv
  cases r with
  |cons r1 r2 =>
   obtain⟨as,ha⟩:=ih x (.head _) h1 r1
   obtain⟨bs,hb⟩:=oR (fun y hy=>ih y (.tail _ hy)) h2 r2
   exact⟨as++bs,.cons ha hb⟩
theorem xN(I:Inv X pins σ H s)(a:T):∀{v:V}{u:Value},Rp X.K H a v->RelV v u->∃as,Reads s.heap u a.py as:=by
 induction a using T.induct with
 |hs x=>intro v u h r;rw[h.aI]at r;obtain⟨t,rfl⟩:=r;unfold T.py;exact⟨[],.str x t⟩
 |hi x=>intro v u h r;rw[h.cX]at r;obtain⟨t,rfl⟩:=r;unfold T.py;exact⟨[],.int x t⟩
 |hn=>intro v u h r;unfold Rp at h;rw[h]at r;cases r;unfold T.py;exact⟨[],.none⟩
 |ht xs ih =>
  intro v u h r
  obtain⟨p,vs,rfl,hs,hr⟩:=h.aH
  cases r
  obtain⟨its,rv,⟨o,e,c,n,d⟩,_⟩:=I.tuple hs
  obtain⟨as,ha⟩:=oR (s:=s) ih hr rv
  unfold T.py
  exact⟨as,.tuple e c d (by simpa using ha)⟩
structure oS(d:PyData):Prop where
 sh:d.showable=true
 nd:d.hasDict=false
 dp:d.depth<=100
 sz:d.shown.length<=sizeLine
theorem qC(hg:X.A.guards=some [])(hu:X.A.units+150<cLine):dO X (.builtin "repr") (fun xs H Q=>∃x xs' ,xs=[x]/\Rp X.K H (.t xs') x/\oS (T.t xs').py/\Q (.str (T.t xs').py.shown) H):=by
 intro pins s σ H xs us Q I r h
 obtain⟨x,ts,rfl,hr,S,q⟩:=h
 obtain⟨u,rfl,ru⟩:=vals1 r
 obtain⟨as,ha⟩:=xN I _ hr ru
 obtain⟨p,vs,rfl,hs,hr⟩:=hr.aH
 cases ru
 refine repr_of_reads' ha S.sh (fun z=>by rw[S.nd]at z;cases z) hg (by have:=S.dp;omega) (fun _ _ e=>e) (fun h' u tk hk=>?_) S.sz
 exact⟨.str _,H,I.kept hk,⟨_,rfl⟩,q⟩
end
theorem atS{z:Str}{r:Int}(h0:0<=r)(h:r<(z.length:Int)):∃c,iI z.cps.toList r=some c/\c∈z.cps.toList:=by
 have e:z.cps.toList.length=z.length:=by simp[Str.length]
 have hk:r.toNat<z.cps.toList.length:=by rw[e];omega
 have ek:r=((r.toNat:Nat):Int):=by omega
 have q:iI z.cps.toList ((r.toNat:Nat):Int)=some z.cps.toList[r.toNat]:=bC (List.getElem?_eq_getElem hk)
 rw[←ek]at q
 exact⟨_,q,List.getElem_mem hk⟩
theorem xO(cs:List Nat):Txt.join "" (cs.map fun c=>(⟨#[c]⟩:Str))=⟨cs.toArray⟩:=by
 show Builtin.Str.glued (Str.ofString "") _=_
 rw[StrLaws.glued_eq_join]
 exact PyProof.Rows.join_ones cs
theorem uZ(l:List Nat):((l.map fun c=>(⟨#[c]⟩:Str)).map (·.length)).sum=l.length:=by
 induction l with
 |nil=>rfl
 |cons c r ih=>rw[List.map_cons,List.map_cons,List.sum_cons,ih,List.length_cons];show 1+_=_;omega
theorem zZ(cs:List Nat):(⟨cs.toArray⟩:Str).length=cs.length:=by simp[Str.length]
theorem Br(b:Bool)(z:Str):(Txt.mul z (if b then 1 else 0)).length<=z.length:=by
 cases b with
 |true=>simp[Txt.mul]
 |false=>simp[Txt.mul,Str.length,Str.empty]
end L2
namespace L2
open PySem
noncomputable def bM(H:Hp)(f:Addr):Prop:=∃p q:Int,H f=some (.lst [.int p,.int q])
noncomputable def Ext(f:Addr)(H H':Hp):Prop:=(∀b o,b≠f->H b=some o->H' b=some o)/\bM H' f
theorem Ext.refl{f:Addr}{H:Hp}(h:bM H f):Ext f H H:=⟨fun _ _ _ e=>e,h⟩
theorem Ext.trans{f:Addr}{H H1 H2:Hp}(a:Ext f H H1)(b:Ext f H1 H2):Ext f H H2:=⟨fun c o n e=>b.1 c o n (a.1 c o n e),b.2⟩
theorem Ext.same{f:Addr}{H H1 H2:Hp}(a:Ext f H H1)(s:aL H1 H2):Ext f H H2:=⟨fun c o n e=>s c o (a.1 c o n e),let⟨p,q,e⟩:=a.2;⟨p,q,s f _ e⟩⟩
theorem ae{H:Hp}{p:Addr}(h:H p=none)(o:HO):aL H (upd H p o):=fun b u q=>by rw[aq (aB q h)];exact q
theorem Ext.tup{f:Addr}{H H':Hp}(e:Ext f H H')(hf:bM H f){a:Addr}{xs:List V}(h:H a=some (.tup xs)):H' a=some (.tup xs):=by
 refine e.1 a _ ?_ h
 obtain⟨p,q,hf⟩:=hf
 exact iW h hf (by intro z;cases z)
noncomputable def cT:Sp:=fun vs H Q _=>∃(f:Addr) (m:Int),vs=[.ref f,.int m]/\0<m/\m<1073741824/\bM H f/\∀(r:Int) (H':Hp),0<=r->r<m->Ext f H H'->Q (.int r) H'
noncomputable def vc(K:PySem.W.Frag):Sp:=fun vs H Q _=>∃(a:Addr) (ns:List Int) (k:Int),vs=[.ref a,.int k]/\bJ K H a (ns.map V.int)/\ns.length<=63/\0<=k/\k<=100 /\
 ∀(r:Addr) (H':Hp),aL H H'->H r=none->bM H' r->Q (.ref r) H'
theorem small{n:Nat}(h:n<=1000):n<=sizeLine:=Nat.le_of_lt (aC h)
theorem rE{ns:List Int}{k:Int}(h0:0<=k)(h:k<(ns.length:Int)):∃v:Int,iI (ns.map V.int) k=some (.int v):=by
 have hk:k.toNat<ns.length:=by omega
 have ek:k=((k.toNat:Nat):Int):=by omega
 have q:iI (ns.map V.int) ((k.toNat:Nat):Int)=some (.int ns[k.toNat]):=bC (by rw[List.getElem?_map,List.getElem?_eq_getElem hk]<;>rfl)
 rw[←ek]at q
 exact⟨_,q⟩
theorem jB{α:Type}{xs:List α}{k:Int}(h0:0<=k)(h:k<(xs.length:Int)):∃v:α,iI xs k=some v/\v∈xs:=by
 have hk:k.toNat<xs.length:=by omega
 have ek:k=((k.toNat:Nat):Int):=by omega
 have q:iI xs ((k.toNat:Nat):Int)=some xs[k.toNat]:=bC (List.getElem?_eq_getElem hk)
 rw[←ek]at q
 exact⟨_,q,List.getElem_mem hk⟩
theorem Ext.kt{f:Addr}{H H':Hp}(e:Ext f H H')(hf:bM H f):Kt H H':=fun a xs r=>by
 obtain⟨p,q,hf⟩:=hf
 rcases r with h|⟨o,h⟩
 ·exact .inl (e.1 a _ (iW h hf (by intro z;cases z)) h)
 ·exact .inr ⟨o,e.1 a _ (iW h hf (by intro z;cases z)) h⟩
theorem Ext.new{f:Addr}{H H':Hp}(e:Ext f H H'){p:Addr}(h:H' p=none)(o:HO):Ext f H (L2.upd H' p o):=e.same (ae h o)
structure cR(P:Program) (w:World) (K:PySem.W.Frag) (mg:Str->Option Value) (base:Heap) (x:Str) (k:Nat) (ps:List Str) (sp:Sp) (f:Addr) (fd:FuncData):Prop where
 ok:cA P w K mg base gv k f fd ps sp
 at':mg x=some (.ref f)
 kp:PySem.W.keepIn K (.ref f)=true
 bd:Binds K fd ps []
theorem jf{P:Program}{w:World}{K:PySem.W.Frag}{mg:Str->Option Value}{base:Heap}{k:Nat}{f:Addr}{fd:FuncData}{ps:List Str}{sp:Sp}(h:∀vs H Q E,¬sp vs H Q E):cA P w K mg base gv k f fd ps sp :=
 ⟨fun vs H Q E z=>(h vs H Q E z).elim,fun _ _ _ _ _ _ _ _ _ _ _ _ _ z=>(h _ _ _ _ z).elim⟩
end L2
namespace L2
open PySem PySem.Spec PyProof.Rows
noncomputable def kG(p:List Str×Tm):T:=.t [.t (p.1.map .s),enc p.2]
noncomputable def right(tm:Tm):List (List Str×Tm):=(bnd tm.hd tm.ks.length).zip tm.ks
theorem aJ.same{K:PySem.W.Frag}{H H':Hp}(e:aL H H'){a:Addr}{xs:List V}(h:aJ K H a xs):aJ K H' a xs:=h.kt (Kt.same e)
theorem Rp.same{K:PySem.W.Frag}{H H':Hp}(e:aL H H'){x:T}{v:V}(h:Rp K H x v):Rp K H' x v:=h.kt (Kt.same e)
theorem aM.same{K:PySem.W.Frag}{H H':Hp}(e:aL H H'){x:List T}{v:List V}(h:aM K H x v):aM K H' x v:=h.kt (Kt.same e)
theorem Rp.new{K:PySem.W.Frag}{H:Hp}{p:Addr}(hp:H p=none){xs:List T}{vs:List V}(h:aM K H xs vs):Rp K (upd H p (.tup vs)) (.t xs) (.ref p):=.t (.of af) (h.same (ae hp _))
section
variable {K:PySem.W.Frag}{Q:VK}{H0:Hp}
theorem oU{a pa:Addr}{ps:List Nat}{ts ks:List T}{vs:List V}(hS:aJ K H0 a vs)(hr:aM K H0 ts vs)(hP:aJ K H0 pa (ps.map fun(j:Nat)=>V.int (j:Int)))(hlen:ps.length<=1000)(hk:ps.map (fun(j:Nat)=>ts[j]?)=ks.map some)
  (k:∀(p:Addr) (H':Hp) (ws:List V),aL H0 H'->H' p=some (.lst ws)->aM K H' (ks.map fun k=>.t [.t [],k]) ws->Q (.ref p) H') :
  fF (uC K pa) (cI 0) jL (ou (dQ (ou jU) (dQ (uE (zN K) (dX 1) (dX 0)) jU))) Q [none,some (.ref a)] H0:=by
 refine bT (xs:=ps.map fun(j:Nat)=>V.int (j:Int)) (fun i σ us H2=>(∃x,σ=[x,some (.ref a)])/\aL H0 H2/\aM K H2 ((ks.take i).map fun k=>.t [.t [],k]) us) ⟨⟨none,rfl⟩,aL.refl _,.nil⟩ ?_ (small (by rw[List.length_map];exact hlen)) ?_ ?_ ?_
 ·rintro i σ us H2 hi ⟨_,_,r⟩
  rw[r.length,List.length_map,List.length_take];omega
 ·rintro i σ us H2 hi ⟨_,e,_⟩
  exact hP.same e
 ·rintro i x σ us H2 hx ⟨⟨x0,rfl⟩,e,r⟩
  rw[List.getElem?_map]at hx
  obtain⟨j,hj,rfl⟩:=Option.map_eq_some_iff.mp hx
  have hkj:ts[j]?=ks[i]?/\i<ks.length:=by
   have z:=congrArg (fun l=>l[i]?) hk
   simp only[List.getElem?_map,hj,Option.map_some]at z
   cases e2:ks[i]? with
   |none=>rw[e2]at z;cases z
   |some q=>rw[e2]at z;exact⟨Option.some.inj z,(List.getElem?_eq_some_iff.mp e2).1⟩
  obtain⟨hkj,hil⟩:=hkj
  rw[List.getElem?_eq_getElem hil]at hkj
  obtain⟨w,hw,rw'⟩:=hr.get hkj
  refine⟨Nat.zero_le _,fun q hq=>?_⟩
  have e1:=e.trans (ae hq (.tup []))
  refine⟨_,rfl,_,rfl,a,_,_,w,rfl,rfl,hS.same e1,bC hw,(by show 2<=sizeLine;decide),fun t ht=>?_⟩
  have e2:=e1.trans (ae ht (.tup [.ref q,w]))
  refine⟨⟨_,rfl⟩,e2,?_⟩
  rw[List.take_succ_eq_append_getElem hil,List.map_append]
  refine(r.same (fun b o h=>ae ht _ b o (ae hq _ b o h))).snoc (Rp.new ht (.cons ?_ (.one (rw'.same e1))))
  exact Rp.new hq .nil
 ·rintro σ us H2 ⟨_,e,r⟩ p hp
  have l:(ps.map fun(j:Nat)=>V.int (j:Int)).length=ks.length:=by
   have z:=congrArg List.length hk
   simpa using z
  rw[l,List.take_length]at r
  exact k p _ us (e.trans (ae hp _)) af (r.same (ae hp _))
theorem tu{pa:Addr}{ks:List T}{vs:List V}(hS:aJ K H0 pa vs)(hr:aM K H0 ks vs)(hlen:ks.length<=1000)
  (k:∀(p:Addr) (H':Hp) (ws:List V),aL H0 H'->H' p=some (.lst ws)->aM K H' (ks.map fun k=>.t [.t [],k]) ws->Q (.ref p) H') :
  fF (uC K pa) (cI 0) jL (ou (dQ (ou jU) (dQ (dX 0) jU))) Q [none] H0:=by
 have l:=hr.length
 refine bT (xs:=vs) (fun i σ us H2=>(∃x,σ=[x])/\aL H0 H2/\aM K H2 ((ks.take i).map fun k=>.t [.t [],k]) us) ⟨⟨none,rfl⟩,aL.refl _,.nil⟩ ?_ (small (by omega)) ?_ ?_ ?_
 ·rintro i σ us H2 hi ⟨_,_,r⟩
  rw[r.length,List.length_map,List.length_take];omega
 ·rintro i σ us H2 hi ⟨_,e,_⟩
  exact hS.same e
 ·rintro i x σ us H2 hx ⟨⟨x0,rfl⟩,e,r⟩
  obtain⟨y,hy,ry⟩:=hr.get' hx
  have hil:i<ks.length:=(List.getElem?_eq_some_iff.mp hy).1
  have ey:ks[i]=y:=(List.getElem?_eq_some_iff.mp hy).2
  refine⟨Nat.zero_le _,fun q hq=>?_⟩
  have e1:=e.trans (ae hq (.tup []))
  refine⟨_,rfl,(by show 2<=sizeLine;decide),fun t ht=>?_⟩
  have e2:=e1.trans (ae ht (.tup [.ref q,x]))
  refine⟨⟨_,rfl⟩,e2,?_⟩
  rw[List.take_succ_eq_append_getElem hil,List.map_append,ey]
  refine(r.same (fun b o h=>ae ht _ b o (ae hq _ b o h))).snoc (Rp.new ht (.cons ?_ (.one (ry.same e1))))
  exact Rp.new hq .nil
 ·rintro σ us H2 ⟨_,e,r⟩ p hp
  rw[l,List.take_length]at r
  exact k p _ us (e.trans (ae hp _)) af (r.same (ae hp _))
theorem tw{pa:Addr}{arms:List (Str×List Str)}{ks:List T}{vs:List V}(hl:arms.length=ks.length)(hS:aJ K H0 pa vs)(hr:aM K H0 (List.zipWith gU arms ks) vs)(hlen:ks.length<=1000)
  (k:∀(p:Addr) (H':Hp) (ws:List V),aL H0 H'->H' p=some (.lst ws)->aM K H' (List.zipWith (fun a k=>.t [.t (a.2.map .s),k]) arms ks) ws->Q (.ref p) H') :
  fF (uC K pa) (uv K 3 (iZ (cI 0) (iZ (cI 1) (iZ (cI 2) wY)))) jL (ou (dQ (dX 1) (dQ (dX 2) jU))) Q [none,none,none] H0:=by
 have l:=hr.length
 rw[List.length_zipWith,hl,Nat.min_self]at l
 refine bT (xs:=vs) (fun i σ us H2=>(∃x y z,σ=[x,y,z])/\aL H0 H2/\aM K H2 ((List.zipWith (fun(a:Str×List Str) k=>T.t [.t (a.2.map .s),k]) arms ks).take i) us) ⟨⟨none,none,none,rfl⟩,aL.refl _,.nil⟩ ?_ (small (by omega)) ?_ ?_ ?_
 ·rintro i σ us H2 hi ⟨_,_,r⟩
  rw[r.length,List.length_take];omega
 ·rintro i σ us H2 hi ⟨_,e,_⟩
  exact hS.same e
 ·rintro i x σ us H2 hx ⟨⟨x0,y0,z0,rfl⟩,e,r⟩
  obtain⟨y,hy,ry⟩:=hr.get' hx
  have hi:i<vs.length:=(List.getElem?_eq_some_iff.mp hx).1
  have hia:i<arms.length:=by omega
  have hik:i<ks.length:=by omega
  have hz:i<(List.zipWith (fun(a:Str×List Str) k=>T.t [.t (a.2.map .s),k]) arms ks).length:=by rw[List.length_zipWith];omega
  rw[List.getElem?_zipWith,List.getElem?_eq_getElem hia,List.getElem?_eq_getElem hik]at hy
  cases hy
  obtain⟨ra,rvs,rfl,sq,rr⟩:=(show Rp K H0 (.t [_,_,_]) x from ry).aH
  obtain⟨t1,q1,rfl,h1,rr⟩:=rr.inv
  obtain⟨t2,q2,rfl,h2,rr⟩:=rr.inv
  obtain⟨t3,q3,rfl,h3,rr⟩:=rr.inv
  obtain rfl:=rr.cG
  refine⟨ra,_,rfl,sq.same e,rfl,_,_,rfl,_,_,rfl,_,_,rfl,rfl,?_⟩
  refine⟨_,rfl,_,rfl,(by show 2<=sizeLine;decide),fun t ht=>?_⟩
  have e2:=e.trans (ae ht (.tup [t2,t3]))
  refine⟨⟨_,_,_,rfl⟩,e2,?_⟩
  rw[List.take_succ_eq_append_getElem hz]
  refine(r.same (ae ht _)).snoc ?_
  rw[List.getElem_zipWith]
  exact Rp.new ht (.cons (h2.same e) (.one (h3.same e)))
 ·rintro σ us H2 ⟨_,e,r⟩ p hp
  rw[List.take_of_length_le (by rw[List.length_zipWith];omega)]at r
  exact k p _ us (e.trans (ae hp _)) af (r.same (ae hp _))
end
theorem gq{α β:Type}(f:α->Option β)(g:α->β):∀(l:List α),(∀a∈l,f a=some (g a))->l.filterMap f=l.map g
 | [],_=>rfl
 |a::r,h=>by rw[List.filterMap_cons,h a (.head _),List.map_cons,gq f g r fun b hb=>h b (.tail _ hb)]
theorem tD{α:Type}(xs:List α):((List.range xs.length).map fun k=>xs.length-1-k).filterMap (xs[·]?)=xs.reverse:=by
 cases xs with
 |nil=>rfl
 |cons x r =>
  rw[List.filterMap_map,gq _ (fun k=>(x::r).reverse.getD k x)]
  ·apply List.ext_getElem
   ·simp
   ·intro i h1 h2
    simp only[List.getElem_map,List.getElem_range]
    simp at h1
    simp only[List.getD_eq_getElem?_getD]
    rw[List.getElem?_eq_getElem h2]
    rfl
  ·intro k hk
   have hk':=List.mem_range.mp hk
   show(x::r)[(x::r).length-1-k]?=_
   have h2:k<(x::r).reverse.length:=by simpa using hk'
   simp only[List.getD_eq_getElem?_getD]
   rw[List.getElem?_eq_getElem h2,List.getElem_reverse,List.getElem?_eq_getElem (by omega)]
   rfl
theorem tE(n:Nat):sliceRange (sliceBounds none none (some (-1)) n).1 (sliceBounds none none (some (-1)) n).2.1 (sliceBounds none none (some (-1)) n).2.2=(List.range n).map fun k=>n-1-k:=by
 show sliceRange ((n:Int) - 1) (-1) (-1)=_
 unfold sliceRange
 have c:(if(-1:Int)>0 then(if(n:Int) - 1 < -1 then(-1 - ((n:Int) - 1)+-1-1) / -1 else 0)else(if(n:Int) - 1 > -1 then((n:Int) - 1 - -1 - -1-1) / (- -1)else 0))=(n:Int):=by
  rw[if_neg (by decide)]
  split
  ·rw[show(- -1:Int)=1 from rfl,Int.ediv_one];omega
  ·omega
 simp only[c,Int.toNat_natCast]
 refine List.map_congr_left fun k hk=>?_
 have:=List.mem_range.mp hk
 omega
theorem oV(xs:List V):mH xs none none (some (-1))=xs.reverse:=by
 rw[xG (tE xs.length)]
 exact tD xs
section
variable {K:PySem.W.Frag}{Q:VK}{H0:Hp}
end
noncomputable def Bs(sc:Scope)(y:Str):Bool:=(sc.names.lookup y == some .local||sc.names.lookup y == some .cell||sc.names.lookup y == some .free)&&!(y == ("__debug__":Str))&&!(y == ("__classdict__":Str))
noncomputable abbrev Nm(N:List Str)(sc:Scope):Prop:=N.all (Bs sc)=true
noncomputable def Bt(sc:Scope)(y:Str):Bool:=sc.names.lookup y == some .local||sc.names.lookup y == some .cell
noncomputable abbrev Lm(N:List Str)(sc:Scope):Prop:=N.all (Bt sc)=true
theorem Nm.get{N:List Str}{sc:Scope}(h:Nm N sc){i:Nat}{x:Str}(e:N[i]?=some x):BW sc x/\(x == ("__debug__":Str))=false/\(x == ("__classdict__":Str))=false:=by
 have z:=List.all_eq_true.mp h x (List.mem_of_getElem? e)
 unfold Bs at z
 simp only[Bool.and_eq_true,Bool.or_eq_true,Bool.not_eq_true']at z
 obtain⟨⟨z1,z2⟩,z3⟩:=z
 refine⟨?_,z2,z3⟩
 rcases z1 with(z1|z1)|z1
 ·exact Or.inl (eq_of_beq z1)
 ·exact Or.inr (Or.inl (eq_of_beq z1))
 ·exact Or.inr (Or.inr (eq_of_beq z1))
theorem Lm.get{N:List Str}{sc:Scope}(h:Lm N sc){i:Nat}{x:Str}(e:N[i]?=some x):Loc sc x:=by
 have z:=List.all_eq_true.mp h x (List.mem_of_getElem? e)
 unfold Bt at z
 simp only[Bool.or_eq_true]at z
 rcases z with z|z
 ·exact Or.inl (eq_of_beq z)
 ·exact Or.inr (eq_of_beq z)
section
variable {X:Cx}
theorem va{x:Str}{pos:Pos}(h:Nm X.N X.env.scope)(i:Nat)(hN:X.N[i]?=some x:=by rfl):PE X (.Name x pos) (dX i):=uq hN (h.get hN).1 (h.get hN).2.1 (h.get hN).2.2
theorem sa{x:Str}{e:Expr}{te:TE}{pos pos':Pos}(hN:X.N.Nodup)(h:Lm X.N X.env.scope)(i:Nat)(he:PE X e te)(hi:X.N[i]?=some x:=by rfl)(hs:swapsWith e (some (.Name x pos')) pos.line X.env=pure false:=by kernel_rfl)
  (hf:X.fn x=true\/X.env.scope.names.lookup x=some .local:=by exact .inl rfl):PS X (.Assign [.Name x pos'] e pos) (lO te (cI i)):=fU hN hi (h.get hi) he hs hf
theorem ga{x:Str}{pos:Pos}(hN:X.N.Nodup)(h:Lm X.N X.env.scope)(i:Nat)(hi:X.N[i]?=some x:=by rfl)(hf:X.fn x=true\/X.env.scope.names.lookup x=some .local:=by first|exact .inl rfl|exact .inr (by kernel_rfl)):PG X (.Name x pos) (cI i):=fS hN hi (h.get hi) hf
end
section
variable {X:Cx}
theorem xP{y:Str}{posn posa:Pos}{gg:TG}{elt iter tg:Expr}{ifs:List Expr}{scope:Scope}{pos:Pos}{wi:TI}{g:TG}{tt:TT}{te:TE}(own:List Str)(fr:List Nat)(hc:X.calm=true)
  (hkind:scope.kind=.function) (hcell:∀x∈scope.names,x.2≠.cell) (hnames:∀x∈scope.names,x.2=.local->scope.names.lookup x.1=some .local)
  (hfr:∀x∈scope.names,x.2=.free->X.env.scope.names.lookup x.1=some .cell\/X.env.scope.names.lookup x.1=some .free)
  (hin:∀j∈fr,scope.names.lookup (X.N.getD j Str.empty)=some .free)
  (hi:PI X tg iter wi) (hg:∀fp C s H,PG (aY X scope (own++fr.map fun j=>X.N.getD j Str.empty) fp C s H) tg g)
  (ht:∀fp C s H,sY (aY X scope (own++fr.map fun j=>X.N.getD j Str.empty) fp C s H) ifs tt)
  (he:∀fp C s H,PE (aY X scope (own++fr.map fun j=>X.N.getD j Str.empty) fp C s H) elt te)
  (hgg:PG X (.Name y posn) gg) (hsw:swapsWith (.ListComp elt [⟨tg,iter,ifs,0⟩] scope pos) (some (.Name y posn)) posa.line X.env=pure true)
  (hs:∀x,foldedSetIterable iter X.env x=pure x:=by intro _;rfl):PS X (.Assign [.Name y posn] (.ListComp elt [⟨tg,iter,ifs,0⟩] scope pos) posa) (lO (oK own.length fr wi g tt te) gg):=by
 intro pins s σ H D0 I h
 rw[exec_Assign_Name_used _ _ _ _ hsw,arm_evalThenUse_ListComp]
 refine wpAny_bind (wpAny_standAt (wpAny_bind (wpAny_bind ?_)))
 have hfree:∀x∈scope.names,x.2=.free->∃c,X.env.cells.lookup x.1=some c:=fun x hx e=>I.ok.has x.1 (hfr x hx e)
 refine bR (wpAny_comprehension_free (use:=some (assign (.Name y posn) X.env)) (Q:=fun _ s'=>SP X pins D0 .next s') rfl hs (iK hfree) hkind hnames ?_) fun _ _ q=>wpAny_pure (wpAny_pure q)
 refine bR (hi pins s σ H _ I h) fun v s1 h1=>bR h1 fun itv s2 h2=>?_
 obtain⟨it,fp,tn,J,H2,e,I2,T,st2,f2,W,⟨m0,w0⟩,turn⟩:=h2
 subst e
 have hfo:∀b∈fp,b<s2.heap.objs.size:=fun b hb=>by obtain⟨o,e,_⟩:=T.obj 0 _ st2 b hb;exact Heap.lt_size e
 refine wpAny_newObj_type (wpAny_newFunctionEnv hcell (by intro y hy;simp at hy) (fun h₁ hns₁ hsb₁=>?_) hkind)
 dsimp only at hns₁ hsb₁⊢
 generalize hH2:s2.heap.push {cls:=.type "list",dict:=none,data:=.seq ([]:List Value).toArray}=G2 at hns₁ hsb₁⊢
 have hC:G2.objs.size=s2.heap.objs.size+1:=by rw[←hH2,Heap.size_push]
 have hDC:s2.heap.objs.size≠G2.objs.size:=by rw[hC];exact Nat.ne_of_lt (Nat.lt_succ_self _)
 have hCle:s2.heap.objs.size<=G2.objs.size:=by rw[hC];exact Nat.le_succ _
 have old:∀b o,s2.heap.get? b=some o->h₁.get? b=some o:=fun b o e=>hsb₁.extBut b o (by rw[hC];exact Nat.ne_of_lt (Nat.lt_succ_of_lt (Heap.lt_size e))) (Heap.get?_push_of_some _ (hH2▸Heap.get?_push_of_some _ e))
 have hacc:h₁.PlainList s2.heap.objs.size #[]:=⟨_,hsb₁.extBut _ _ hDC (Heap.get?_push_of_some _ (hH2▸Heap.get?_push_size _ rfl))⟩
 have I3:Inv (aY X scope (own++fr.map fun j=>X.N.getD j Str.empty) fp G2.objs.size s2 H2) [] (fb own.length fr σ) H2 {s2 with heap:=h₁,toks:=s2.toks+([]:List (Str×Value)).length} :=
  kD I2 hkind hcell hfr hin hCle f2 hfo old hns₁
 have st3:tn 0 h₁:=T.keep 0 _ _ st2 fun b _ o e=>old b o e
 have hDf:s2.heap.objs.size∉fp:=fun hm=>Nat.lt_irrefl _ (hfo _ hm)
 have hDn2:H2 s2.heap.objs.size=none:=I2.hok.fresh (Nat.le_refl _)
 have sub:∀y c,(bL X.env scope.names []).lookup y=some c->X.env.cells.lookup y=some c:=ef _ _ hfree (by intro y c e;simp at e)
 have cellD:∀y c,(bL X.env scope.names []).lookup y=some c->c≠s2.heap.objs.size:=fun y c e=>by
  obtain⟨_,o,ho,_⟩:=I2.cell y c (sub y c e)
  exact Nat.ne_of_lt (Heap.lt_size ho)
 have Dfs:s2.heap.objs.size∉frs X.stack:=fun z=>by
  rcases List.mem_cons.mp (I2.j7 _ z)with e|e
  ·exact absurd I2.lt (by rw[←e];exact Nat.lt_irrefl _)
  ·exact I2.wW (Nat.le_refl _) e
 -- the iterator's records,in the block's context
 have stat:∀{H':Hp}{pl:List (Addr×Obj)},(∀b∈fp,H' b=none)->(∀p∈pl,p.1=s2.heap.objs.size)->∀b∈fp,jT (aY X scope (own++fr.map fun j=>X.N.getD j Str.empty) fp G2.objs.size s2 H2) pl H' b:=fun{H' pl} hn hp b hb=>by
  refine⟨hn b hb,(I3.ok.exf b hb).1,I3.ok.exfs b hb,.inl hb,(I3.ok.exf b hb).2,fun p hpp z=>?_⟩
  have hpp':p∈pl:=by simpa[aY]using hpp
  exact hDf (by rw[←hp p hpp',z];exact hb)
 have pinD:∀{σ':St}{H':Hp}{s':Shared}{ys:Array Value}{n:Nat},Inv (aY X scope (own++fr.map fun j=>X.N.getD j Str.empty) fp G2.objs.size s2 H2) [] σ' H' s'->H' s2.heap.objs.size=none->s'.heap.get? s2.heap.objs.size=some {cls:=.type "list",data:=.seq ys n} ->
   Inv (aY X scope (own++fr.map fun j=>X.N.getD j Str.empty) fp G2.objs.size s2 H2) [(s2.heap.objs.size,{cls:=.type "list",data:=.seq ys n})] σ' H' s':=fun{σ' H' s' ys n} J hn e=>J.dN fun p hp=>by
  have e':p=(s2.heap.objs.size,{cls:=.type "list",data:=.seq ys n}):=by simpa using hp
  subst e'
  exact⟨e,hn,hDC,Dfs,fun v z=>nomatch z⟩
 have loop:codeAny (model X.prog X.w) X.A (.compLoop (.ListComp elt [⟨tg,iter,ifs,0⟩] scope pos) 0 (.ref it) (.ref s2.heap.objs.size) (compEnvC scope (bL X.env scope.names []) G2.objs.size X.env))
   (compPost (model X.prog X.w) X.A X.xe (some (assign (.Name y posn) X.env)) (fun _ s'=>SP X pins D0 .next s') (.ref s2.heap.objs.size) G2.objs.size) {s2 with heap:=h₁,toks:=s2.toks+([]:List (Str×Value)).length}:=by
  refine dS (E:=fun _ _=>False) (fun n s'=>∃i σ' H' vs ys,Inv (aY X scope (own++fr.map fun j=>X.N.getD j Str.empty) fp G2.objs.size s2 H2) [] σ' H' s'/\tn i s'.heap/\(∀b∈fp,H' b=none)/\H' s2.heap.objs.size=none/\s'.heap.PlainList s2.heap.objs.size ys/\Vals vs ys.toList/\W i n σ' vs H')
   ?_ (fun _ _ z=>z.elim) m0 ⟨0,_,H2,[],#[],I3,st3,fun b hb=>(f2 b hb).1,hDn2,hacc,.nil,w0⟩
  rintro n s3 ⟨i,σ3,H3,vs,ys,J3,st3,fr3,dn3,⟨pn,pl3⟩,rv,w3⟩
  have J3':=pinD J3 dn3 pl3
  have hpins:∀p∈[(s2.heap.objs.size,({cls:=.type "list",data:=.seq ys pn}:Obj))],p.1=s2.heap.objs.size:=fun p hp=>by
   have e':p=(s2.heap.objs.size,{cls:=.type "list",data:=.seq ys pn}):=by simpa using hp
   rw[e']
  rcases turn i n σ3 vs H3 w3 with⟨stop,hz,q⟩|⟨go,hz,N,hN,step⟩
  ·refine bR (T.done (aY X scope (own++fr.map fun j=>X.N.getD j Str.empty) fp G2.objs.size s2 H2) rfl rfl rfl hc i _ s3 σ3 H3 (fun _ _=>False) J3' (stat fr3 hpins) st3 stop) fun r s4 ⟨hr,J4⟩=>?_
   subst hr
   obtain⟨m4,hn4,_⟩:=id J4.loc
   have e4:s4.heap.get? s2.heap.objs.size=some {cls:=.type "list",data:=.seq ys pn}:=(J4.pin (s2.heap.objs.size,{cls:=.type "list",data:=.seq ys pn}) (List.mem_append_right _ (by simp))).1
   obtain⟨oC,es,ep,eC,dC,kC,fC⟩:=hn4
   have I4:Inv X pins σ (upd H3 s2.heap.objs.size (.lst vs)) s4:=kE (h'':=s4.heap) I2 f2 J4 hCle (Nat.le_refl _) hDC dn3 ⟨pn,e4⟩ rv hz ⟨rfl,fun _ _=>rfl⟩
   have cL:G2.objs.size≠X.env.locals:=fun z=>absurd I2.lt (by rw[←z];exact Nat.not_lt.mpr hCle)
   have I5:Inv X (pins++[(G2.objs.size,oC)]) σ (upd H3 s2.heap.objs.size (.lst vs)) s4:=I4.dN fun p hp=>by
    rcases List.mem_append.mp hp with z|z
    ·exact I4.pin p (List.mem_append_right _ z)
    ·have z:p=(G2.objs.size,oC):=by simpa using z
     subst z
     exact⟨eC,by rw[aq hDC.symm];exact J4.free,cL,I2.wW hCle,fun v zv=>by rw[dC]at zv;cases zv⟩
   show wpAny _ _ (assign (.Name y posn) X.env (.ref s2.heap.objs.size)) _ _ _
   refine bR (hgg _ s4 σ _ (.ref s2.heap.objs.size) _ _ I5 rfl (q _ dn3)) fun _ s5 ⟨σ5,H5,I6,q6⟩=>?_
   have pC:=I6.pin (G2.objs.size,oC) (List.mem_append_right _ (List.mem_append_right _ (by simp)))
   refine⟨m4,⟨oC,es,ep,pC.1,dC,kC,fC⟩,fun h' hs'=>?_⟩
   have I7:Inv X pins σ5 H5 s5:=I6.dN fun p hp=>I6.pin p (List.mem_append_right _ (List.mem_append_left _ hp))
   refine⟨σ5,H5,I7.turned (t':=s5.toks) (it:=G2.objs.size) (fun b o hb e=>(hs'.2 b hb).trans e) pC.2.1 cL (.inr (Nat.le_trans I2.sz hCle)) (fun x c e z=>?_) (fun p hp z=>?_),q6⟩
   ·obtain⟨_,o,ho,_⟩:=I2.cell x c e
    exact absurd (Heap.lt_size ho) (by rw[z];exact Nat.not_lt.mpr hCle)
   ·exact absurd (Heap.lt_size (I2.pin p hp).1) (by rw[z];exact Nat.not_lt.mpr hCle)
  ·refine bR (T.item (aY X scope (own++fr.map fun j=>X.N.getD j Str.empty) fp G2.objs.size s2 H2) rfl rfl rfl hc i _ s3 σ3 H3 (fun _ _=>False) J3' (stat fr3 hpins) st3 go) fun r s4 ⟨u,hr,h4⟩=>?_
   subst hr
   refine bR h4 fun _ s5 ⟨x,H5,J5,r5,y5,st5,fr5⟩=>?_
   have J5':=J5.pinned (stat fr5 hpins) (T.obj _ _ st5)
   refine bR (hg fp _ s2 H2 _ s5 σ3 H5 x u _ J5' r5 (step x H5 y5)) fun _ s6 ⟨σ6,H6,J6,q6⟩=>?_
   refine bR (ht fp _ s2 H2 _ s6 σ6 H6 _ J6 q6) fun ok s7 ⟨H7,J7,q7⟩=>?_
   -- what stood pinned through the turn
   have after:∀{s8:Shared}{H8:Hp},Inv (aY X scope (own++fr.map fun j=>X.N.getD j Str.empty) fp G2.objs.size s2 H2) ([(s2.heap.objs.size,({cls:=.type "list",data:=.seq ys pn}:Obj))]++jx fp s5.heap) σ6 H8 s8 ->
     tn (i+1) s8.heap/\(∀b∈fp,H8 b=none)/\H8 s2.heap.objs.size=none/\s8.heap.get? s2.heap.objs.size=some {cls:=.type "list",data:=.seq ys pn}:=fun{s8 H8} J8=>by
    refine⟨T.keep _ _ _ st5 fun b hb o e=>(J8.pin (b,o) (List.mem_append_right _ (List.mem_append_right _ (di hb e)))).1,fun b hb=>?_,?_,?_⟩
    ·obtain⟨o,e,d⟩:=T.obj _ _ st5 b hb
     exact(J8.pin (b,o) (List.mem_append_right _ (List.mem_append_right _ (di hb e)))).2.1
    ·exact(J8.pin (s2.heap.objs.size,{cls:=.type "list",data:=.seq ys pn}) (List.mem_append_right _ (List.mem_append_left _ (by simp)))).2.1
    ·exact(J8.pin (s2.heap.objs.size,{cls:=.type "list",data:=.seq ys pn}) (List.mem_append_right _ (List.mem_append_left _ (by simp)))).1
   cases ok with
   |false =>
    obtain⟨m',hm,w7⟩:=hN _ _ _ q7
    obtain⟨a1,a2,a3,a4⟩:=after J7
    exact⟨m',hm,i+1,σ6,H7,vs,ys,J7.dN (fun p hp=>absurd hp (by simp)),a1,a2,a3,⟨pn,a4⟩,rv,w7⟩
   |true =>
    refine bR (he fp _ s2 H2 _ s7 σ6 H7 _ J7 q7) fun y s8 ⟨v8,H8,J8,r8,n8⟩=>?_
    obtain⟨m',hm,w8⟩:=hN _ _ _ n8
    obtain⟨a1,a2,a3,a4⟩:=after J8
    have J9:Inv (aY X scope (own++fr.map fun j=>X.N.getD j Str.empty) fp G2.objs.size s2 H2) [] σ6 H8 s8:=J8.dN (fun p hp=>absurd hp (by simp))
    have hys:ys.size<=sizeLine:=by
     have e1:vs.length=ys.toList.length:=rv.length
     have e2:ys.toList.length=ys.size:=by simp
     omega
    refine wpAny_list_append_plain (hsz:=hys) ⟨pn,a4⟩ fun h₅ hl₅ hs₅=>?_
    refine⟨m',hm,i+1,σ6,H8,vs++[v8],ys.push y,J9.turned (t':=s8.toks) (it:=s2.heap.objs.size) (fun b o hb e=>by rw[hs₅.2 b hb];exact e) a3 hDC (.inr (Nat.le_refl _)) cellD (fun p hp=>absurd (show p∈([]:List (Addr×Obj))from hp) (by simp)),
     T.keep _ _ _ a1 fun b hb o e=>(hs₅.2 b (fun z=>hDf (z▸hb))).trans e,a2,a3,hl₅,?_,w8⟩
    have:Vals (vs++[v8]) (ys.toList++[y]):=rv.append (.cons r8 .nil)
    simpa using this
 exact codeAny_compStart_list loop (T.self X.A 0 _ _ _ st3 loop)
end
theorem kH{X:Cx}{y:Str}{posn posa:Pos}{gg:TG}{elt iter tg:Expr}{ifs:List Expr}{scope:Scope}{pos:Pos}{wi:TI}{g:TG}{tt:TT}{te:TE}(sc:Scope)(N0 own:List Str)(fr:List Nat)(hc:X.calm=true)(hsc:X.env.scope=sc)(hN:X.N=N0)
  (ok:nF scope sc N0 fr=true) (hi:PI X tg iter wi) (hg:∀fp C s H,PG (aY X scope (own++fr.map fun j=>N0.getD j Str.empty) fp C s H) tg g)
  (ht:∀fp C s H,sY (aY X scope (own++fr.map fun j=>N0.getD j Str.empty) fp C s H) ifs tt)
  (he:∀fp C s H,PE (aY X scope (own++fr.map fun j=>N0.getD j Str.empty) fp C s H) elt te)
  (hgg:PG X (.Name y posn) gg) (hsw:swapsWith (.ListComp elt [⟨tg,iter,ifs,0⟩] scope pos) (some (.Name y posn)) posa.line X.env=pure true:=by kernel_rfl)
  (hs:∀x,foldedSetIterable iter X.env x=pure x:=by intro _;rfl):PS X (.Assign [.Name y posn] (.ListComp elt [⟨tg,iter,ifs,0⟩] scope pos) posa) (lO (oK own.length fr wi g tt te) gg):=by
 subst hsc hN
 unfold nF at ok
 simp only[Bool.and_eq_true,List.all_eq_true,bne_iff_ne,beq_iff_eq,Bool.or_eq_true]at ok
 obtain⟨⟨k1,k2⟩,k3⟩:=ok
 refine xP own fr hc k1 (fun x hx=>(k2 x hx).1.1) (fun x hx e=>?_) (fun x hx e=>?_) (fun j hj=>k3 j hj) hi hg ht he hgg hsw hs
 ·rcases(k2 x hx).1.2 with z|z
  ·exact absurd e z
  ·exact z
 ·rcases(k2 x hx).2 with(z|z)|z
  ·exact absurd e z
  ·exact .inl z
  ·exact .inr z
end L2
open Lean in
def r2:List Name:=[`ok,`at',`kp,`bd,`Bj,`rfl,`ak,`PySem.F.plainAttrs_list,`K,`au,`eY]
open Lean in
def r3:List (Name × Name × Nat × List Nat):=[(`Z0,`xm,16,[1000,0,1,1001,1002,1003,2,204,101,3,4,4]),
 (`Z1,`aA,5,[100,101,4]),
 (`Z2,`fS,99,[100,101,205,5,6]),
 (`Z3,`sa,6,[100,101,102,103,4,7,8]),
 (`Z4,`fG,11,[100,101,102,103,205,205,205,9,104,105,10,106,11]),
 (`Z5,`sR,9,[100,1,101,102,103,3,3,4,4]),
 (`Z6,`bS,5,[100,101]),
 (`Z7,`i6,9,[100,1,101,102,103,3,3,4,4]),
 (`Z8,`iJ,99,[100,101,206,12]),
 (`Za,`iJ,7,[100,101,102,12]),
 (`Zb,`yW,12,[207,100,101,102,103,104,4,4,4,4,4]),
 (`Zc,`rB,5,[100,208,205,205,101,4,4]),
 (`Zd,`xy,99,[13,100,209,12]),
 (`Ze,`bZ,5,[100]),
 (`Zf,`iY,8,[100,101,210]),
 (`Zg,`aU,5,[100,101,4]),
 (`Zh,`cD,3,[100]),
 (`Zi,`aS,8,[100,101,102,14]),
 (`Zj,`bw,8,[100,101,102])]
set_option hygiene false in
open Lean in
def r8:Nat->MacroM Term
 | 0=>`(hr.mono (by omega))
 | 1=>`(by show _=_;kernel_rfl)
 | 2=>`(.nil)
 | 3=>`(by decide)
 | 4=>`(by rfl)
 | 5=>`(Or.inl (by kernel_rfl))
 | 6=>`(by first|exact .inl rfl|exact .inr (by kernel_rfl))
 | 7=>`(by kernel_rfl)
 | 8=>`(by exact .inl rfl)
 | 9=>`(by decide +kernel)
 | 10=>`(fun _ _ _ _=>fE)
 | 11=>`(by intro _;rfl)
 | 12=>`(fun _ _=>rfl)
 | 13=>`(jK hr)
 | _=>`(bK _)
open Lean in
def r4 (f:Name)(a:Array Term):MacroM Term:=do
 let some (_,n,k,c):=r3.find? (·.1==f) | Macro.throwUnsupported
 let b←c.mapM fun i=>do
  if i<100 then r8 i else if i<200 then return a.getD (i-100) ⟨.missing⟩ else if i<1000 then return mkIdent (r2.getD (i-200) .anonymous) else return mkIdent ((a.getD (i/1000-1) ⟨.missing⟩).raw.getId++r2.getD (i%1000) .anonymous)
 let b:=b.toArray
 if k==99 then `($(mkIdent n) $b*) else
 let h←`(_)
 let s:=Array.replicate k h
 `(@$(mkIdent n) $s* $b*)
local macro_rules|`($f:ident $a*)=>r4 f.getId (a.map fun x=>⟨x.raw⟩)
namespace G04
open PySem L2
noncomputable def top(i:Nat):Stmt:=PySem.Challenge.pw_gapwork_k04_names_at_hand.main.body.getD i (.Pass ⟨0,0,0,0⟩)
noncomputable abbrev dD:Stmt:=top 6
noncomputable abbrev iw:Stmt:=top 8
noncomputable abbrev eI:Stmt:=top 9
noncomputable abbrev fH:Stmt:=top 10
noncomputable abbrev kI:Stmt:=top 12
noncomputable abbrev kJ:Stmt:=top 13
noncomputable abbrev bH:Stmt:=top 14
noncomputable abbrev cY:Stmt:=top 15
noncomputable abbrev cZ:Stmt:=top 16
noncomputable abbrev eJ:Stmt:=top 17
noncomputable abbrev dF:Stmt:=top 18
noncomputable abbrev dU:Stmt:=top 19
noncomputable abbrev cK:Stmt:=top 20
noncomputable abbrev fc:Stmt:=top 21
noncomputable abbrev eK:Stmt:=top 22
noncomputable abbrev eL:Stmt:=top 23
noncomputable abbrev eB:Stmt:=top 24
noncomputable abbrev eM:Stmt:=top 25
noncomputable abbrev b9:Stmt:=top 26
noncomputable abbrev fJ:Stmt:=top 27
noncomputable abbrev bI:Stmt:=top 28
noncomputable abbrev gX:Stmt:=top 29
section
variable {P:Program}{w:World}{K:PySem.W.Frag}{mg:Str->Option Value}{base:Heap}
theorem qD:aZ ["_law_feed_here","_law_many_here","_law_digit","_law_one"] ["_law_feed_here","_law_many_here"] (aj kJ):=⟨rfl,rfl,rfl,by decide +kernel,rfl,by decide +kernel,by decide +kernel⟩
theorem xQ{f:Addr}{fd:FuncData}(F:iE K "_law_take" "_law_take" kJ f fd):cA P w K mg base gv 1 f fd ["_law_feed_here","_law_many_here"] cT:=by
 refine F.ok qD (fun vs H Q E h=>?_) (fun cdv A outer s H vs Q E hr h=>?_)
 ·obtain⟨a,m,rfl,_⟩:=h
  rfl
 obtain⟨a,m,rfl,m0,m1,⟨p,q,hf⟩,k⟩:=h
 refine⟨_,bS (iY (aS oq (Z8 aT (pv 0)) ak (bK _))
   (bS (fU (i:=2) qD.nd rfl (Or.inl rfl) (bw eF (Z8 aT (pv 0)) (pv 1)))
   (bS (fT (bw eZ (Z8 aT (pv 0)) (pv 1)) (j8 (pv 0) ak set_list))
   (cD (aK (pv 2))))) eY)
  (bS (fU (i:=3) qD.nd rfl (Or.inl rfl) (bw eF (bw dj (Z8 aT (pv 0)) ak) ak))
  (bS (fT (bw cQ (bw eF (bw cQ (bw dj (pv 3) ak) ak) ak) ak) (j8 (pv 0) ak set_list))
  (cD (aK (bw eF (bw eZ (bw cQ (bw dj (pv 3) ak) (Z8 aT (pv 0))) ak) (pv 1)))))),?_⟩
 have ext:∀p' q':Int,Ext a H (upd H a (.lst [.int p',.int q'])):=fun p' q'=>⟨fun b o n e=>by rw[aq n];exact e,p',q',af⟩
 refine⟨_,rfl,a,_,0,_,rfl,rfl,bJ.of hf,rfl,_,_,rfl,rfl,_,rfl,?_⟩
 refine cJ (fun _=>?_) (fun _=>?_)
 ·refine⟨_,rfl,a,_,0,_,rfl,rfl,bJ.of hf,rfl,_,rfl,_,_,rfl,rfl,m0,?_⟩
  refine⟨_,rfl,a,_,0,_,rfl,rfl,bJ.of hf,rfl,_,rfl,_,_,rfl,rfl,⟨m0,m1⟩,?_⟩
  refine⟨_,rfl,a,_,0,0,rfl,rfl,hf,rfl,?_⟩
  refine⟨_,rfl,?_⟩
  exact k _ _ (Int.emod_nonneg _ (by omega)) (Int.emod_lt_of_pos _ m0) (ext _ _)
 ·refine⟨_,rfl,a,_,1,_,rfl,rfl,bJ.of hf,rfl,_,_,rfl,rfl,.inr ⟨by decide,by decide⟩,_,_,rfl,rfl,(by show(0:Int)<2147483647;decide),?_⟩
  refine⟨_,rfl,_,_,rfl,rfl,.inr ⟨by decide,by decide⟩,_,_,rfl,rfl,_,_,rfl,rfl,(by show(0:Int)<2147483399;decide),_,_,rfl,rfl,?_⟩
  refine⟨_,rfl,a,_,1,1,rfl,rfl,hf,rfl,?_⟩
  refine⟨_,rfl,_,_,rfl,rfl,.inr ⟨by decide,by decide⟩,_,rfl,a,_,1,_,rfl,rfl,bJ.of af,rfl,_,_,rfl,rfl,_,_,rfl,rfl,⟨by decide,by decide⟩,_,rfl,_,_,rfl,rfl,m0,?_⟩
  exact k _ _ (Int.emod_nonneg _ (by omega)) (Int.emod_lt_of_pos _ m0) (ext _ _)
end
section
variable {P:Program}{w:World}{K:PySem.W.Frag}{mg:Str->Option Value}{base:Heap}
theorem jC:aZ ["_law_script","_law_k","_law_cell","_law_own"] ["_law_script","_law_k"] (aj kI):=⟨rfl,rfl,rfl,by decide +kernel,rfl,by decide +kernel,by decide +kernel⟩
theorem xR{f:Addr}{fd:FuncData}(F:iE K "_law_feed" "_law_feed" kI f fd)(ml:mg "len"=none):cA P w K mg base gv 1 f fd ["_law_script","_law_k"] (vc K):=by
 refine F.ok jC (fun vs H Q E h=>?_) (fun cdv A outer s H vs Q E hr h=>?_)
 ·obtain⟨a,ns,m,rfl,_⟩:=h
  rfl
 obtain⟨a,ns,k,rfl,hS,hn,k0,k1,kk⟩:=h
 refine⟨_,bS (fU (i:=2) jC.nd rfl (Or.inl rfl) (bw cQ (bw dj ak (pv 1)) ak))
  (bS (iY (aS i5 (pv 1) (i6 bX (by rfl) ml PySem.boot_len (aQ (pv 0) ah)) (bK _))
   (cD (fU (i:=2) jC.nd rfl (Or.inl rfl) (iJ aT (pv 0) (pv 1) (fun _ _=>rfl))))
   (cD (iY (aS oq (i6 bX (by rfl) ml PySem.boot_len (aQ (pv 0) ah)) ak (bK _))
    (cD (fU (i:=2) jC.nd rfl (Or.inl rfl) (bw cQ (bw dj (bw eF (iJ aT (pv 0) (bw eF (pv 1) (i6 bX (by rfl) ml PySem.boot_len (aQ (pv 0) ah))) (fun _ _=>rfl)) ak) ak) (bw dj ak (pv 1)))))
    eY)))
  (bS (fU (i:=3) jC.nd rfl (Or.inl rfl) ak)
  (bS (iY (aS Bc (pv 2) (bw zI ak ak) (bK _)) (cD (fU (i:=3) jC.nd rfl (Or.inl rfl) (pv 2))) eY)
  (cD (aK (bj (aQ (pv 3) (aQ (bw cQ (bw eF (bw cQ (bw dj (bw eF (pv 2) ak) ak) (bw dj ak (pv 1))) ak) ak) ah)))))))),?_⟩
 have hl:(ns.map V.int).length=ns.length:=List.length_map _
 refine⟨_,rfl,_,_,rfl,rfl,.inl ⟨by decide,by decide⟩,_,_,rfl,rfl,?_⟩
 refine⟨_,rfl,_,rfl,a,_,rfl,.inl hS,_,_,rfl,rfl,_,rfl,?_⟩
 refine cJ (fun c=>?_) (fun c=>?_)
 ·have c':k<((ns.map V.int).length:Int):=of_decide_eq_true c
  rw[hl]at c'
  obtain⟨v,hv⟩:=rE (ns:=ns) k0 c'
  refine⟨_,rfl,_,rfl,a,_,_,_,rfl,rfl,hS,hv,?_⟩
  refine⟨_,rfl,_,_,rfl,rfl,⟨by decide,by decide,by decide⟩,_,_,rfl,rfl,_,rfl,cJ (fun _=>?_) (fun _=>?_)⟩
  ·refine⟨_,rfl,_,rfl,_,rfl,_,_,rfl,rfl,(by show(0:Int)<2147483629;decide),_,_,rfl,rfl,.inr ⟨by decide,by decide⟩,_,rfl,_,_,rfl,rfl,.inl ⟨by decide,by decide⟩,_,_,rfl,rfl,_,_,rfl,rfl,(by show(0:Int)<2147483629;decide),_,_,rfl,rfl,(by show 2<=sizeLine;decide),fun l hl=>?_⟩
   exact kk l _ (ae hl _) hl ⟨_,_,af⟩
  ·refine⟨_,rfl,_,rfl,_,_,rfl,rfl,(by show(0:Int)<2147483629;decide),_,_,rfl,rfl,.inr ⟨by decide,by decide⟩,_,rfl,_,_,rfl,rfl,.inl ⟨by decide,by decide⟩,_,_,rfl,rfl,_,_,rfl,rfl,(by show(0:Int)<2147483629;decide),_,_,rfl,rfl,(by show 2<=sizeLine;decide),fun l hl=>?_⟩
   exact kk l _ (ae hl _) hl ⟨_,_,af⟩
 ·refine⟨_,rfl,a,_,rfl,.inl hS,_,_,rfl,rfl,_,rfl,?_⟩
  refine cJ (fun d=>?_) (fun d=>?_)
  ·have d':(0:Int)<((ns.map V.int).length:Int):=of_decide_eq_true d
   have d2:(0:Int)<(ns.length:Int):=by rw[hl]at d';exact d'
   obtain⟨v,hv⟩:=rE (ns:=ns) (k:=k % (((ns.map V.int).length:Nat):Int)) (Int.emod_nonneg _ (by omega)) (by rw[hl];exact Int.emod_lt_of_pos _ d2)
   refine⟨_,rfl,_,rfl,_,rfl,a,_,rfl,.inl hS,_,_,rfl,rfl,d',a,_,_,_,rfl,rfl,hS,hv,_,_,rfl,rfl,(by show(0:Int)<2147483629;decide),_,_,rfl,rfl,.inr ⟨by decide,by decide⟩,_,rfl,_,_,rfl,rfl,.inl ⟨by decide,by decide⟩,_,_,rfl,rfl,?_⟩
   refine⟨_,rfl,_,_,rfl,rfl,⟨by decide,by decide,by decide⟩,_,_,rfl,rfl,_,rfl,cJ (fun _=>?_) (fun _=>?_)⟩
   ·refine⟨_,rfl,_,rfl,_,rfl,_,_,rfl,rfl,(by show(0:Int)<2147483629;decide),_,_,rfl,rfl,.inr ⟨by decide,by decide⟩,_,rfl,_,_,rfl,rfl,.inl ⟨by decide,by decide⟩,_,_,rfl,rfl,_,_,rfl,rfl,(by show(0:Int)<2147483629;decide),_,_,rfl,rfl,(by show 2<=sizeLine;decide),fun l hl=>?_⟩
    exact kk l _ (ae hl _) hl ⟨_,_,af⟩
   ·refine⟨_,rfl,_,rfl,_,_,rfl,rfl,(by show(0:Int)<2147483629;decide),_,_,rfl,rfl,.inr ⟨by decide,by decide⟩,_,rfl,_,_,rfl,rfl,.inl ⟨by decide,by decide⟩,_,_,rfl,rfl,_,_,rfl,rfl,(by show(0:Int)<2147483629;decide),_,_,rfl,rfl,(by show 2<=sizeLine;decide),fun l hl=>?_⟩
    exact kk l _ (ae hl _) hl ⟨_,_,af⟩
  ·refine⟨_,rfl,_,_,rfl,rfl,⟨by decide,by decide,by decide⟩,_,_,rfl,rfl,_,rfl,cJ (fun _=>?_) (fun _=>?_)⟩
   ·refine⟨_,rfl,_,rfl,_,rfl,_,_,rfl,rfl,(by show(0:Int)<2147483629;decide),_,_,rfl,rfl,.inr ⟨by decide,by decide⟩,_,rfl,_,_,rfl,rfl,.inl ⟨by decide,by decide⟩,_,_,rfl,rfl,_,_,rfl,rfl,(by show(0:Int)<2147483629;decide),_,_,rfl,rfl,(by show 2<=sizeLine;decide),fun l hl=>?_⟩
    exact kk l _ (ae hl _) hl ⟨_,_,af⟩
   ·refine⟨_,rfl,_,rfl,_,_,rfl,rfl,(by show(0:Int)<2147483629;decide),_,_,rfl,rfl,.inr ⟨by decide,by decide⟩,_,rfl,_,_,rfl,rfl,.inl ⟨by decide,by decide⟩,_,_,rfl,rfl,_,_,rfl,rfl,(by show(0:Int)<2147483629;decide),_,_,rfl,rfl,(by show 2<=sizeLine;decide),fun l hl=>?_⟩
    exact kk l _ (ae hl _) hl ⟨_,_,af⟩
end
end G04
namespace L2
open PySem
theorem kL{f:Str}{v:V}{n:Nat}(k:Nat):∀{fs:List (Str×V)},fs.length+(k+1)<n->(xg f v fs).length+k<n
 | [],h=>by show 1+k<n;simp at h;omega
 |(g,x)::r,h=>by
  unfold xg
  split
  ·rw[List.length_cons]at h⊢;omega
  ·rw[List.length_cons]at h⊢
   have:=kL (f:=f) (v:=v) (n:=n) (k+1) (fs:=r) (by omega)
   omega
theorem vd{f:Str}{v:V}{n:Nat}{fs:List (Str×V)}(h:fs.length+1<n):(xg f v fs).length<n:=kL 0 h
theorem dg{X0:ug}{P:Program}{w:World}{K:PySem.W.Frag}{mg:Str->Option Value}{base:Heap}{N:List Str}{nm:Str}{sc:Scope}{f:Addr}{cdv:Value}{A:Around}{outer:List PySem.Env}{s:Shared}{H:Hp}{E:XK}:(nq X0 P w K mg base N nm sc f cdv A outer s H E).zy.K=K:=rfl
noncomputable def Cut(b:TS)(D:Ends)(N:St->Hp->Prop):Prop:=∀σ H,b D σ H->N σ H
theorem Cut.go{b:TS}{D:Ends}{N:St->Hp->Prop}{σ:St}{H:Hp}(h:Cut b D N)(g:b D σ H):N σ H:=h σ H g
theorem rF{a b:TS}{D:Ends}{σ:St}{H:Hp}(h:∀N:St->Hp->Prop,Cut b D N->a {D with nx:=N} σ H):aO a b D σ H:=h (b D) (fun _ _ x=>x)
theorem xS{D:Ends}{σ:St}{H:Hp}(h:D.nx σ H):yR D σ H:=h
theorem xT{D:Ends}{σ:St}{H:Hp}{v:V}{i:Nat}(h:D.nx (σ.set i (some v)) H):lO (tC v) (cI i) D σ H:=h
theorem ve{t0 t1 t2:TS}{D:Ends}{σ:St}{H:Hp}(h:∀N1 N2:St->Hp->Prop,Cut t1 {D with nx:=N2} N1->Cut t2 D N2->t0 {D with nx:=N1} σ H):aO t0 (aO t1 t2) D σ H:=h (aO t1 t2 D) (t2 D) (fun _ _ x=>x) (fun _ _ x=>x)
theorem oW{t0 t1 t2 t3:TS}{D:Ends}{σ:St}{H:Hp}(h:∀N1 N2 N3:St->Hp->Prop,Cut t1 {D with nx:=N2} N1->Cut t2 {D with nx:=N3} N2->Cut t3 D N3->t0 {D with nx:=N1} σ H):aO t0 (aO t1 (aO t2 t3)) D σ H:=h (aO t1 (aO t2 t3) D) (aO t2 t3 D) (t3 D) (fun _ _ x=>x) (fun _ _ x=>x) (fun _ _ x=>x)
theorem kO{t0 t1 t2 t3 t4:TS}{D:Ends}{σ:St}{H:Hp}(h:∀N1 N2 N3 N4:St->Hp->Prop,Cut t1 {D with nx:=N2} N1->Cut t2 {D with nx:=N3} N2->Cut t3 {D with nx:=N4} N3->Cut t4 D N4->t0 {D with nx:=N1} σ H):aO t0 (aO t1 (aO t2 (aO t3 t4))) D σ H:=h (aO t1 (aO t2 (aO t3 t4)) D) (aO t2 (aO t3 t4) D) (aO t3 t4 D) (t4 D) (fun _ _ x=>x) (fun _ _ x=>x) (fun _ _ x=>x) (fun _ _ x=>x)
theorem jg{t0 t1 t2 t3 t4 t5:TS}{D:Ends}{σ:St}{H:Hp}(h:∀N1 N2 N3 N4 N5:St->Hp->Prop,Cut t1 {D with nx:=N2} N1->Cut t2 {D with nx:=N3} N2->Cut t3 {D with nx:=N4} N3->Cut t4 {D with nx:=N5} N4->Cut t5 D N5->t0 {D with nx:=N1} σ H):aO t0 (aO t1 (aO t2 (aO t3 (aO t4 t5)))) D σ H:=h (aO t1 (aO t2 (aO t3 (aO t4 t5))) D) (aO t2 (aO t3 (aO t4 t5)) D) (aO t3 (aO t4 t5) D) (aO t4 t5 D) (t5 D) (fun _ _ x=>x) (fun _ _ x=>x) (fun _ _ x=>x) (fun _ _ x=>x) (fun _ _ x=>x)
theorem oX{t0 t1 t2 t3 t4 t5 t6:TS}{D:Ends}{σ:St}{H:Hp}(h:∀N1 N2 N3 N4 N5 N6:St->Hp->Prop,Cut t1 {D with nx:=N2} N1->Cut t2 {D with nx:=N3} N2->Cut t3 {D with nx:=N4} N3->Cut t4 {D with nx:=N5} N4->Cut t5 {D with nx:=N6} N5->Cut t6 D N6->t0 {D with nx:=N1} σ H):aO t0 (aO t1 (aO t2 (aO t3 (aO t4 (aO t5 t6))))) D σ H:=h (aO t1 (aO t2 (aO t3 (aO t4 (aO t5 t6)))) D) (aO t2 (aO t3 (aO t4 (aO t5 t6))) D) (aO t3 (aO t4 (aO t5 t6)) D) (aO t4 (aO t5 t6) D) (aO t5 t6 D) (t6 D) (fun _ _ x=>x) (fun _ _ x=>x) (fun _ _ x=>x) (fun _ _ x=>x) (fun _ _ x=>x) (fun _ _ x=>x)
theorem oY{t0 t1 t2 t3 t4 t5 t6 t7 t8:TS}{D:Ends}{σ:St}{H:Hp}(h:∀N1 N2 N3 N4 N5 N6 N7 N8:St->Hp->Prop,Cut t1 {D with nx:=N2} N1->Cut t2 {D with nx:=N3} N2->Cut t3 {D with nx:=N4} N3->Cut t4 {D with nx:=N5} N4->Cut t5 {D with nx:=N6} N5->Cut t6 {D with nx:=N7} N6->Cut t7 {D with nx:=N8} N7->Cut t8 D N8->t0 {D with nx:=N1} σ H):aO t0 (aO t1 (aO t2 (aO t3 (aO t4 (aO t5 (aO t6 (aO t7 t8))))))) D σ H:=h (aO t1 (aO t2 (aO t3 (aO t4 (aO t5 (aO t6 (aO t7 t8)))))) D) (aO t2 (aO t3 (aO t4 (aO t5 (aO t6 (aO t7 t8))))) D) (aO t3 (aO t4 (aO t5 (aO t6 (aO t7 t8)))) D) (aO t4 (aO t5 (aO t6 (aO t7 t8))) D) (aO t5 (aO t6 (aO t7 t8)) D) (aO t6 (aO t7 t8) D) (aO t7 t8 D) (t8 D) (fun _ _ x=>x) (fun _ _ x=>x) (fun _ _ x=>x) (fun _ _ x=>x) (fun _ _ x=>x) (fun _ _ x=>x) (fun _ _ x=>x) (fun _ _ x=>x)
theorem nZ{d:Nat}:T.dR []<=d:=by rw[T.dR];exact Nat.zero_le _
theorem eN{x:T}{xs:List T}{d:Nat}(h:x.dep<=d)(r:T.dR xs<=d):T.dR (x::xs)<=d:=by rw[T.dR];exact Nat.max_le.mpr ⟨h,r⟩
theorem jD{xs:List T}{d:Nat}(h:T.dR xs<=d):T.dep (.t xs)<=d+1:=by rw[T.dep];exact Nat.succ_le_succ h
theorem iy{x:Str}{d:Nat}:T.dep (.s x)<=d:=by simp[T.dep]
theorem CN{x:Int}{d:Nat}:T.dep (.i x)<=d:=by simp[T.dep]
end L2
open L2 in
local macro_rules | `(tactic| fail "Z") => `(tactic| first | exact bJ.of (by first | assumption | exact af) | exact aJ.of (by first | assumption | exact af) | omega | (dsimp only [List.length_cons, List.length_nil]; decide) | decide | exact Nat.zero_le _ | (refine vd ?_; (repeat with_reducible refine kL _ ?_); decide))
open L2 in
local macro_rules | `(tactic| fail "S") => `(tactic| first
  | ((with_reducible change @Eq _ _ _); (first | exact rfl | assumption | exact af | (rw [aq (by assumption)]; first | exact af | assumption | (rw [aq (by assumption)]; first | exact af | assumption)) | omega))
  | ((with_reducible first | change @LT.lt _ _ _ _ | change @LE.le _ _ _ _); (first | omega | with_reducible assumption | fail "Z"))
  | assumption
  | ((with_reducible refine And.intro ?_ ?_) <;> fail "S")
  | ((with_reducible refine Or.inl ?_); fail "S")
  | ((with_reducible refine Or.inr ?_); fail "S")
  | ((with_reducible apply Exists.intro); fail "S")
  | ((with_reducible first | change B0 _ _ _ _ | change zJ _ _ _ _ | change A8 _ _ | change wZ _ _ | change A9 _ _); first | ((first | refine (?_ : @Eq _ _ _) | refine (?_ : And _ _) | refine (?_ : Or _ _) | refine (?_ : Exists _)); fail "S") | exact True.intro)
  | fail "Z")
open L2 in
local macro_rules | `(tactic| fail "T") => `(tactic| first
  | ((with_reducible first | refine oY ?_ | refine oX ?_ | refine jg ?_ | refine kO ?_ | refine oW ?_ | refine ve ?_ | refine rF ?_); intros)
  | (refine (?_ : Exists _); first
     | with_reducible first | apply @Exists.intro Hp | apply @Exists.intro Sp
     | ((fail_if_success (with_reducible apply @Exists.intro (_ → _))); apply Exists.intro))
  | (refine And.intro ?_ ?_; fail "S")
  | ((try with_reducible first | refine xS ?_ | refine xT ?_); refine (by with_reducible assumption : Cut _ _ _) _ _ ?_))
local macro_rules | `(tactic| fail "R") => `(tactic| first | (fail "T"; fail "R") | refine And.intro ?_ ?_ | refine (?_ : @ite _ _ _ _ _) | skip)
local macro_rules | `(tactic| fail "F") => `(tactic| first | ((with_reducible apply Exists.intro); fail "F") | ((with_reducible refine And.intro ?_ ?_); fail "S"))
local macro_rules | `(tactic| fail "O") => `(tactic| first | (fail "T"; fail "O") | refine And.intro ?_ ?_ | ((first | (refine Or.inl ?_; fail "F") | (refine Or.inr ?_; fail "F")); fail "O") | refine (?_ : @ite _ _ _ _ _) | skip)
open L2 in
local macro_rules | `(tactic| fail "D") => `(tactic| repeat' first | exact nZ | exact iy | exact CN | assumption | exact Nat.le_trans (by assumption) (by decide) | refine jD ?_ | refine eN ?_ ?_)
namespace G04
open PySem L2
noncomputable def placesOf:List (Str×List Nat):=[("num",[]),("name",[]),("gap",[]),("op",[2,3]),("more",[1,2]),("first",[1]),("others",[1]),("long",[1]),("if",[1,2,3])]
noncomputable def kQ:List (Str×V):=[("row",.int 1),("tag",.int 2),("call",.int 2)]
structure Bu(K:PySem.W.Frag) (w:World) (mg:Str->Option Value) (dP dM:Addr) (pl:List (Str×V)):Prop where
 mP:mg "PLACES"=some (.ref dP)
 mM:mg "PLACE_OF_MANY"=some (.ref dM)
 kP:KD K w dP pl
 kM:KD K w dM kQ
 at_:∀f ps,(f,ps)∈placesOf->∃a,pl.lookup f=some (.ref a)/\∀H,aJ K H a (ps.map fun(j:Nat)=>V.int (j:Int))
noncomputable def mO(K:PySem.W.Frag):Sp:=fun vs H Q _=>∃(v:V) (tm:Tm),vs=[v]/\Rp K H (enc tm) v/\Wf tm/\tm.ks.length<=900 /\
 ∀(p:Addr) (H':Hp) (ws:List V),aL H H'->H' p=some (.lst ws)->aM K H' ((right tm).map kG) ws->Q (.ref p) H'
theorem mQ:∀ks:List Tm,((List.replicate ks.length ([]:List Str)).zip ks).map kG=(ks.map enc).map fun k=>.t [.t [],k]
 | []=>rfl
 |k::r=>by rw[List.length_cons,List.replicate_succ,List.zip_cons_cons,List.map_cons,List.map_cons,List.map_cons,mQ r];rfl
theorem jM{h:Hd}{ks:List Tm}(e:bnd h ks.length=List.replicate ks.length []):(right (.mk h ks)).map kG=(ks.map enc).map fun k=>.t [.t [],k]:=by
 unfold right
 show((bnd h ks.length).zip ks).map kG=_
 rw[e]
 exact mQ ks
theorem oZ:∀(arms:List (Str×List Str)) (kr:List Tm),arms.length=kr.length->((arms.map (·.2)).zip kr).map kG=List.zipWith (fun(a:Str×List Str) k=>T.t [.t (a.2.map .s),k]) arms (kr.map enc)
 | [],kr,h=>rfl
 |x::r,[],h=>rfl
 |x::r,y::q,h=>by rw[List.map_cons,List.zip_cons_cons,List.map_cons,List.map_cons,List.zipWith_cons_cons,oZ r q (by simpa using h)];rfl
theorem Cc{α:Type}(v:α)(q:List α):iI (v::q) 0=some v:=bC (j:=0) rfl
theorem l1{α:Type}:∀{xs:List α},xs.length=1->∃a,xs=[a]
 | [a],_=>⟨a,rfl⟩
theorem l2{α:Type}:∀{xs:List α},xs.length=2->∃a b,xs=[a,b]
 | [a,b],_=>⟨a,b,rfl⟩
theorem l3{α:Type}:∀{xs:List α},xs.length=3->∃a b c,xs=[a,b,c]
 | [a,b,c],_=>⟨a,b,c,rfl⟩
theorem uh{a b:Str}(h:a≠b):decide (V.str a=V.str b)=false:=decide_eq_false fun z=>h (V.str.inj z)
theorem vf:∀p∈placesOf,p.1≠"match"/\p.1≠"let"/\p.1≠"fold"/\(List.lookup p.1 kQ).isSome=false:=by decide +kernel
theorem tF{fm:Str}{ps:List Nat}(hm:(fm,ps)∈placesOf):ps.length<=1000:=(show ∀p∈placesOf,p.2.length<=1000 by decide +kernel) _ hm
theorem xU:∀p∈([("row",1),("tag",2),("call",2)]:List (Str×Nat)),p.1≠"match"/\p.1≠"let"/\p.1≠"fold"/\kQ.lookup p.1=some (.int (p.2:Int)):=by decide +kernel
noncomputable def Aa(hd:Hd)(ks:List Tm):Prop:=∃(fm:Str) (r:List T) (ps:List Nat),(fm,ps)∈placesOf/\c9 hd (ks.map enc)=.t (.s fm::r)/\ps.map (fun(j:Nat)=>(T.s fm::r)[j]?)=(ks.map enc).map some/\bnd hd ks.length=List.replicate ks.length []
noncomputable def Bv(hd:Hd)(ks:List Tm):Prop:=∃(fm:Str) (r:List T) (j:Nat),(fm,j)∈([("row",1),("tag",2),("call",2)]:List (Str×Nat))/\c9 hd (ks.map enc)=.t (.s fm::r)/\(T.s fm::r)[j]?=some (.t (ks.map enc))/\bnd hd ks.length=List.replicate ks.length []
theorem xV {hd : Hd} {ks : List Tm} (ar : br hd ks.length = true) : Aa hd ks ∨ Bv hd ks ∨ (∃ arms, hd = .mat arms) ∨ (∃ x, hd = .lt x) ∨ ∃ x y, hd = .fold x y := by
  cases hd
  case num n => obtain rfl : ks = [] := by simpa [br] using ar
                exact .inl ⟨"num", [.i n], [], by decide +kernel, rfl, rfl, rfl⟩
  case name x => obtain rfl : ks = [] := by simpa [br] using ar
                 exact .inl ⟨"name", [.s x], [], by decide +kernel, rfl, rfl, rfl⟩
  case gap n => obtain rfl : ks = [] := by simpa [br] using ar
                exact .inl ⟨"gap", [.i n], [], by decide +kernel, rfl, rfl, rfl⟩
  case op s => obtain ⟨a, b, rfl⟩ := l2 (show ks.length = 2 by simpa [br] using ar)
               exact .inl ⟨"op", [.s s, enc a, enc b], [2, 3], by decide +kernel, rfl, rfl, rfl⟩
  case more => obtain ⟨a, b, rfl⟩ := l2 (show ks.length = 2 by simpa [br] using ar)
               exact .inl ⟨"more", [enc a, enc b], [1, 2], by decide +kernel, rfl, rfl, rfl⟩
  case first => obtain ⟨a, rfl⟩ := l1 (show ks.length = 1 by simpa [br] using ar)
                exact .inl ⟨"first", [enc a], [1], by decide +kernel, rfl, rfl, rfl⟩
  case others => obtain ⟨a, rfl⟩ := l1 (show ks.length = 1 by simpa [br] using ar)
                 exact .inl ⟨"others", [enc a], [1], by decide +kernel, rfl, rfl, rfl⟩
  case long => obtain ⟨a, rfl⟩ := l1 (show ks.length = 1 by simpa [br] using ar)
               exact .inl ⟨"long", [enc a], [1], by decide +kernel, rfl, rfl, rfl⟩
  case ife => obtain ⟨a, b, c, rfl⟩ := l3 (show ks.length = 3 by simpa [br] using ar)
              exact .inl ⟨"if", [enc a, enc b, enc c], [1, 2, 3], by decide +kernel, rfl, rfl, rfl⟩
  case row => exact .inr (.inl ⟨"row", [.t (ks.map enc)], 1, by decide +kernel, rfl, rfl, rfl⟩)
  case tag t => exact .inr (.inl ⟨"tag", [.s t, .t (ks.map enc)], 2, by decide +kernel, rfl, rfl, rfl⟩)
  case call t => exact .inr (.inl ⟨"call", [.s t, .t (ks.map enc)], 2, by decide +kernel, rfl, rfl, rfl⟩)
  case mat arms => exact .inr (.inr (.inl ⟨_, rfl⟩))
  case lt x => exact .inr (.inr (.inr (.inl ⟨_, rfl⟩)))
  case fold x y => exact .inr (.inr (.inr (.inr ⟨_, _, rfl⟩)))
section
variable {P:Program}{w:World}{K:PySem.W.Frag}{mg:Str->Option Value}{base:Heap}{dP dM:Addr}{pl:List (Str×V)}
theorem mR:aZ ["term","form"] ["term"] (aj dD):=⟨rfl,rfl,rfl,by decide +kernel,rfl,by decide +kernel,by decide +kernel⟩
theorem o8{f:Addr}{fd:FuncData}(F:iE K "right_in" "right_in" dD f fd)(TB:Bu K w mg dP dM pl):cA P w K mg base gv 1 f fd ["term"] (mO K):=by
 refine F.ok mR (fun vs H Q E h=>?_) (fun cdv A outer s H vs Q E hr h=>?_)
 ·obtain⟨v,tm,rfl,_⟩:=h
  rfl
 obtain⟨v,tm,rfl,hv,wf,hlen,k⟩:=h
 refine⟨_,(bS (fU (i:=1) mR.nd rfl (Or.inl rfl) (Z8 aD (pv 0)))
  (bS (iY (aS cu (pv 1) au (bK _)) (cD (aK (bw iO (bj (aQ (bZ (aQ (bZ ah) (aQ (Z8 aD (pv 0)) ah))) ah)) (fG (aj dD) ["term","form"] ["tag","names","inner"] [] rfl rfl rfl (by decide +kernel) (b7 (Z8 aD (pv 0))) (fun _ _ _ _=>(rB (n:=3) K rfl rfl (aU (fS (i:=0) (show(["tag","names","inner"]:List Str).Nodup by decide +kernel) rfl (Or.inl rfl)) (aU (fS (i:=1) (show(["tag","names","inner"]:List Str).Nodup by decide +kernel) rfl (Or.inl rfl)) (aU (fS (i:=2) (show(["tag","names","inner"]:List Str).Nodup by decide +kernel) rfl (Or.inl rfl)) bq))))) (fun _ _ _ _=>fE) (fun _ _ _ _=>(bZ (aQ (pv 1) (aQ (pv 2) ah)))))))) eY)
  (bS (iY (aS cu (pv 1) au (bK _)) (cD (aK (bj (aQ (bZ (aQ (bZ ah) (aQ (Z8 aD (pv 0)) ah))) (aQ (bZ (aQ (bZ (aQ (Z8 aD (pv 0)) ah)) (aQ (Z8 aD (pv 0)) ah))) ah))))) eY)
  (bS (iY (aS cu (pv 1) au (bK _)) (cD (aK (bj (aQ (bZ (aQ (bZ ah) (aQ (Z8 aD (pv 0)) ah))) (aQ (bZ (aQ (bZ ah) (aQ (Z8 aD (pv 0)) ah))) (aQ (bZ (aQ (bZ (aQ (Z8 aD (pv 0)) (aQ (Z8 aD (pv 0)) ah))) (aQ (Z8 aD (pv 0)) ah))) ah)))))) eY)
  (bS (iY (aS xM (pv 1) (nh (v:=.ref dM) (by rfl) TB.mM rfl) (by with_unfolding_all rfl)) (cD (aK (fG (aj dD) ["term","form"] ["inner"] [] rfl rfl rfl (by decide +kernel) (b7 (iJ aD (pv 0) (rD (nh (v:=.ref dM) (by rfl) TB.mM rfl) (pv 1) (fun _ _=>rfl)) (fun _ _=>rfl))) (fun _ _ _ _=>(fS (i:=0) (show(["inner"]:List Str).Nodup by decide +kernel) rfl (Or.inl rfl))) (fun _ _ _ _=>fE) (fun _ _ _ _=>(bZ (aQ (bZ ah) (aQ (pv 0) ah))))))) eY)
  (cD (aK (fG (aj dD) ["term","form"] ["place"] [0] rfl rfl rfl (by decide +kernel) (b7 (rD (nh (v:=.ref dP) (by rfl) TB.mP rfl) (pv 1) (fun _ _=>rfl))) (fun _ _ _ _=>(fS (i:=0) (show(["place","term"]:List Str).Nodup by decide +kernel) rfl (Or.inl rfl))) (fun _ _ _ _=>fE) (fun _ _ _ _=>(bZ (aQ (bZ ah) (aQ (iJ (j3 K rfl) (pv 1) (pv 0) (fun _ _=>rfl)) ah)))))))))))),?_⟩
 try dsimp only[dg]
 have kM:=TB.kM
 have kP:=TB.kP
 refine jg ?_
 intro N1 N2 N3 N4 N5 c1 c2 c3 c4 c5
 cases wf with
 |mk ar wk =>
 rename_i hd ks
 rw[aW]at hv
 have hlen':ks.length<=900:=hlen
 have nE:(ks.map enc).length=ks.length:=List.length_map _
 rcases xV ar with⟨fm,r,ps,hm,he,hp,hb⟩|⟨fm,r,j,hm,he,hj,hb⟩|⟨arms,rfl⟩|⟨x,rfl⟩|⟨x,y,rfl⟩
 ·rw[he]at hv
  obtain⟨a,vs,rfl,hS,hr0⟩:=hv.aH
  obtain⟨v0,q0,rfl,e0,hr1⟩:=hr0.inv
  obtain rfl:=e0.aI
  obtain⟨pa,lk,hpa⟩:=TB.at_ fm ps hm
  have hpa':=hpa H
  fail "R"
  ·exact Cc _ _
  fail "R"
  obtain⟨n1,n2,n3,n4⟩:=vf (fm,ps) hm
  refine dh (uh n1) ?_
  fail "R"
  refine dh (uh n2) ?_
  fail "R"
  refine dh (uh n3) ?_
  fail "R"
  refine dh n4 ?_
  fail "R"
  refine oU (ks:=ks.map enc) hS hr0 (hpa H) (tF hm) hp fun p H' ws s1 h1 r1=>k p H' ws s1 h1 ?_
  rw[jM hb];exact r1
 ·rw[he]at hv
  obtain⟨a,vs,rfl,hS,hr0⟩:=hv.aH
  obtain⟨u,hu,ru⟩:=hr0.get hj
  obtain⟨b,us,rfl,hSb,hrb⟩:=ru.aH
  obtain⟨v0,q0,rfl,e0,hr1⟩:=hr0.inv
  obtain rfl:=e0.aI
  obtain⟨n1,n2,n3,n4⟩:=xU (fm,j) hm
  have n4':List.lookup fm kQ=some (.int (j:Int)):=n4
  have hat:=bC hu
  fail "R"
  ·exact Cc _ _
  fail "R"
  refine dh (uh n1) ?_
  fail "R"
  refine dh (uh n2) ?_
  fail "R"
  refine dh (uh n3) ?_
  fail "R"
  refine wO (by rw[n4];rfl) ?_
  fail "R"
  refine tu (ks:=ks.map enc) hSb hrb (by omega) fun p H' ws s1 h1 r1=>k p H' ws s1 h1 ?_
  rw[jM hb];exact r1
 ·skip
  have hk:ks.length=arms.length+1:=by simpa[br]using ar
  match ks,hk with
  |k0::kr,hk =>
  have hkr:arms.length=kr.length:=by simpa using hk.symm
  unfold c9 at hv
  obtain⟨a,vs,rfl,hS,hr0⟩:=hv.aH
  obtain⟨v0,q0,rfl,e0,hr1⟩:=hr0.inv
  obtain rfl:=e0.aI
  obtain⟨v1,q1,rfl,e1,hr2⟩:=hr1.inv
  obtain⟨v2,q2,rfl,e2,hr3⟩:=hr2.inv
  obtain rfl:=hr3.cG
  obtain⟨b,us,rfl,hSb,hrb⟩:=e2.aH
  fail "R"
  intro p1 hp1
  have s1:=ae hp1 (.tup [])
  refine⟨_,rfl,a,_,1,_,rfl,rfl,hS.same s1,rfl,(by show 2<=sizeLine;decide),fun p2 hp2=>?_⟩
  have s2:=s1.trans (ae hp2 (.tup [.ref p1,v1]))
  refine⟨(by show 1<=sizeLine;decide),fun p3 hp3=>?_⟩
  have s3:=s2.trans (ae hp3 (.lst [.ref p2]))
  refine⟨_,rfl,a,_,2,_,rfl,rfl,hS.same s3,rfl,b,rfl,⟨_,hSb.same s3⟩,?_⟩
  refine tw (arms:=arms) (ks:=kr.map enc) (by rw[List.length_map];exact hkr) (hSb.same s3) (by exact hrb.same s3) (by rw[List.length_map];have:=hlen';simp at this;omega) fun p H' ws s4 h4 r4=>?_
  have z3:H' p3=some (.lst [.ref p2]):=s4 _ _ af
  refine⟨p3,p,_,_,rfl,rfl,z3,h4,?_,fun p5 hp5=>?_⟩
  ·have l:=r4.length
   rw[List.length_zipWith,List.length_map]at l
   rw[l]
   exact small (by have:=hlen';simp at this;show 1+_<=1000;omega)
  have s5:=s4.trans (ae hp5 (.lst ([.ref p2]++ws)))
  refine k p5 _ _ (s3.trans s5) af ?_
  have e:(right (.mk (.mat arms) (k0::kr))).map kG=T.t [.t [],enc k0]::List.zipWith (fun(a:Str×List Str) k=>T.t [.t (a.2.map .s),k]) arms (kr.map enc):=by
   unfold right
   show((([]:List Str)::arms.map (·.2)).zip (k0::kr)).map kG=_
   rw[List.zip_cons_cons,List.map_cons]
   rw[oZ arms kr hkr]
   rfl
  rw[e]
  refine .cons ?_ (r4.same (ae hp5 _))
  refine Rp.same ((ae hp3 _).trans s5) (Rp.new hp2 (.cons (Rp.new hp1 .nil) (.one (e1.same s1))))
 ·skip
  have hk:ks.length=2:=by simpa[br]using ar
  match ks,hk with
  | [k0,k1],hk =>
  unfold c9 at hv
  obtain⟨a,vs,rfl,hS,hr0⟩:=hv.aH
  obtain⟨v0,q0,rfl,e0,hr1⟩:=hr0.inv
  obtain rfl:=e0.aI
  obtain⟨v1,q1,rfl,e1,hr2⟩:=hr1.inv
  obtain⟨v2,q2,rfl,e2,hr3⟩:=aM.inv hr2
  obtain⟨v3,q3,rfl,e3,hr4⟩:=aM.inv hr3
  obtain rfl:=hr4.cG
  fail "R"
  intro p1 hp1
  have s1:=ae hp1 (.tup [])
  refine⟨_,rfl,a,_,2,_,rfl,rfl,hS.same s1,rfl,(by show 2<=sizeLine;decide),fun p2 hp2=>?_⟩
  have s2:=s1.trans (ae hp2 (.tup [.ref p1,v2]))
  refine⟨_,rfl,a,_,1,_,rfl,rfl,hS.same s2,rfl,(by show 1<=sizeLine;decide),fun p3 hp3=>?_⟩
  have s3:=s2.trans (ae hp3 (.tup [v1]))
  refine⟨_,rfl,a,_,3,_,rfl,rfl,hS.same s3,rfl,(by show 2<=sizeLine;decide),fun p4 hp4=>?_⟩
  have s4:=s3.trans (ae hp4 (.tup [.ref p3,v3]))
  refine⟨(by show 2<=sizeLine;decide),fun p5 hp5=>?_⟩
  have s5:=s4.trans (ae hp5 (.lst [.ref p2,.ref p4]))
  refine k p5 _ _ s5 af ?_
  refine .cons (Rp.same ((ae hp3 _).trans ((ae hp4 _).trans (ae hp5 _))) (Rp.new hp2 (.cons (Rp.new hp1 .nil) (.one (e2.same s1))))) (.one ?_)
  exact Rp.same (ae hp5 _) (Rp.new hp4 (.cons (Rp.new hp3 (.one (e1.same s2))) (.one (e3.same s3))))
 ·skip
  have hk:ks.length=3:=by simpa[br]using ar
  match ks,hk with
  | [k0,k1,k2],hk =>
  unfold c9 at hv
  obtain⟨a,vs,rfl,hS,hr0⟩:=hv.aH
  obtain⟨v0,q0,rfl,e0,hr1⟩:=hr0.inv
  obtain rfl:=e0.aI
  obtain⟨v1,q1,rfl,e1,hr2⟩:=hr1.inv
  obtain⟨v2,q2,rfl,e2,hr3⟩:=hr2.inv
  obtain⟨v3,q3,rfl,e3,hr4⟩:=hr3.inv
  obtain⟨v4,q4,rfl,e4,hr5⟩:=hr4.inv
  obtain⟨v5,q5,rfl,e5,hr6⟩:=hr5.inv
  obtain rfl:=hr6.cG
  fail "R"
  intro p1 hp1
  have s1:=ae hp1 (.tup [])
  refine⟨_,rfl,a,_,1,_,rfl,rfl,hS.same s1,rfl,(by show 2<=sizeLine;decide),fun p2 hp2=>?_⟩
  have s2:=s1.trans (ae hp2 (.tup [.ref p1,v1]))
  refine⟨Nat.zero_le _,fun p3 hp3=>?_⟩
  have s3:=s2.trans (ae hp3 (.tup []))
  refine⟨_,rfl,a,_,4,_,rfl,rfl,hS.same s3,rfl,(by show 2<=sizeLine;decide),fun p4 hp4=>?_⟩
  have s4:=s3.trans (ae hp4 (.tup [.ref p3,v4]))
  refine⟨_,rfl,a,_,2,_,rfl,rfl,hS.same s4,rfl,_,rfl,a,_,3,_,rfl,rfl,hS.same s4,rfl,(by show 2<=sizeLine;decide),fun p5 hp5=>?_⟩
  have s5:=s4.trans (ae hp5 (.tup [v2,v3]))
  refine⟨_,rfl,a,_,5,_,rfl,rfl,hS.same s5,rfl,(by show 2<=sizeLine;decide),fun p6 hp6=>?_⟩
  have s6:=s5.trans (ae hp6 (.tup [.ref p5,v5]))
  refine⟨(by show 3<=sizeLine;decide),fun p7 hp7=>?_⟩
  have s7:=s6.trans (ae hp7 (.lst [.ref p2,.ref p4,.ref p6]))
  refine k p7 _ _ s7 af ?_
  have s67:=(ae hp6 (.tup [.ref p5,v5])).trans (ae hp7 (.lst [.ref p2,.ref p4,.ref p6]))
  have s57:=(ae hp5 (.tup [v2,v3])).trans s67
  have s37:=(ae hp3 (.tup [])).trans ((ae hp4 (.tup [.ref p3,v4])).trans s57)
  refine .cons (Rp.same s37 (Rp.new hp2 (.cons (Rp.new hp1 .nil) (.one (e1.same s1))))) (.cons (Rp.same s57 (Rp.new hp4 (.cons (Rp.new hp3 .nil) (.one (e4.same s3))))) (.one ?_))
  exact Rp.same (ae hp7 _) (Rp.new hp6 (.cons (Rp.new hp5 (.cons (e2.same s4) (.one (e3.same s4)))) (.one (e5.same s5))))
end
end G04
namespace L2
open PySem PySem.Spec PyProof.Rows
section
variable {prog:Program}{w:World}{A:Around}{E:Value->Shared->Prop}{s:Shared}
end
section
variable {prog:Program}{w:World}{A:Around}{R:Result->Shared->Prop}{s:Shared}
end
section
variable {prog:Program}{w:World}{A:Around}{E:Value->Shared->Prop}{s:Shared}
end
section
variable {prog:Program}{w:World}{A:Around}{E:Value->Shared->Prop}{s:Shared}
end
section
variable {X:Cx}{a b:Expr}{t:TA}{p1 p2 p3 p4:Pos}
theorem xW{α:Type}{xs ys:List α}:xs[min xs.length ys.length]?=none\/ys[min xs.length ys.length]?=none:=by
 rcases Nat.le_total xs.length ys.length with h|h
 ·left;rw[Nat.min_eq_left h];exact List.getElem?_eq_none (Nat.le_refl _)
 ·right;rw[Nat.min_eq_right h];exact List.getElem?_eq_none (Nat.le_refl _)
noncomputable def Ab(xs ys:List V)(ts:List Addr)(H H':Hp):Prop:=aL H H'/\ts.length=min xs.length ys.length/\∀(j:Nat) (u:Nat),ts[j]?=some u->∃x y,xs[j]?=some x/\ys[j]?=some y/\H' u=some (.tup [x,y])
theorem xX{pins:List (Addr×Obj)}{σ:St}{H1:Hp}{s1:Shared}{h':Heap}{tk lo:Nat}{xs ys:List V}{its jts:List Value}{as:List Nat}{S:Nat}{o:HO}(I1:Inv X pins σ H1 s1)(rv:Vals xs its)(rw':Vals ys jts)
  (hlo:s1.heap.objs.size<=lo) (hk:∀b o,s1.heap.get? b=some o->h'.get? b=some o) (hal:as.length=min xs.length ys.length) (hG:gp h' lo its.toArray jts.toArray as) (hSn:s1.heap.objs.size<=S) (hSa:S∉as)
  (hS:b6 X.prog X.w (upd (fY as xs ys H1) S o) h' S o):Inv X pins σ (upd (fY as xs ys H1) S o) {s1 with heap:=h',toks:=tk}/\Ab xs ys as H1 (upd (fY as xs ys H1) S o)/\H1 S=none:=by
 have low:∀u∈as,lo<=u:=hG.low
 have hS5:∀u∈as,u≠S:=fun u hu z=>hSa (z▸hu)
 have old:∀c,c<s1.heap.objs.size->upd (fY as xs ys H1) S o c=H1 c:=fun c hc=>by
  rw[aq (Nat.ne_of_lt (Nat.lt_of_lt_of_le hc hSn))]
  exact oN as xs ys fun hm=>absurd (Nat.lt_of_lt_of_le hc (Nat.le_trans hlo (low c hm))) (Nat.lt_irrefl _)
 have tups:∀(j:Nat) (u:Nat),as[j]?=some u->∃x y,xs[j]?=some x/\ys[j]?=some y/\upd (fY as xs ys H1) S o u=some (.tup [x,y]):=fun j u hj=>by
  have hj0:=(List.getElem?_eq_some_iff.mp hj).1
  have hjl:j<xs.length:=by omega
  have hjl2:j<ys.length:=by omega
  have hx:xs[j]?=some xs[j]:=List.getElem?_eq_getElem hjl
  have hy:ys[j]?=some ys[j]:=List.getElem?_eq_getElem hjl2
  refine⟨_,_,hx,hy,?_⟩
  rw[aq (hS5 u (List.mem_of_getElem? hj))]
  exact rf as xs ys hG.rise j u _ _ hj hx hy
 refine⟨I1.grow (t':=tk) hk old (fun c o' hc e=>?_),⟨fun c o e=>by rw[old c (I1.hok.lt e)];exact e,hal,tups⟩,I1.hok.fresh hSn⟩
 by_cases hcS:c=S
 ·subst hcS
  rw[af]at e
  cases e
  exact hS
 ·rw[aq hcS]at e
  rcases mF as xs ys e with z|⟨j,x,y,f1,f2,f3,rfl⟩
  ·exact absurd (I1.hok.lt z) (Nat.not_lt.mpr hc)
  ·obtain⟨vx,vy,g1,g2,g3⟩:=hG.pairs j c f1
   obtain⟨ux,k1,k2⟩:=rv.get f2
   obtain⟨uy,k3,k4⟩:=rw'.get f3
   have g1':its[j]?=some vx:=by simpa using g1
   have g2':jts[j]?=some vy:=by simpa using g2
   rw[k1]at g1'
   rw[k3]at g2'
   cases g1'
   cases g2'
   exact⟨(by show 2<=sizeLine;decide),_,.cons k2 (.cons k4 .nil),⟨_,g3,rfl,_,rfl⟩,_,g3,rfl⟩
end
theorem mS:entryFor table "dict.update.loop"=some Builtin.«dict.update.loop»:=by kernel_rfl
theorem fK:plainId "dict.update.loop"=true:=by kernel_rfl
theorem qE:typeLookup (.type "tuple") (Str.ofString "keys")=pure none:=by rw[typeLookup_type,builtinLookup_eq_fast];kernel_rfl
theorem qF:typeLookup (.type "list") (Str.ofString "keys")=pure none:=by rw[typeLookup_type,builtinLookup_eq_fast];kernel_rfl
theorem fg:isSubtype (.type "AttributeError") (.type "AttributeError")=pure true:=by kernel_rfl
section
variable {prog:Program}{w:World}{A:Around}{E:Value->Shared->Prop}{s:Shared}
theorem qG{a:Addr}{xs:Array Value}{k:Nat}{sl:Array (Option Value)}{u:Tok}{Q E:Value->Shared->Prop}(hh:A.handled=none)(ho:s.heap.get? a=some {cls:=.type "tuple",dict:=none,data:=.seq xs k,slots:=sl})
  (hE:∀h' tk e,s.heap.NewAttrErr h' e (.ref a) (Str.ofString "keys")->E (.ref e) {s with heap:=h',toks:=tk}):wpAny (model prog w) A (call (.builtin "tuple.__getattribute__") ([.ref a]++[.str (Str.ofString "keys") u])) Q E s:=by
 have hT:s.TypeIs (.ref a) "tuple":=⟨_,ho,rfl⟩
 refine wpAny_call (codeAny_call_builtin PySem.F.slot_tuple_getattribute.plain PySem.F.entry_tuple_ga (PySem.F.slot_tuple_getattribute.check _ _ _ _ _ _ [] _ hT (PySem.F.args_tuple_getattribute_2 _ _) ?_))
 refine wpAny_mono (meets_getattribute_miss_tuple a xs k sl (Str.ofString "keys") u qE (by decide) (by decide) prog w A (fun r s'=>∃h' tk e,r=.error (.ref e)/\s.heap.NewAttrErr h' e (.ref a) (Str.ofString "keys")/\s'={s with heap:=h',toks:=tk}) s ⟨ho,hh,fun h' tk e ne=>⟨h',tk,e,rfl,ne,rfl⟩⟩) (fun fin s' z=>?_) (fun e s' z=>?_)
 ·rcases fin with f|c
  ·obtain⟨_,_,_,h,_⟩:=z;cases h
  ·exact⟨z.1,codeAny_mono z.2 fun r s'' q=>by obtain⟨h',tk,e,rfl,ne,rfl⟩:=q;exact hE h' tk e ne⟩
 ·obtain⟨h',tk,e,h,ne,rfl⟩:=z
  cases h
  exact hE h' tk e ne
theorem lS{a:Addr}{xs:Array Value}{k:Nat}{sl:Array (Option Value)}{Q:Option Value->Shared->Prop}(hh:A.handled=none)(ho:s.heap.get? a=some {cls:=.type "tuple",dict:=none,data:=.seq xs k,slots:=sl})
  (hQ:∀h' tk,(∀b o,s.heap.get? b=some o->h'.get? b=some o)->Q none {s with heap:=h',toks:=tk}):wpAny (model prog w) A (getAttr? (.ref a) (Str.ofString "keys")) Q E s:=by
 unfold getAttr?
 refine wpAny_bind (wpAny_mkText ?_)
 have hT:Shared.TypeIs {s with toks:=s.toks+1} (.ref a) "tuple":=⟨_,ho,rfl⟩
 unfold getAttrBy?
 refine wpAny_bind (wpAny_attempt ?_)
 unfold getAttrBy
 refine wpAny_holding (wpAny_bind (wpAny_typeOf hT ?_))
 rw[show typeLookup (.type "tuple") (Str.ofString "__getattribute__")=pure (some (.builtin "tuple.__getattribute__"))from PySem.F.slot_tuple_getattribute.lookup]
 refine wpAny_bind (wpAny_pure ?_)
 dsimp only
 rw[if_neg (by decide)]
 unfold getAttrByItsOwn hookBefore
 rw[if_neg (by decide)]
 refine wpAny_bind (wpAny_pure ?_)
 refine wpAny_bind (wpAny_attempt (wpAny_holding ?_))
 unfold callGetattribute
 rw[if_neg (by decide)]
 unfold boundAndCalled
 rw[PySem.F.slot_tuple_getattribute.bind]
 refine wpAny_bind (wpAny_pure ?_)
 refine qG (s:={s with toks:=s.toks+1}) hh ho fun h' tk e ne=>?_
 obtain⟨t,u,he⟩:=ne.there
 have hTe:Shared.TypeIs {s with heap:=h',toks:=tk} (.ref e) "AttributeError":=⟨_,he,rfl⟩
 show wpAny _ _ (getattributeRaised _ _ _ _ none false false) _ _ _
 unfold getattributeRaised
 refine wpAny_bind (wpAny_isInstance hTe fg ?_)
 rw[if_pos rfl]
 unfold hookBehind
 rw[if_neg (by decide),PySem.F.plainAttrs_tuple.noGetattr]
 refine wpAny_bind (wpAny_pure ?_)
 unfold hookOrError
 dsimp only
 unfold attributeErrorLeaves
 dsimp only
 rw[if_pos (show(!false)=true from rfl)]
 refine wpAny_bind (wpAny_throw ?_)
 refine wpAny_bind (wpAny_isInstance hTe fg ?_)
 rw[if_pos rfl]
 exact wpAny_pure (hQ h' tk ne.keeps)
theorem tG{a:Addr}{xs:Array Value}{k:Nat}{sl:Array (Option Value)}{u:Tok}{Q E:Value->Shared->Prop}(hh:A.handled=none)(ho:s.heap.get? a=some {cls:=.type "list",dict:=none,data:=.seq xs k,slots:=sl})
  (hE:∀h' tk e,s.heap.NewAttrErr h' e (.ref a) (Str.ofString "keys")->E (.ref e) {s with heap:=h',toks:=tk}):wpAny (model prog w) A (call (.builtin "list.__getattribute__") ([.ref a]++[.str (Str.ofString "keys") u])) Q E s:=by
 have hT:s.TypeIs (.ref a) "list":=⟨_,ho,rfl⟩
 refine wpAny_call (codeAny_call_builtin PySem.F.slot_list_getattribute.plain PySem.F.entry_list_ga (PySem.F.slot_list_getattribute.check _ _ _ _ _ _ [] _ hT (PySem.F.args_list_getattribute_2 _ _) ?_))
 refine wpAny_mono (meets_getattribute_miss_list a xs k sl (Str.ofString "keys") u qF (by decide) (by decide) prog w A (fun r s'=>∃h' tk e,r=.error (.ref e)/\s.heap.NewAttrErr h' e (.ref a) (Str.ofString "keys")/\s'={s with heap:=h',toks:=tk}) s ⟨ho,hh,fun h' tk e ne=>⟨h',tk,e,rfl,ne,rfl⟩⟩) (fun fin s' z=>?_) (fun e s' z=>?_)
 ·rcases fin with f|c
  ·obtain⟨_,_,_,h,_⟩:=z;cases h
  ·exact⟨z.1,codeAny_mono z.2 fun r s'' q=>by obtain⟨h',tk,e,rfl,ne,rfl⟩:=q;exact hE h' tk e ne⟩
 ·obtain⟨h',tk,e,h,ne,rfl⟩:=z
  cases h
  exact hE h' tk e ne
theorem nH{a:Addr}{xs:Array Value}{k:Nat}{sl:Array (Option Value)}{Q:Option Value->Shared->Prop}(hh:A.handled=none)(ho:s.heap.get? a=some {cls:=.type "list",dict:=none,data:=.seq xs k,slots:=sl})
  (hQ:∀h' tk,(∀b o,s.heap.get? b=some o->h'.get? b=some o)->Q none {s with heap:=h',toks:=tk}):wpAny (model prog w) A (getAttr? (.ref a) (Str.ofString "keys")) Q E s:=by
 unfold getAttr?
 refine wpAny_bind (wpAny_mkText ?_)
 have hT:Shared.TypeIs {s with toks:=s.toks+1} (.ref a) "list":=⟨_,ho,rfl⟩
 unfold getAttrBy?
 refine wpAny_bind (wpAny_attempt ?_)
 unfold getAttrBy
 refine wpAny_holding (wpAny_bind (wpAny_typeOf hT ?_))
 rw[show typeLookup (.type "list") (Str.ofString "__getattribute__")=pure (some (.builtin "list.__getattribute__"))from PySem.F.slot_list_getattribute.lookup]
 refine wpAny_bind (wpAny_pure ?_)
 dsimp only
 rw[if_neg (by decide)]
 unfold getAttrByItsOwn hookBefore
 rw[if_neg (by decide)]
 refine wpAny_bind (wpAny_pure ?_)
 refine wpAny_bind (wpAny_attempt (wpAny_holding ?_))
 unfold callGetattribute
 rw[if_neg (by decide)]
 unfold boundAndCalled
 rw[PySem.F.slot_list_getattribute.bind]
 refine wpAny_bind (wpAny_pure ?_)
 refine tG (s:={s with toks:=s.toks+1}) hh ho fun h' tk e ne=>?_
 obtain⟨t,u,he⟩:=ne.there
 have hTe:Shared.TypeIs {s with heap:=h',toks:=tk} (.ref e) "AttributeError":=⟨_,he,rfl⟩
 show wpAny _ _ (getattributeRaised _ _ _ _ none false false) _ _ _
 unfold getattributeRaised
 refine wpAny_bind (wpAny_isInstance hTe fg ?_)
 rw[if_pos rfl]
 unfold hookBehind
 rw[if_neg (by decide),PySem.F.plainAttrs_list.noGetattr]
 refine wpAny_bind (wpAny_pure ?_)
 unfold hookOrError
 dsimp only
 unfold attributeErrorLeaves
 dsimp only
 rw[if_pos (show(!false)=true from rfl)]
 refine wpAny_bind (wpAny_throw ?_)
 refine wpAny_bind (wpAny_isInstance hTe fg ?_)
 rw[if_pos rfl]
 exact wpAny_pure (hQ h' tk ne.keeps)
theorem vh{κ:Type}[DecidableEq κ]{knd:KeyKind prog w κ}{d I:Addr}{fp wr:List Addr}{n:Nat}{St:Nat->Heap->Prop}{R:Result->Shared->Prop}{us:List Value}{rs:List (κ×Value)}{h₁:Heap}(W:Walks prog w A.in1 I fp wr n (fun i v=>us[i]?=some v) St)(hn:n=us.length)(hrl:rs.length=us.length)(hsz:n<=sizeLine)
  (hd:d∉fp) (hpr:∀(i:Nat) (u:Value) (kv:κ×Value),us[i]?=some u->rs[i]?=some kv->∃a o m key,u=.ref a/\h₁.get? a=some o/\o.cls=.type "tuple"/\o.data=.seq #[key,kv.2] m/\knd.is kv.1 key=true/\a≠d/\a∉wr)
  (hR:∀h' tk,h'.DictOf knd d (merged [] rs)->(∀b o,b≠d->b∉wr->h₁.get? b=some o->h'.get? b=some o)->R (.ok (.ret .none)) {s with heap:=h',toks:=tk}) :
  ∀(k i:Nat) (h:Heap) (tk:Nat),n-i=k->i<=n->St i h->h.DictOf knd d (merged [] (rs.take i))->(∀b o,b≠d->b∉wr->h₁.get? b=some o->h.get? b=some o) ->
   codeAny (model prog w) A (.builtin "dict.update.loop" ⟨[.ref d,.ref I,rawInt i,.none],[]⟩) R {s with heap:=h,toks:=tk}:=by
 intro k
 induction k with
 |zero =>
  intro i h tk hk hi hst hdd hkeep
  have hin:i=n:=by omega
  subst hin
  refine codeAny_builtin mS ?_
  rw[Around.under_plainId fK _]
  show wpAny _ A.in1 (pyNext (.ref I)>>=_) _ _ _
  refine wpAny_bind (W.done {s with heap:=h,toks:=tk} _ _ hst fun h' tk' hq=>?_)
  refine wpAny_bind (wpAny_pure (wpAny_pure ?_))
  refine hR h' tk' ?_ (fun b o b1 b2 e=>hq b o b2 (hkeep b o b1 b2 e))
  rw[hn,←hrl,List.take_length]at hdd
  exact hdd.at fun o e=>hq d o (fun z=>hd (W.sub d z)) e
 |succ k ih =>
  intro i h tk hk hi hst hdd hkeep
  refine codeAny_builtin mS ?_
  rw[Around.under_plainId fK _]
  show wpAny _ A.in1 (pyNext (.ref I)>>=_) _ _ _
  refine wpAny_bind (W.item i {s with heap:=h,toks:=tk} _ _ (by omega) hst fun v h2 tk2 hv hst2 hq=>?_)
  have hil:i<rs.length:=by omega
  obtain⟨a,o,m,key,rfl,ha,hc,hdta,hkey,nad,naw⟩:=hpr i v rs[i] hv (List.getElem?_eq_getElem hil)
  have ha2:h2.get? a=some o:=hq a o naw (hkeep a o nad naw ha)
  have hdd2:h2.DictOf knd d (merged [] (rs.take i)):=hdd.at fun o e=>hq d o (fun z=>hd (W.sub d z)) e
  have hT:Shared.TypeIs {s with heap:=h2,toks:=tk2} (.ref a) "tuple":=⟨o,ha2,hc⟩
  dsimp only
  refine wpAny_bind (wpAny_holding (wpAny_bind (wpAny_tryCatch ?_)))
  unfold Builtin.Dict.pairItems
  refine wpAny_bind (wpAny_typeOf hT ?_)
  rw[if_pos (show(Value.type "tuple" == Value.type "list"||Value.type "tuple" == Value.type "tuple")=true by decide)]
  refine wpAny_bind (wpAny_seqItems ha2 hdta (wpAny_pure ?_))
  show wpAny _ _ (holding [key,rs[i].2] (dictSet d key rs[i].2)) _ _ _
  refine wpAny_holding (wpAny_dictSet_pairs hkey hdd2 (fun h3 hd3 hs3=>?_) (by have:=merged_length_le ([]:List (κ×Value)) (rs.take i);rw[List.length_take]at this;simp at this;omega))
  refine wpAny_pure ⟨plainId_quiet fK _,?_⟩
  have e1:stored (merged [] (rs.take i)) rs[i].1 rs[i].2=merged [] (rs.take (i+1)):=by
   rw[merged_take_succ [] rs i _ (List.getElem?_eq_getElem hil)]
  rw[e1]at hd3
  exact ih (i+1) h3 _ (by omega) (by omega) (W.frame (i+1) _ _ hst2 fun b hb ob e=>hs3.extBut b ob (fun z=>hd (z▸hb)) e) hd3 fun b ob b1 b2 e=>hs3.extBut b ob b1 (hq b ob b2 (hkeep b ob b1 b2 e))
theorem jX{κ:Type}[DecidableEq κ]{knd:KeyKind prog w κ}{p:Addr}{o:Obj}{us:List Value}{m:Nat}{T:String}{rs:List (κ×Value)}{Q:Value->Shared->Prop}(hh:A.handled=none)(hTy:T="list"\/T="tuple")(ho:s.heap.get? p=some o)(hcl:o.cls=.type T)(hdi:o.dict=none)(hdt:o.data=.seq us.toArray m)
  (hrl:rs.length=us.length) (hsz:us.length<=sizeLine) (hpr:∀(i:Nat) (u:Value) (kv:κ×Value),us[i]?=some u->rs[i]?=some kv->∃a o m key,u=.ref a/\s.heap.get? a=some o/\o.cls=.type "tuple"/\o.data=.seq #[key,kv.2] m/\knd.is kv.1 key=true)
  (hQ:∀h' tk,h'.DictOf knd s.heap.objs.size (merged [] rs)->(∀b o,s.heap.get? b=some o->h'.get? b=some o)->Q (.ref s.heap.objs.size) {s with heap:=h',toks:=tk}) :
  wpAny (model prog w) A (call (.type "dict") [.ref p]) Q E s:=by
 have hlt:p<s.heap.objs.size:=Heap.lt_size ho
 have hS:(s.heap.push {cls:=.type "dict",data:=.dict #[]}).get? s.heap.objs.size=some {cls:=.type "dict",data:=.dict #[]}:=Heap.get?_push_size _ rfl
 have oth:∀b o,s.heap.get? b=some o->(s.heap.push {cls:=.type "dict",data:=.dict #[]}).get? b=some o:=fun b o e=>Heap.get?_push_of_some _ e
 refine callType_codes (Q₁:=fun obj s₁=>obj=.ref s.heap.objs.size/\s₁={s with heap:=s.heap.push {cls:=.type "dict",data:=.dict #[]}}) PySem.F.kt_called_dict (PySem.F.kt_typeCall_dict_1 _) PySem.F.entry_dict_init
  (kt_code_dict_new _ ⟨rfl,rfl⟩) fun obj s₁ h₁=>?_
 obtain⟨rfl,rfl⟩:=h₁
 refine⟨⟨_,hS,rfl⟩,PySem.F.args_dict_init_2 _ _,?_⟩
 have hD0:Heap.DictOf knd (s.heap.push {cls:=.type "dict",data:=.dict #[]}) s.heap.objs.size (merged ([]:List (κ×Value)) (rs.take 0)):=Heap.DictOf.new s.heap
 generalize s.heap.push {cls:=.type "dict",data:=.dict #[]}=g at hS oth hD0⊢
 have hTd:Shared.TypeIs {s with heap:=g} (.ref s.heap.objs.size) "dict":=⟨_,hS,rfl⟩
 have hTp:Shared.TypeIs {s with heap:=g} (.ref p) T:=⟨_,oth _ _ ho,hcl⟩
 unfold Builtin.«dict.__init__» Builtin.Dict.selfAndRest Builtin.Dict.notOrdered
 refine wpAny_bind (wpAny_bind ?_)
 rw[if_pos (by decide)]
 dsimp only[List.headD]
 refine wpAny_bind (wpAny_typeOf hTd ?_)
 rw[if_neg (by decide)]
 refine wpAny_pure ?_
 refine wpAny_bind (show wpAny _ _ (Builtin.Dict.addrOf (.ref s.heap.objs.size)) _ _ _ from wpAny_pure (wpAny_pure ?_))
 show wpAny _ _ (Builtin.Dict.updateFrom "dict.__init__" s.heap.objs.size (.ref p) [] .none) _ _ _
 unfold Builtin.Dict.updateFrom
 refine wpAny_bind (wpAny_typeOf hTp ?_)
 dsimp only
 rw[if_pos (by rcases hTy with rfl|rfl<;>decide)]
 have fin:∀(g2:Heap) (tk:Nat),(∀b o,g.get? b=some o->g2.get? b=some o)->wpAny (model prog w) A.in1.in1 (pyIter (.ref p)) (fun it s2=>wpAny (model prog w) A.in1.in1 (again (.builtin "dict.update.loop" ⟨[.ref s.heap.objs.size,it,rawInt 0,.none],[]⟩))
   (fun fin s'=>match fin with
    |.done f=>wants (fun r s₂=>r=.none/\Q (.ref s.heap.objs.size) s₂) E (.ok f) s'
    |.again c'=>c'.quiet=true/\codeAny (model prog w) A.in1 c' (wants (fun r s₂=>r=.none/\Q (.ref s.heap.objs.size) s₂) E) s')
   (fun e s'=>wants (fun r s₂=>r=.none/\Q (.ref s.heap.objs.size) s₂) E (.error e) s') s2)
   (fun e s'=>wants (fun r s₂=>r=.none/\Q (.ref s.heap.objs.size) s₂) E (.error e) s') {s with heap:=g2,toks:=tk}:=by
  intro g2 tk hk2
  have ho2:g2.get? p=some o:=hk2 _ _ (oth _ _ ho)
  have hdlt:s.heap.objs.size<g2.objs.size:=Heap.lt_size (hk2 _ _ hS)
  have loop:∀(g3:Heap) (tk3:Nat) (St:Nat->Heap->Prop),Walks prog w A.in1.in1 g2.objs.size [g2.objs.size,p] [g2.objs.size] us.toArray.size (fun i v=>us.toArray[i]?=some v) St->St 0 g3->(∀b o,g2.get? b=some o->g3.get? b=some o) ->
    codeAny (model prog w) A.in1 (.builtin "dict.update.loop" ⟨[.ref s.heap.objs.size,.ref g2.objs.size,rawInt 0,.none],[]⟩) (wants (fun r s₂=>r=.none/\Q (.ref s.heap.objs.size) s₂) E) {s with heap:=g3,toks:=tk3}:=by
   intro g3 tk3 St W hst hk3
   have nd:s.heap.objs.size∉[g2.objs.size,p]:=by
    intro hm
    rcases List.mem_cons.mp hm with z|z
    ·exact absurd hdlt (by rw[z];exact Nat.lt_irrefl _)
    ·rw[List.mem_singleton]at z;exact absurd hlt (by rw[←z];exact Nat.lt_irrefl _)
   refine vh (A:=A.in1) (us:=us) (rs:=rs) (h₁:=g3) (n:=us.toArray.size) (by simpa using W) (by simp) hrl (by simpa using hsz) nd ?_ ?_ us.toArray.size 0 g3 tk3 (by simp) (Nat.zero_le _) hst (hD0.at fun o e=>hk3 _ _ (hk2 _ _ e)) (fun _ _ _ _ e=>e)
   ·intro i u kv hu hkv
    obtain⟨a,ob,mm,key,e1,e2,e3,e4,e5⟩:=hpr i u kv hu hkv
    have hal:a<s.heap.objs.size:=Heap.lt_size e2
    refine⟨a,ob,mm,key,e1,hk3 _ _ (hk2 _ _ (oth _ _ e2)),e3,e4,e5,Nat.ne_of_lt hal,fun z=>?_⟩
    rw[List.mem_singleton]at z
    exact absurd (Nat.lt_trans hal hdlt) (by rw[z];exact Nat.lt_irrefl _)
   ·intro h' tk' hd' hkp
    refine⟨rfl,hQ h' tk' hd' fun b ob e=>hkp b ob (Nat.ne_of_lt (Heap.lt_size e)) (fun z=>?_) (hk3 _ _ (hk2 _ _ (oth _ _ e)))⟩
    rw[List.mem_singleton]at z
    exact absurd (Nat.lt_trans (Heap.lt_size e) hdlt) (by rw[z];exact Nat.lt_irrefl _)
  have pne:p≠g2.objs.size:=Nat.ne_of_lt (Nat.lt_trans hlt hdlt)
  rcases hTy with rfl|rfl
  ·have hl:g2.IsList p us.toArray:=⟨o,ho2,hcl,m,hdt⟩
   refine wpAny_pyIter_list (s:={s with heap:=g2,toks:=tk}) hl (wpAny_pure ⟨plainId_quiet fK _,?_⟩)
   exact loop _ tk _ (Walks.list (A:=A.in1.in1) hh _ p pne us.toArray) ⟨⟨_,Heap.get?_push_size _ rfl,rfl,rfl⟩,hl.push _⟩ fun b o e=>Heap.get?_push_of_some _ e
  ·have hl:g2.IsTuple p us.toArray:=⟨o,ho2,hcl,m,hdt⟩
   refine wpAny_pyIter_tuple (s:={s with heap:=g2,toks:=tk}) hl (wpAny_pure ⟨plainId_quiet fK _,?_⟩)
   exact loop _ tk _ (Walks.tuple (A:=A.in1.in1) hh _ p pne us.toArray) ⟨⟨_,Heap.get?_push_size _ rfl,rfl,rfl⟩,hl.push _⟩ fun b o e=>Heap.get?_push_of_some _ e
 obtain⟨ocl,odi,odt,osl⟩:=o
 obtain rfl:ocl=_:=hcl
 obtain rfl:odi=_:=hdi
 obtain rfl:odt=_:=hdt
 rcases hTy with rfl|rfl
 ·refine wpAny_bind (nH (s:={s with heap:=g}) hh (oth _ _ ho) fun g2 tk hk2=>?_)
  dsimp only
  rw[if_pos (show(none:Option Value).isNone=true from rfl)]
  exact wpAny_bind (wpAny_rule (wpAny_bind (fin g2 tk hk2)))
 ·refine wpAny_bind (lS (s:={s with heap:=g}) hh (oth _ _ ho) fun g2 tk hk2=>?_)
  dsimp only
  rw[if_pos (show(none:Option Value).isNone=true from rfl)]
  exact wpAny_bind (wpAny_rule (wpAny_bind (fin g2 tk hk2)))
end
section
variable {X:Cx}{pins:List (Addr×Obj)}{σ:St}{H:Hp}{s:Shared}
noncomputable abbrev cB(K:PySem.W.Frag)(H:Hp):List (Key×V)->List V->Prop:=Paired fun kv y=>∃a,y=.ref a/\aJ K H a [kV kv.1,kv.2]
theorem tH(I:Inv X pins σ H s):∀{kvs:List (Key×V)}{ys:List V}{its:List Value},cB X.K H kvs ys->Vals ys its ->
  ∃rs:List (Key×Value),KV kvs rs/\rs.length=its.length/\∀(i:Nat) (u:Value) (kv:Key×Value),its[i]?=some u->rs[i]?=some kv->∃a o m key,u=.ref a/\s.heap.get? a=some o/\o.cls=.type "tuple"/\o.data=.seq #[key,kv.2] m/\(bz X.prog X.w).is kv.1 key=true:=by
 intro kvs ys its h
 induction h generalizing its with
 |nil=>intro v;cases v;exact⟨[],.nil,rfl,fun i u kv h _=>by simp at h⟩
 |@cons kv y kvs ys hd r ih =>
  intro v
  cases v with
  |cons ru rv =>
   obtain⟨a,e,hq⟩:=hd
   obtain⟨rs,k1,k2,k3⟩:=ih rv
   subst e
   cases ru
   obtain⟨jts,rj,⟨o,o1,o2,m,o3⟩,_⟩:=I.tuple hq
   obtain⟨u1,u2,rfl,r1,r2⟩:=vals2 rj
   refine⟨(kv.1,u2)::rs,.cons ⟨rfl,r2⟩ k1,by simp[k2],fun i u kv' h1 h2=>?_⟩
   cases i with
   |zero =>
    simp at h1 h2
    subst h1 h2
    exact⟨a,o,m,u1,rfl,o1,o2,by simpa using o3,mD r1⟩
   |succ i=>exact k3 i u kv' (by simpa using h1) (by simpa using h2)
theorem Inv.Ac(I:Inv X pins σ H s){a:Addr}{xs:List V}(h:aJ X.K H a xs):∃(its:List Value) (o:Obj) (n:Nat),Vals xs its/\s.heap.get? a=some o/\o.cls=.type "tuple"/\o.dict=none/\o.data=.seq its.toArray n/\xs.length<=sizeLine:=by
 rcases h with h|⟨o,its,n,hk,hc,hs,hz,r,hd⟩
 ·obtain⟨z,its,r,⟨o,e1,e2,n,e3⟩,o2,f1,f2⟩:=h.ok I.hok
  rw[e1]at f1
  cases f1
  exact⟨its,o,n,r,e1,e2,f2,e3,z⟩
 ·refine⟨its.toList,o,n,r,I.wV a o hk,hc,hd,by simpa using hs,?_⟩
  have e:=r.length
  simp only[Array.length_toList]at e
  omega
theorem qH(hc:X.calm=true):dO X (.type "dict") (fun xs H Q=>∃p ys kvs,xs=[.ref p]/\(H p=some (.lst ys)\/aJ X.K H p ys)/\cB X.K H kvs ys/\∀d,H d=none->Q (.ref d) (upd H d (.dK (fj [] kvs)))):=by
 intro pins s σ H xs us Q I r h
 obtain⟨p,ys,kvs,rfl,hp,hd,q⟩:=h
 obtain⟨u,rfl,ru⟩:=vals1 r
 cases ru
 obtain⟨its,o,T,m,rv,hTy,ho,hcl,hdi,hdt,hz⟩:∃(its:List Value) (o:Obj) (T:String) (m:Nat),Vals ys its/\(T="list"\/T="tuple")/\s.heap.get? p=some o/\o.cls=.type T/\o.dict=none/\o.data=.seq its.toArray m/\ys.length<=sizeLine:=by
  rcases hp with hp|hp
  ·obtain⟨z,its,n,rv,e⟩:=(show b6 X.prog X.w H s.heap p (.lst ys)from I.hok p _ hp)
   exact⟨its,_,"list",n,rv,.inl rfl,e,rfl,rfl,rfl,z⟩
  ·obtain⟨its,o,n,rv,e1,e2,e3,e4,z⟩:=I.Ac hp
   exact⟨its,o,"tuple",n,rv,.inr rfl,e1,e2,e3,e4,z⟩
 obtain⟨rs,k1,k2,k3⟩:=tH I hd rv
 have hl:=rv.length
 have hkl:kvs.length<=sizeLine:=by have:=KV.length k1;omega
 refine jX (knd:=bz X.prog X.w) (rs:=rs) (I.ok.hd hc) hTy ho hcl hdi hdt k2 (by omega) k3 fun h' tk hd' hk=>?_
 have hb:=I.big
 refine⟨.ref s.heap.objs.size,_,I.laid (t':=tk) hk (Nat.le_refl _) (qw (kvs:=fj [] kvs) ?_ (beq_eq_false_iff_ne.mpr (Ne.symm (Nat.ne_of_lt hb))) (KV.merge k1 .nil) hd'),rfl,q _ (I.hok.fresh (Nat.le_refl _))⟩
 have:=fk kvs []
 simp at this
 omega
end
section
variable {prog:Program}{w:World}{A:Around}{R:Result->Shared->Prop}{s:Shared}
end
section
variable {X:Cx}{pins:List (Addr×Obj)}{σ:St}{H:Hp}{s:Shared}
end
section
variable {X:Cx}
end
section
variable {g:TG}{tt:TT}{tk tv:TE}{Q:VK}{σ0:St}{H0:Hp}
end
end L2
namespace L2
open PySem
section
variable {K:PySem.W.Frag}{H:Hp}{v:V}
theorem Rp.t1{x:T}(h:Rp K H (.t [x]) v):∃a u,v=.ref a/\aJ K H a [u]/\Rp K H x u:=by
 obtain⟨a,vs,rfl,sq,r⟩:=h.aH
 obtain⟨u,q,rfl,g,r2⟩:=r.inv
 obtain rfl:=r2.cG
 exact⟨a,u,rfl,sq,g⟩
theorem Rp.t2{x y:T}(h:Rp K H (.t [x,y]) v):∃a u1 u2,v=.ref a/\aJ K H a [u1,u2]/\Rp K H x u1/\Rp K H y u2:=by
 obtain⟨a,vs,rfl,sq,r⟩:=h.aH
 obtain⟨u,q,rfl,g,r2⟩:=r.inv
 obtain⟨u2,q2,rfl,g2,r3⟩:=r2.inv
 obtain rfl:=r3.cG
 exact⟨a,u,u2,rfl,sq,g,g2⟩
theorem Rp.t3{x y z:T}(h:Rp K H (.t [x,y,z]) v):∃a u1 u2 u3,v=.ref a/\aJ K H a [u1,u2,u3]/\Rp K H x u1/\Rp K H y u2/\Rp K H z u3:=by
 obtain⟨a,vs,rfl,sq,r⟩:=h.aH
 obtain⟨u,q,rfl,g,r2⟩:=r.inv
 obtain⟨u2,q2,rfl,g2,r3⟩:=r2.inv
 obtain⟨u3,q3,rfl,g3,r4⟩:=r3.inv
 obtain rfl:=r4.cG
 exact⟨a,u,u2,u3,rfl,sq,g,g2,g3⟩
theorem Rp.t4{x y z x4:T}(h:Rp K H (.t [x,y,z,x4]) v):∃a u1 u2 u3 u4,v=.ref a/\aJ K H a [u1,u2,u3,u4]/\Rp K H x u1/\Rp K H y u2/\Rp K H z u3/\Rp K H x4 u4:=by
 obtain⟨a,vs,rfl,sq,r⟩:=h.aH
 obtain⟨u,q,rfl,g,r2⟩:=r.inv
 obtain⟨u2,q2,rfl,g2,r3⟩:=r2.inv
 obtain⟨u3,q3,rfl,g3,r4⟩:=r3.inv
 obtain⟨u4,q4,rfl,g4,r5⟩:=r4.inv
 obtain rfl:=r5.cG
 exact⟨a,u,u2,u3,u4,rfl,sq,g,g2,g3,g4⟩
end
end L2
namespace L2
open PySem PySem.Spec PyProof.Rows
section
variable {X:Cx}
section
variable {prog:Program}{w:World}{A:Around}{E:Value->Shared->Prop}{s:Shared}
end
end
section
variable {X:Cx}
theorem vj:i4 X (binaryOp .Add) (fun x y H Q=>∃a b ys,x=.ref a/\y=.ref b/\aJ X.K H a []/\aJ X.K H b ys/\Q (.ref b) H):=by
 intro pins s σ H x y u v Q I rx ry h
 obtain⟨a,b,ys,rfl,rfl,ha,hb,q⟩:=h
 cases rx
 cases ry
 obtain⟨its,r1,ht,_⟩:=I.tuple ha
 obtain⟨jts,r2,hb2,_⟩:=I.tuple hb
 cases r1
 obtain⟨⟨cls,dd,data,sl⟩,ho,hc,n,hd⟩:=id ht
 obtain⟨⟨cls2,dd2,data2,sl2⟩,ho2,hc2,n2,hd2⟩:=id hb2
 simp only at hc hd hc2 hd2
 subst hc hd hc2 hd2
 exact concat_meets ⟨_,ho,rfl⟩ ⟨_,ho2,rfl⟩ noFill_tuple_add seq_tuple_add PySem.F.slot_tuple_add PySem.F.entry_tuple_add (PySem.F.args_tuple_add_2 _ _)
   (tuple_addW0 a b _ jts.toArray n n2 dd dd2 sl sl2 (by simp)) ⟨ho,ho2,⟨.ref b,H,I,rfl,q⟩⟩
end
section
variable {X:Cx}
noncomputable def za(K:PySem.W.Frag):R2:=fun x y H Q=>∃a b xs ys,x=.ref a/\y=.ref b/\aJ K H a xs/\aJ K H b ys/\xs.length+ys.length<=sizeLine/\∀p H',aL H H'->aJ K H' p (xs++ys)->Q (.ref p) H'
theorem vm:i4 X (binaryOp .Add) (za X.K):=by
 intro pins s σ H x y u v Q I rx ry h
 obtain⟨a,b,xs,ys,rfl,rfl,ha,hb,hz,k⟩:=h
 cases xs with
 |nil=>exact vj pins s σ H _ _ u v Q I rx ry ⟨a,b,ys,rfl,rfl,ha,hb,k b H (aL.refl _) hb⟩
 |cons x r =>
  exact qY pins s σ H _ _ u v Q I rx ry ⟨a,b,_,ys,rfl,rfl,ha,hb,(by simp),hz,(fun z=>by subst z;have:=k a H (aL.refl _);rw[List.append_nil]at this;exact this ha),fun _ p hp=>k p _ (ae hp _) (aJ.of af)⟩
end
end L2
namespace L2
open PySem
@[irreducible] noncomputable def tI (X:Cx) (st:List Stmt):TS:=fun D σ H=>∃u,qi X st u/\u D σ H
theorem rG{X:Cx}{st:List Stmt}:qi X st (tI X st):=fun pins s σ H D I h=>by
 unfold tI at h
 obtain⟨u,hu,q⟩:=h
 exact hu pins s σ H D I q
theorem vq{X:Cx}{st:List Stmt}{D:Ends}{σ:St}{H:Hp}{u:TS}(h:qi X st u)(q:u D σ H):tI X st D σ H:=by
 unfold tI
 exact⟨u,h,q⟩
noncomputable def isStar:Expr->Bool
 |.Starred _ _=>true
 |_=>false
theorem vv{e:Expr}{es:List Expr}{env:PySem.Env}(h:isStar e=false):starEach (e::es) env=(false,eval e env)::starEach es env:=by
 cases e<;>first|rfl|cases h
theorem aA{X:Cx}{e:Expr}{es:List Expr}{te:TE}{t:TA}(ha:PE X e te)(hr:PA X es t)(hs:isStar e=false:=by rfl):PA X (e::es) (dQ te t):=aQ ha hr (vv hs)
theorem zb{X:Cx}{tg l:Expr}{w1 w2:TI}(h1:PI X tg l w1)(h2:PI X tg l w2):PI X tg l (fun σ H R=>w1 σ H R\/w2 σ H R):=fun pins s σ H R I h=>h.elim (h1 pins s σ H R I) (h2 pins s σ H R I)
end L2
namespace G04
open PySem L2
noncomputable def fz(ns:List Str)(o:Str):List Str:=ns.filter (fun n=>decide (n≠o))++[o]
noncomputable def bE(ns os:List Str):List Str:=os.foldl fz ns
theorem mT(ns os:List Str)(o:Str):bE ns (os++[o])=fz (bE ns os) o:=by unfold bE;rw[List.foldl_append];rfl
theorem pe(ns:List Str)(o:Str):(fz ns o).length<=ns.length+1:=by
 unfold fz
 rw[List.length_append]
 exact Nat.add_le_add_right (List.length_filter_le _ _) 1
theorem fL:∀(os ns:List Str),(bE ns os).length<=ns.length+os.length
 | [],ns=>Nat.le_refl _
 |o::r,ns=>by
  have h:=fL r (fz ns o)
  have h2:=pe ns o
  show(bE (fz ns o) r).length<=_
  rw[List.length_cons]
  omega
noncomputable def vz(K:PySem.W.Frag):Sp:=fun vs H Q _=>∃(vn:V) (b:Addr) (ns os:List Str),vs=[vn,.ref b]/\Rp K H (.t (ns.map .s)) vn/\(H b=some (.lst (os.map V.str))\/aJ K H b (os.map V.str))/\ns.length+os.length<=900 /\
 ∀(v:V) (H':Hp),aL H H'->Rp K H' (.t ((bE ns os).map .s)) v->Q v H'
section
variable {P:Program}{w:World}{K:PySem.W.Frag}{mg:Str->Option Value}{base:Heap}
theorem gY:Nm ["names","others","other"] (aj iw):=by decide +kernel
theorem pA:Lm ["names","others","other"] (aj iw):=by decide +kernel
theorem kT:aZ ["names","others","other"] ["names","others"] (aj iw):=⟨rfl,rfl,rfl,by decide +kernel,rfl,by decide +kernel,by decide +kernel⟩
theorem vA{f:Addr}{fd:FuncData}(F:iE K "bound" "bound" iw f fd)(z_tuple:mg "tuple"=none):cA P w K mg base gv 1 f fd ["names","others"] (vz K):=by
 refine F.ok kT (fun vs H Q E h=>?_) (fun cdv A outer s H vs Q E hr h=>?_)
 ·obtain⟨_,_,_,_,rfl,_⟩:=h
  rfl
 obtain⟨vn,b,ns,os,rfl,hv,hb,hl,k⟩:=h
 refine⟨_,(Z6 (@fV _ _ _ _ _ _ _ _ PassesOwn.never rfl (zb (cO (va gY 1)) (b7 (va gY 1))) (ga kT.nd pA 2) (Zh (Z3 kT.nd pA 0 (Zj vm (Z5 aX z_tuple PyProof.Rows.boot_tuple (Z1 (@fG _ _ _ _ _ _ _ _ _ _ _ (aj iw) ["names","others","other"] ["name"] [2] rfl rfl rfl (by decide +kernel) (b7 (va gY 0)) (fun _ _ _ _=>(Z2 (i:=0) (show(["name","other"]:List Str).Nodup by decide +kernel))) (fun _ _ _ _=>(@kB _ _ _ (aS Bb (va (show Nm ["name","other"] _ by show _=_;kernel_rfl) 0) (va (show Nm ["name","other"] _ by show _=_;kernel_rfl) 1) (bK _)))) (fun _ _ _ _=>(va (show Nm ["name","other"] _ by show _=_;kernel_rfl) 0)) (by intro _;rfl)) ah)) (Ze (aA (va gY 2) ah))))) (by intro _;rfl)) (Zh (aK (va gY 0)))),?_⟩
 try dsimp only[dg]
 try dsimp only[dg]
 refine rF ?_
 intro N0 c0
 fail "R"
 have fin:∀σ H1,(∃(v:V) (ov:Option V),σ=[some v,some (.ref b),ov]/\aL H H1/\Rp K H1 (.t ((bE ns (os.take os.length)).map .s)) v)->N0 σ H1:=by
  rintro σ H1 ⟨v,ov,rfl,sm,rv⟩
  rw[List.take_length]at rv
  fail "R"
  exact k v H1 sm rv
 have lo:(os.map V.str).length=os.length:=List.length_map _
 have step:∀(i:Nat) (x:V) (σ:St) (H1:Hp),(os.map V.str)[i]?=some x->(∃(v:V) (ov:Option V),σ=[some v,some (.ref b),ov]/\aL H H1/\Rp K H1 (.t ((bE ns (os.take i)).map .s)) v) ->
   cI 2 x σ H1 fun σ2 H2=>(lO (uE (za K) (Cy (fun xs H Q=>∃p ys,xs=[V.ref p]/\((bJ K H p ys/\∀(l:Addr),H l=none->Q (V.ref l) (upd H l (HO.tup ys)))\/aJ K H p ys/\Q (V.ref p) H)) (dQ (oK [Str.ofString "name"].length [2] (zE K (dX 0)) (cI 0) (yV (uE C1 (dX 0) (dX 1))) (dX 0)) jU)) (ou (dQ (dX 2) jU))) (cI 0))
    {nx:=fun σ H1=>∃(v:V) (ov:Option V),σ=[some v,some (.ref b),ov]/\aL H H1/\Rp K H1 (.t ((bE ns (os.take (i+1))).map .s)) v,rt:=Q,bk:=N0,ct:=fun σ H1=>∃(v:V) (ov:Option V),σ=[some v,some (.ref b),ov]/\aL H H1/\Rp K H1 (.t ((bE ns (os.take (i+1))).map .s)) v} σ2 H2:=by
  rintro i x σ H1 hi ⟨v,ov,rfl,sm,rv⟩
  rw[List.getElem?_map]at hi
  obtain⟨o,ho,rfl⟩:=Option.map_eq_some_iff.mp hi
  have hil:i<os.length:=(List.getElem?_eq_some_iff.mp ho).1
  have eo:os[i]=o:=(List.getElem?_eq_some_iff.mp ho).2
  have eb:bE ns (os.take (i+1))=fz (bE ns (os.take i)) o:=by rw[List.take_succ_eq_append_getElem hil,eo,mT]
  have hlb:=fL (os.take i) ns
  rw[List.length_take]at hlb
  rw[eb]
  generalize bE ns (os.take i)=L at rv hlb⊢
  obtain⟨a1,us,rfl,sq,rus⟩:=rv.aH
  obtain rfl:=rus.je
  fail "R"
  refine bT (xs:=L.map V.str) (fun j σ us Hd=>(∃y,σ=[y,some (.str o)])/\Hd=H1/\us=((L.take j).filter (fun n=>decide (n≠o))).map V.str) ⟨⟨_,rfl⟩,rfl,rfl⟩ ?_ (by rw[List.length_map];exact Nat.le_of_lt (aC (by omega))) ?_ ?_ ?_
  ·rintro j σ us Hd hj ⟨_,_,rfl⟩
   rw[List.length_map]
   exact Nat.le_trans (List.length_filter_le _ _) (by rw[List.length_take];omega)
  ·rintro j σ us Hd hj ⟨_,rfl,_⟩
   exact sq
  ·rintro j x σ us Hd hj ⟨⟨x0,rfl⟩,rfl,rfl⟩
   rw[List.getElem?_map]at hj
   obtain⟨n,hn,rfl⟩:=Option.map_eq_some_iff.mp hj
   have hjl:j<L.length:=(List.getElem?_eq_some_iff.mp hn).1
   have en:L[j]=n:=(List.getElem?_eq_some_iff.mp hn).2
   have et:(L.take (j+1)).filter (fun n=>decide (n≠o))=(L.take j).filter (fun n=>decide (n≠o))++(if n=o then []else [n]):=by
    rw[List.take_succ_eq_append_getElem hjl,List.filter_append,en]
    by_cases c:n=o<;>simp[c]
   fail "R"
   refine cJ (fun c=>?_) (fun c=>?_)
   ·have c':¬n=o:=fun z=>by subst z;simp at c
    fail "R"
    rw[et,if_neg c',List.map_append]
    rfl
   ·have c':n=o:=by simpa using c
    fail "R"
    rw[et,if_pos c',List.append_nil]
  ·rintro σ us Hd ⟨_,rfl,rfl⟩ p hp
   rw[List.length_map,List.take_length]at *
   have sp:=ae hp (.lst ((L.filter (fun n=>decide (n≠o))).map V.str))
   fail "R"
   refine .inl ⟨bJ.of af,fun l hl=>?_⟩
   have sl:=sp.trans (ae hl (.tup ((L.filter (fun n=>decide (n≠o))).map V.str)))
   have hlt:=af (H:=upd Hd p (.lst ((L.filter (fun n=>decide (n≠o))).map V.str))) (a:=l) (o:=.tup ((L.filter (fun n=>decide (n≠o))).map V.str))
   generalize upd (upd Hd p (.lst ((L.filter (fun n=>decide (n≠o))).map V.str))) l (.tup ((L.filter (fun n=>decide (n≠o))).map V.str))=H3 at sl hlt⊢
   fail "R"
   intro q hq
   have sq3:=ae hq (.tup [.str o])
   have hlt':=sq3 _ _ hlt
   have fl:(L.filter (fun n=>decide (n≠o))).length<=L.length:=List.length_filter_le _ _
   have hz:((L.filter (fun n=>decide (n≠o))).map V.str).length+[V.str o].length<=sizeLine:=by
    rw[List.length_map]
    exact Nat.le_of_lt (aC (by show(L.filter (fun n=>decide (n≠o))).length+1<=1000;omega))
   fail "R"
   intro p4 H4 s4 q4
   refine⟨_,_,rfl,sm.trans (sl.trans (sq3.trans s4)),?_⟩
   have e4:(fz L o).map T.s=((L.filter (fun n=>decide (n≠o))).map T.s)++[T.s o]:=by unfold fz;rw[List.map_append];rfl
   rw[e4]
   exact Rp.t q4 (by have:=aM.strs (K:=K) (H:=H4) (fz L o);unfold fz at this;rw[List.map_append,List.map_append]at this;exact this)
 rcases hb with hb|hb
 ·refine .inl ?_
  fail "R"
  refine kc (xs:=os.map V.str) (fun i σ H1=>∃(v:V) (ov:Option V),σ=[some v,some (.ref b),ov]/\aL H H1/\Rp K H1 (.t ((bE ns (os.take i)).map .s)) v) ⟨vn,none,rfl,aL.refl _,hv⟩ (fun i σ H1 _ h=>?_) step (by rw[lo];exact fin)
  obtain⟨_,_,_,sm,_⟩:=h
  exact bJ.of (sm _ _ hb)
 ·refine .inr ?_
  fail "R"
  refine i3 (xs:=os.map V.str) (fun i σ H1=>∃(v:V) (ov:Option V),σ=[some v,some (.ref b),ov]/\aL H H1/\Rp K H1 (.t ((bE ns (os.take i)).map .s)) v) ⟨vn,none,rfl,aL.refl _,hv⟩ (fun i σ H1 _ h=>?_) step (by rw[lo];exact fin)
  obtain⟨_,_,_,sm,_⟩:=h
  exact hb.same sm
end
mutual
noncomputable def n6(ns:List Str):Tm->List (List Str×Tm)
 |.mk h ks=>(ns,.mk h ks)::fZ ns (bnd h ks.length) ks
noncomputable def fZ(ns:List Str):List (List Str)->List Tm->List (List Str×Tm)
 |b::bs,k::ks=>n6 (bE ns b) k++fZ ns bs ks
 |_,_=>[]
end
inductive Wn:Tm->Prop
 |mk {h:Hd}{ks:List Tm}:br h ks.length=true->(∀b∈bnd h ks.length,b.length<=2)->(∀k∈ks,Wn k)->Wn (.mk h ks)
theorem Wn.wf{tm:Tm}:Wn tm->Wf tm:=by
 refine Tm.induct (P:=fun t=>Wn t->Wf t) (fun h ks ih w=>?_) tm
 cases w with
 |mk a b c=>exact .mk a fun k hk=>ih k hk (c k hk)
noncomputable abbrev Pl:=List Str×Tm
noncomputable def Ad(p:Pl):T:=.t [.t (p.1.map .s),enc p.2]
noncomputable def zc(st:List Pl):List Pl:=st.flatMap fun p=>n6 p.1 p.2
noncomputable def jN:List Pl->Nat
 | []=>0
 |p::r=>p.2.size+jN r
theorem dG:∀a b:List Pl,jN (a++b)=jN a+jN b
 | [],b=>by simp[jN]
 |x::r,b=>by rw[List.cons_append,jN,jN,dG r b];omega
theorem nI:∀a:List Pl,jN a.reverse=jN a
 | []=>rfl
 |x::r=>by rw[List.reverse_cons,dG,nI r];simp only[jN];omega
theorem rH:∀st:List Pl,st.length<=jN st
 | []=>Nat.le_refl _
 |(ns,.mk h ks)::r=>by
  have:=rH r
  rw[List.length_cons,jN,Tm.cF]
  omega
theorem iz(tm:Tm)(wf:Wf tm):(right tm).map (·.2)=tm.ks:=by
 cases wf with
 |mk ar wk =>
 rename_i h ks
 show(((bnd h ks.length).zip ks).map Prod.snd)=ks
 refine List.map_snd_zip ?_
 cases h<;>simp_all[bnd,br]
theorem iA(tm:Tm)(wf:Wf tm):(right tm).length=tm.ks.length:=by
 have z:=congrArg List.length (iz tm wf)
 rwa [List.length_map]at z
theorem Wf.kids{tm:Tm}(wf:Wf tm):∀k∈tm.ks,Wf k:=by
 cases wf with
 |mk ar wk=>exact wk
theorem jO(tm:Tm):tm.ks.length<tm.size:=by
 cases tm with
 |mk h ks =>
  rw[Tm.cF]
  show ks.length<_
  have:ks.length<=Tm.sizes ks:=by
   induction ks with
   |nil=>exact Nat.le_refl _
   |cons k r ih=>rw[Tm.bG,List.length_cons];have:=Tm.size_pos k;omega
  omega
noncomputable def jP(ns:List Str)(tm:Tm):List Pl:=(right tm).map fun q=>(bE ns q.1,q.2)
theorem rJ(ns:List Str):∀(bs:List (List Str)) (ks:List Tm),fZ ns bs ks=zc ((bs.zip ks).map fun q=>(bE ns q.1,q.2))
 | [],ks=>by cases ks<;>(unfold fZ;rfl)
 |b::bs,[]=>by unfold fZ;rfl
 |b::bs,k::ks=>by
  unfold fZ
  rw[List.zip_cons_cons,List.map_cons,rJ ns bs ks]
  rfl
theorem Ae(ns:List Str)(tm:Tm):n6 ns tm=(ns,tm)::zc (jP ns tm):=by
 cases tm with
 |mk h ks=>unfold n6;rw[rJ];rfl
theorem rK(ns:List Str):∀(l:List (List Str×Tm)),jN (l.map fun q=>(bE ns q.1,q.2))=Tm.sizes (l.map (·.2))
 | []=>rfl
 |q::r=>by rw[List.map_cons,jN,List.map_cons,Tm.bG,rK ns r]
theorem xY{ns:List Str}{tm:Tm}(w:Wf tm):jN (jP ns tm)+1=tm.size:=by
 unfold jP
 rw[rK,iz tm w]
 cases tm with
 |mk h ks=>rw[Tm.cF];rfl
theorem fM:∀{ks:List Tm}{k:Tm},k∈ks->k.size<=Tm.sizes ks
 |x::r,k,h=>by
  rw[Tm.bG]
  cases h with
  |head=>omega
  |tail _ h=>have:=fM h;omega
theorem xZ{ns:List Str}{tm:Tm}(w:Wn tm)(h:ns.length+2*tm.size<=900):∀p∈jP ns tm,Wn p.2/\p.1.length+2*p.2.size<=900:=by
 intro p hp
 obtain⟨q,hq,rfl⟩:=List.mem_map.mp hp
 cases w with
 |mk a b c =>
  rename_i hd ks
  have hz:q∈(bnd hd ks.length).zip ks:=hq
  have h1:=b _ (List.of_mem_zip hz).1
  have h2:=(List.of_mem_zip hz).2
  have h3:=fL q.1 ns
  have h4:=fM h2
  rw[Tm.cF]at h
  exact⟨c _ h2,by show(bE ns q.1).length+2*q.2.size<=900;omega⟩
theorem mU{tm:Tm}(w:Wn tm):∀q∈right tm,q.1.length<=2:=by
 cases w with
 |mk a b c=>exact fun q hq=>b _ (List.of_mem_zip (show q∈(bnd _ _).zip _ from hq)).1
noncomputable def pB(ps:List (Str×T)):T:=.t (ps.map fun p=>.t [.s p.1,p.2])
noncomputable def pD(K:PySem.W.Frag):Sp:=fun vs H Q _=>∃(vp vt:V) (ps:List (Str×T)) (tm:Tm),vs=[vp,vt]/\Rp K H (pB ps) vp/\Rp K H (enc tm) vt/\Wn tm/\tm.size<=400/\ps.length<=50 /\
 ∀(p:Addr) (H':Hp) (ws:List V),aL H H'->H p=none->H' p=some (.lst ws)->aM K H' ((n6 (bE [] (ps.map (·.1))) tm).map Ad) ws->Q (.ref p) H'
noncomputable def Bw(K:PySem.W.Frag)(H:Hp)(vp vt:V)(lt lw:Addr)(ns:List Str)(tm:Tm)(m:Nat)(σ:St)(H':Hp):Prop :=
 ∃(dn st:List Pl) (ws us:List V) (o1 o2:Option V),σ=[some vp,some vt,some (.ref lt),some (.ref lw),o1,o2]/\aL H H'/\H' lt=some (.lst ws)/\aM K H' (dn.map Ad) ws/\H' lw=some (.lst us)/\aM K H' (st.map Ad) us/\(∀p∈st,Wn p.2/\p.1.length+2*p.2.size<=900)/\dn++zc st.reverse=n6 ns tm/\dn.length+jN st=tm.size/\m=jN st
section
variable {P:Program}{w:World}{K:PySem.W.Frag}{mg:Str->Option Value}{base:Heap}{gB gR:Addr}{bfd rfd:FuncData}
theorem cz:Nm ["params","term","told","waiting","names","here"] (aj eI):=by decide +kernel
theorem iB:Lm ["params","term","told","waiting","names","here"] (aj eI):=by decide +kernel
theorem fN:aZ ["params","term","told","waiting","names","here"] ["params","term"] (aj eI):=⟨rfl,rfl,rfl,by decide +kernel,rfl,by decide +kernel,by decide +kernel⟩
theorem tJ{f:Addr}{fd:FuncData}(F:iE K "places" "places" eI f fd)(BO:cR P w K mg base "bound" 1 ["names","others"] (vz K) gB bfd)(RI:cR P w K mg base "right_in" 1 ["term"] (mO K) gR rfd):cA P w K mg base gv 2 f fd ["params","term"] (pD K):=by
 refine F.ok fN (fun vs H Q E h=>?_) (fun cdv A outer s H vs Q E hr h=>?_)
 ·obtain⟨_,_,_,_,rfl,_⟩:=h
  rfl
 obtain⟨vp,vt,ps,tm,rfl,hp,ht,wf,hsz,hpl,k⟩:=h
 refine⟨_,(Z6 (sa fN.nd iB 2 (bj ah)) (Z6 (Z3 fN.nd iB 3 (@bj _ _ _ _ (Z1 (Ze (Z1 (Z0 BO (Z1 (bZ ah) (Z1 (Z4 (aj eI) ["params","term","told","waiting","names","here"] ["param","kind"] [] (b7 (va cz 0)) (fun _ _ _ _=>(Zc (2) (Zg (Z2 (i:=0) (show(["param","kind"]:List Str).Nodup by decide +kernel)) (aU (Z2 (i:=1) (show(["param","kind"]:List Str).Nodup by decide +kernel)) bq)))) (fun _ _ _ _=>(va (show Nm ["param","kind"] _ by show _=_;kernel_rfl) 0))) ah))) (aA (va cz 1) ah))) ah))) (Z6 (@uz _ _ _ _ _ _ PassesOwn.never (uG (va cz 3) (fun _=>rfl)) (Z6 (@fT _ _ _ _ _ _ (zR PySem.F.plainAttrs_list PySem.F.slot_list_pop PySem.F.type_list_pop zS (va cz 3)) (Zc (2) (Zg (ga fN.nd iB 4) (aU (ga fN.nd iB 5) bq))) (by rfl) (by rfl) (by rfl)) (Z6 (@cS _ _ _ _ (Zb PySem.F.slot_list_append PySem.F.type_list_append dB (va cz 2) (Z1 (Ze (Z1 (va cz 4) (aA (va cz 5) ah))) ah)) (by rfl)) (Zh (@cS _ _ _ _ (Zb PySem.F.slot_list_extend PySem.F.type_list_extend mz (va cz 3) (Z1 (@sZ _ _ _ _ _ _ _ _ _ _ _ (Z4 (aj eI) ["params","term","told","waiting","names","here"] ["others","inner"] [4] (@cO _ _ _ _ (Z0 RI (aA (va cz 5) ah))) (fun _ _ _ _=>(Zc (2) (Zg (Z2 (i:=0) (show(["others","inner","names"]:List Str).Nodup by decide +kernel)) (aU (Z2 (i:=1) (show(["others","inner","names"]:List Str).Nodup by decide +kernel)) bq)))) (fun _ _ _ _=>(Ze (Z1 (Z0 BO (Z1 (va (show Nm ["others","inner","names"] _ by show _=_;kernel_rfl) 2) (aA (va (show Nm ["others","inner","names"] _ by show _=_;kernel_rfl) 0) ah))) (aA (va (show Nm ["others","inner","names"] _ by show _=_;kernel_rfl) 1) ah))))) cE cE (bV (jI gG ak))) ah)) (by rfl)))))) (Zh (aK (va cz 2)))))),?_⟩
 try dsimp only[dg]
 obtain⟨pa,pvs,rfl,psq,prs⟩:=hp.aH
 have lp:=prs.length
 rw[List.length_map]at lp
 fail "R"
 intro lt hlt
 have s1:=ae hlt (.lst [])
 fail "R"
 intro p0 hp0
 have s2:=s1.trans (ae hp0 (.tup []))
 have glt:upd (upd H lt (.lst [])) p0 (.tup []) lt=some (.lst []):=ae hp0 _ _ _ af
 have gp0:upd (upd H lt (.lst [])) p0 (.tup []) p0=some (.tup []):=af
 generalize upd (upd H lt (.lst [])) p0 (.tup [])=H2 at s2 glt gp0⊢
 have psq2:=aJ.same s2 psq
 have prs2:=prs.same s2
 fail "R"
 refine bT (xs:=pvs) (fun i σ us Hd=>(∃x y,σ=[x,y])/\Hd=H2/\us=((ps.take i).map (·.1)).map V.str) ⟨⟨_,_,rfl⟩,rfl,rfl⟩ ?_ (Nat.le_of_lt (aC (by omega))) ?_ ?_ ?_
 ·rintro j σ us Hd hj ⟨_,_,rfl⟩
  rw[List.length_map,List.length_map,List.length_take];omega
 ·rintro j σ us Hd hj ⟨_,rfl,_⟩
  exact psq2
 ·rintro j x σ us Hd hj ⟨⟨x0,y0,rfl⟩,rfl,rfl⟩
  obtain⟨y,hy,ry⟩:=prs2.get' hj
  rw[List.getElem?_map]at hy
  obtain⟨q,hq,rfl⟩:=Option.map_eq_some_iff.mp hy
  have hjl:j<ps.length:=(List.getElem?_eq_some_iff.mp hq).1
  have eq1:ps[j]=q:=(List.getElem?_eq_some_iff.mp hq).2
  obtain⟨qa,u1,u2,rfl,qsq,g1,g2⟩:=ry.t2
  obtain rfl:=g1.aI
  fail "R"
  rw[List.take_succ_eq_append_getElem hjl,eq1,List.map_append,List.map_append]
  rfl
 ·rintro σ us Hd ⟨_,rfl,rfl⟩ lc hlc
  have ec:((ps.take pvs.length).map (·.1)).map V.str=(ps.map (·.1)).map V.str:=by rw[lp,List.take_length]
  rw[ec]
  have s3:=ae hlc (.lst ((ps.map (·.1)).map V.str))
  fail "R"
  ·exact(Rp.t (aJ.of (s3 _ _ gp0)) .nil:Rp K _ (.t (([]:List Str).map .s)) _)
  refine⟨.inl af,by rw[List.length_map,List.length_nil];omega,fun v1 H3 s4 rv1=>?_⟩
  have s34:=s3.trans s4
  have s5:=s2.trans s34
  have glt3:=s34 _ _ glt
  clear s3 s4 psq2 prs2 gp0
  fail "R"
  intro p1 hp1
  have s6:=ae hp1 (.tup [v1,vt])
  have glt4:=s6 _ _ glt3
  have gp1:upd H3 p1 (.tup [v1,vt]) p1=some (.tup [v1,vt]):=af
  have rv2:=rv1.same s6
  have s7:=s5.trans s6
  generalize upd H3 p1 (.tup [v1,vt])=H4 at glt4 gp1 rv2 s6 s7⊢
  fail "R"
  intro lw hlw
  have s8:=ae hlw (.lst [.ref p1])
  have nlw:lt≠lw:=aB glt4 hlw
  have hlw0:H lw=none:=by
   cases e:H lw with
   |none=>rfl
   |some o=>rw[s7 _ _ e]at hlw;cases hlw
  fail "R"
  refine⟨Bw K H (.ref pa) vt lt lw (bE [] (ps.map (·.1))) tm,⟨tm.size,[],[(bE [] (ps.map (·.1)),tm)],[],[.ref p1],none,none,rfl,s7.trans s8,s8 _ _ glt4,.nil,af,.one (Rp.t (aJ.of (s8 _ _ gp1)) (.cons (rv2.same s8) (.one (ht.same (s7.trans s8))))),?_,?_,?_,?_⟩,?_⟩
  ·intro p hp
   have hb:=fL (ps.map (·.1)) []
   rw[List.length_map,List.length_nil]at hb
   cases hp with
   |head=>exact⟨wf,by show(bE [] (ps.map (·.1))).length+2*tm.size<=900;omega⟩
   |tail _ h=>cases h
  ·simp[zc]
  ·simp[jN]
  ·simp[jN]
  clear s8 hlw rv2 gp1 glt4 hp1 s7 s6 H4
  rintro m σ H' ⟨dn,st,ws,us,o1,o2,rfl,sm,h1,r1,h2,r2,wst,e1,e2,rfl⟩
  have l1:=r1.length
  rw[List.length_map]at l1
  refine⟨_,rfl,_,.inl ⟨us,bJ.of h2,rfl⟩,?_⟩
  rcases List.eq_nil_or_concat st with rfl|⟨st',hd,rfl⟩
  ·obtain rfl:=r2.cG
   refine dh rfl ?_
   fail "R"
   have z:dn=n6 (bE [] (ps.map (·.1))) tm:=by simpa[zc]using e1
   exact k lt H' ws sm hlt h1 (by rw[←z];exact r1)
  ·rw[List.concat_eq_append]at *
   rw[List.map_append]at r2
   obtain⟨us',ul,rfl,r3,r4⟩:=r2.split
   obtain⟨u,q,rfl,ru,rq⟩:=(show aM K H' [Ad hd] ul from r4).inv
   obtain rfl:=rq.cG
   obtain⟨wh,whl⟩:=wst hd (by simp)
   obtain⟨hn,ht5⟩:=hd
   replace wh:Wn ht5:=wh
   replace whl:hn.length+2*ht5.size<=900:=whl
   obtain⟨ua,nv,tv,rfl,usq,rn,rt⟩:=(show Rp K H' (.t [.t (hn.map .s),enc ht5]) u from ru).t2
   have hz:dn.length+jN st'+ht5.size=tm.size:=by
    rw[dG]at e2
    simp only[jN]at e2
    omega
   have hk:=jO ht5
   refine wO (by simp) ?_
   refine⟨fun σ' H''=>∃m',m' < jN (st'++[(hn,ht5)])/\Bw K H (.ref pa) vt lt lw (bE [] (ps.map (·.1))) tm m' σ' H'',fun _ _ z=>z,?_⟩
   have hlast:(us'++[V.ref ua])[(us'++[V.ref ua]).length-1]?=some (V.ref ua):=by simp
   have edl:(us'++[V.ref ua]).dropLast=us':=List.dropLast_concat
   have k3:Kt H' (upd H' lw (.lst (us'++[V.ref ua]).dropLast)):=Kt.lst h2 _
   have h3t:upd H' lw (.lst (us'++[V.ref ua]).dropLast) lt=some (.lst ws):=by rw[aq nlw];exact h1
   have h3w:upd H' lw (.lst (us'++[V.ref ua]).dropLast) lw=some (.lst (us'++[V.ref ua]).dropLast):=af
   have usq3:=usq.kt k3
   have lws:ws.length<sizeLine:=aC (by omega)
   fail "R"
   intro p5 hp5
   have k4:Kt (upd H' lw (.lst (us'++[V.ref ua]).dropLast)) (upd (upd H' lw (.lst (us'++[V.ref ua]).dropLast)) p5 (.tup [nv,tv])):=Kt.same (ae hp5 _)
   have h4t:=ae hp5 (.tup [nv,tv]) _ _ h3t
   have h4w:=ae hp5 (.tup [nv,tv]) _ _ h3w
   have h4p:upd (upd H' lw (.lst (us'++[V.ref ua]).dropLast)) p5 (.tup [nv,tv]) p5=some (.tup [nv,tv]):=af
   have sm4:aL H (upd (upd H' lw (.lst (us'++[V.ref ua]).dropLast)) p5 (.tup [nv,tv])):=fun b o e=>by
    refine ae hp5 _ b o ?_
    have n2:b≠lw:=aB e hlw0
    rw[aq n2];exact sm b o e
   have k34:=k3.trans k4
   generalize upd (upd H' lw (.lst (us'++[V.ref ua]).dropLast)) p5 (.tup [nv,tv])=H4 at k34 h4t h4w h4p sm4⊢
   rw[edl]at h4w
   have k5:Kt H4 (upd H4 lt (.lst (ws++[V.ref p5]))):=Kt.lst h4t _
   have h5w:upd H4 lt (.lst (ws++[V.ref p5])) lw=some (.lst us'):=by rw[aq nlw.symm];exact h4w
   have k35:=k34.trans k5
   have rt5:=rt.kt k35
   have wf5:=wh.wf
   have hkl:ht5.ks.length<=900:=by omega
   fail "R"
   intro p6 H6 ws6 s6 h6 r6
   have sm5:aL H (upd H4 lt (.lst (ws++[V.ref p5]))):=fun b o e=>by
    have n2:b≠lt:=aB e hlt
    rw[aq n2];exact sm4 b o e
   have h5t:upd H4 lt (.lst (ws++[V.ref p5])) lt=some (.lst (ws++[V.ref p5])):=af
   generalize upd H4 lt (.lst (ws++[V.ref p5]))=H5 at k35 k5 h5w h5t sm5 rt5 s6⊢
   fail "R"
   have l6:=r6.length
   rw[List.length_map,iA ht5 wf5]at l6
   have rn6:=(rn.kt k35).same s6
   refine cy (K:=K) (a:=p6) (xs:=ws6) (fun i σ us2 Hd=>(∃x y,σ=[x,y,some nv])/\aL H6 Hd/\aM K Hd (((right ht5).take i).map fun q=>Ad (bE hn q.1,q.2)) us2) ⟨⟨_,_,rfl⟩,aL.refl _,.nil⟩ ?_ (Nat.le_of_lt (aC (by omega))) ?_ ?_ ?_
   ·rintro i σ us2 Hd hi ⟨_,_,r⟩
    rw[r.length,List.length_map,List.length_take];omega
   ·rintro i σ us2 Hd hi ⟨_,sd,_⟩
    exact bJ.of (sd _ _ h6)
   ·rintro i x σ us2 Hd hi ⟨⟨x0,y0,rfl⟩,sd,r⟩
    obtain⟨y,hy,ry⟩:=r6.get' hi
    rw[List.getElem?_map]at hy
    obtain⟨q,hq,rfl⟩:=Option.map_eq_some_iff.mp hy
    have hil:i<(right ht5).length:=(List.getElem?_eq_some_iff.mp hq).1
    have eq1:(right ht5)[i]=q:=(List.getElem?_eq_some_iff.mp hq).2
    have hqm:q∈right ht5:=by rw[←eq1];exact List.getElem_mem hil
    have hq2:q.1.length<=2:=mU wh q hqm
    obtain⟨qa,u1,u2,rfl,qsq,g1,g2⟩:=(show Rp K H6 (.t [.t (q.1.map .s),enc q.2]) x from ry).t2
    obtain⟨oa,ovs,rfl,osq,ors⟩:=g1.aH
    obtain rfl:=ors.je
    have qsqd:=aJ.same sd qsq
    have osqd:=aJ.same sd osq
    have rnd:=rn6.same sd
    have hsp:=Tm.size_pos ht5
    have whl':hn.length+2*ht5.size<=900:=whl
    have hlq:hn.length+q.1.length<=900:=by omega
    fail "R"
    intro v7 H7 s7 rv7
    fail "R"
    intro p8 hp8
    have s8:=ae hp8 (.tup [v7,u2])
    have s78:=s7.trans s8
    fail "R"
    ·exact sd.trans s78
    rw[List.take_succ_eq_append_getElem hil,eq1,List.map_append]
    exact(r.same s78).snoc (Rp.t (aJ.of af) (.cons (rv7.same s8) (.one ((g2.same sd).same s78))))
   ·rintro σ us2 Hd ⟨_,sd,r⟩ p9 hp9
    have e9:(right ht5).take ws6.length=right ht5:=by rw[l6,←iA ht5 wf5,List.take_length]
    rw[e9]at r
    have s9:=ae hp9 (.lst us2)
    have s69:=s6.trans (sd.trans s9)
    have l9:=r.length
    rw[List.length_map,iA ht5 wf5]at l9
    have h9w:=s69 _ _ h5w
    have h9t:=s69 _ _ h5t
    have h9p:upd Hd p9 (.lst us2) p9=some (.lst us2):=af
    have r9:=r.same s9
    generalize upd Hd p9 (.lst us2)=H9 at s69 h9w h9t h9p r9⊢
    fail "R"
    ·rw[oV,List.length_reverse];exact small (by omega)
    rw[oV]
    intro p10 hp10
    have s10:=ae hp10 (.lst us2.reverse)
    have h10w:=s10 _ _ h9w
    have h10t:=s10 _ _ h9t
    have h10p:upd H9 p10 (.lst us2.reverse) p10=some (.lst us2.reverse):=af
    have s610:=s69.trans s10
    have r10:=r9.same s10
    generalize upd H9 p10 (.lst us2.reverse)=H10 at s610 h10w h10t h10p r10⊢
    have l3:=r3.length
    rw[List.length_map]at l3
    have hst:=rH st'
    have hlx:us'.length+us2.reverse.length<=sizeLine:=by rw[List.length_reverse];exact small (by omega)
    have k11:Kt H10 (upd H10 lw (.lst (us'++us2.reverse))):=Kt.lst h10w _
    have kA:=k35.trans ((Kt.same s610).trans k11)
    have kz:=xY (ns:=hn) wf5
    fail "R"
    ·exact(show jN st'+jN (jP hn ht5)<jN (st'++[(hn,ht5)]) by rw[dG];have:jN [(hn,ht5)]=ht5.size:=rfl;omega)
    refine⟨dn++[(hn,ht5)],st'++(jP hn ht5).reverse,ws++[.ref p5],us'++us2.reverse,_,_,rfl,?_,?_,?_,af,?_,?_,?_,?_,?_⟩
    ·intro b o e
     have n2:b≠lw:=aB e hlw0
     rw[aq n2];exact s610 b o (sm5 b o e)
    ·rw[aq nlw];exact h10t
    ·rw[List.map_append]
     exact(r1.kt kA).snoc (Rp.t ((aJ.of h4p).kt (k5.trans ((Kt.same s610).trans k11))) (.cons (rn.kt kA) (.one (rt.kt kA))))
    ·rw[List.map_append,List.map_reverse]
     refine(r3.kt kA).append ?_
     have e11:(jP hn ht5).map Ad=(right ht5).map fun q=>Ad (bE hn q.1,q.2):=by unfold jP;rw[List.map_map];rfl
     rw[e11]
     exact(r10.kt k11).reverse
    ·intro p hp
     rcases List.mem_append.mp hp with h|h
     ·exact wst p (List.mem_append_left _ h)
     ·exact xZ wh whl p (List.mem_reverse.mp h)
    ·rw[List.reverse_append,List.reverse_reverse]
     have e12:dn++zc (st'++[(hn,ht5)]).reverse=n6 (bE [] (ps.map (·.1))) tm:=e1
     rw[List.reverse_append]at e12
     rw[←e12]
     simp only[zc,List.flatMap_append,List.reverse_cons,List.reverse_nil,List.nil_append,List.flatMap_cons,List.flatMap_nil,List.append_nil,List.append_assoc,List.cons_append]
     rw[Ae]
     simp[zc]
    ·rw[List.length_append,dG,nI];have:[(hn,ht5)].length=1:=rfl;omega
    ·rw[dG,nI]
end
end G04
namespace L2
open PySem PySem.Spec PyProof.Rows
theorem jE{α β:Type}(f:α->β):∀(xs:List α) (k:Nat),(xs.map f).eraseIdx k=(xs.eraseIdx k).map f
 | [],_=>rfl
 |x::r,0=>rfl
 |x::r,k+1=>by rw[List.map_cons,List.eraseIdx_cons_succ,List.eraseIdx_cons_succ,List.map_cons,jE f r k]
section
variable {X:Cx}
noncomputable def ya:V->List V->Hp->VK->Prop:=fun x vs H Q=>∃(l:Addr) (xs:List Str) (y:Str) (k:Nat),x=.ref l/\vs=[.str y]/\H l=some (.lst (xs.map V.str))/\xs[k]?=some y/\(∀m,m<k->xs[m]?≠some y)/\Q .cW (upd H l (.lst ((xs.eraseIdx k).map V.str)))
noncomputable def CO(y:Str):Value->Bool
 |.str x _=>decide (x=y)
 |_=>false
theorem tK:Ca X "list.remove" ya:=by
 intro pins s σ H x vs v us Q I rx rv h
 obtain⟨l,xs,y,k,rfl,rfl,hH,hy,hno,q⟩:=h
 cases rx
 obtain⟨u,rfl,ru⟩:=rv.one
 obtain⟨t,rfl⟩:=ru
 obtain⟨z,its,n,r,hl,e⟩:=I.qv hH
 have at_:∀{i:Nat}{w:Value},its[i]?=some w->∃a t',xs[i]?=some a/\w=.str a t':=fun{i w} hw=>by
  have hi:i<its.length:=(List.getElem?_eq_some_iff.mp hw).1
  have hi':i<xs.length:=by rw[List.length_map]at hl;omega
  obtain⟨w',h1,⟨t',h2⟩⟩:=r.get (i:=i) (x:=.str xs[i]) (by rw[List.getElem?_map,List.getElem?_eq_getElem hi'];rfl)
  rw[hw]at h1
  cases h1
  exact⟨_,t',List.getElem?_eq_getElem hi',h2⟩
 have hk:k<its.length:=by
  have:=(List.getElem?_eq_some_iff.mp hy).1
  rw[List.length_map]at hl
  omega
 have hkA:k<its.toArray.size:=by rw[List.size_toArray];exact hk
 refine call_meets F.slot_list_remove ⟨_,e,rfl⟩ F.entry_list_remove (F.args_list_remove_2 _ _)
  (MeetsSeq.list_remove l its.toArray n (.str y t) (CO y) (fun w hw=>?_) k hkA ?_ (fun m hm hmk=>?_) (by rw[List.size_toArray];omega)) ⟨e,?_⟩
 ·obtain⟨i,hi,hw'⟩:=List.getElem_of_mem (List.mem_toArray.mp hw)
  obtain⟨a,t',_,rfl⟩:=at_ (i:=i) (w:=w) (by rw[List.getElem?_eq_getElem hi,hw'])
  intro _ _ _ _ _ _ h
  exact wpAny_eqBool_str h
 ·obtain⟨a,t',h1,h2⟩:=at_ (i:=k) (w:=its[k]) (List.getElem?_eq_getElem hk)
  rw[hy]at h1
  cases h1
  show CO y its.toArray[k]=true
  rw[List.getElem_toArray,h2]
  simp[CO]
 ·have hm':m<its.length:=by rwa [List.size_toArray]at hm
  obtain⟨a,t',h1,h2⟩:=at_ (i:=m) (w:=its[m]) (List.getElem?_eq_getElem hm')
  rw[List.getElem_toArray,h2]
  have:=hno m hmk
  show decide (a=y)=false
  exact decide_eq_false fun z=>this (by rw[h1,z])
 refine⟨.cW,_,I.xr (its':=its.eraseIdx k) hH e ?_ (by have:=r.eraseIdx k;rwa [jE]at this) ?_,rfl,q⟩
 ·show its.toArray.eraseIdxIfInBounds k=(its.eraseIdx k).toArray
  rw[List.eraseIdxIfInBounds_toArray]
 ·have:=mw (xs.map V.str) k
  rw[jE]at this
  omega
end
section
variable {X:Cx}
theorem vB(hc:X.calm=true):dO X (.builtin "sum") (fun xs H Q=>∃(p:Addr) (ns:List Int),xs=[.ref p]/\bJ X.K H p (ns.map V.int)/\Q (.int ns.sum) H):=by
 intro pins s σ H xs us Q I r h
 obtain⟨p,ns,rfl,hq,q⟩:=h
 obtain⟨u,rfl,ru⟩:=vals1 r
 cases ru
 obtain⟨its,rv,pl,hz⟩:=I.list hq
 have hi:IntsAre its ns:=intsAre_of rv
 obtain⟨xs,hxs⟩:=hi.allInts.items
 have hl:=pl.isList
 rw[hxs]at hl
 have hn:(numsOf (intItems xs).toList)=ns:=by rw[←hxs];exact hi.numsOf
 rw[nums_intItems]at hn
 refine sum_intListG (I.ok.hd hc) hl fun h' tk t' hk=>?_
 refine⟨.int _,H,I.kept hk,⟨_,rfl⟩,?_⟩
 rw[preSum_eq,List.take_of_length_le (by simp),hn]
 exact q
end
end L2
namespace G04
open PySem L2
noncomputable def Un(xs:List Str):Prop:=∀(i j:Nat) (x:Str),xs[i]?=some x->xs[j]?=some x->i=j
noncomputable def lets:List Nat:=(Str.ofString "abcdefghijklmnopqrstuvwxyz").cps.toList
theorem yb:∀i<26,∀j<26,lets[i]?=lets[j]?->i=j:=by decide +kernel
theorem vC:lets.length=26:=by decide +kernel
noncomputable def lK(pre:List Nat)(d:Int)(i:Nat)(x:Str):Prop:=∃c r,iI lets ((d+7*(i:Int)) % 26)=some c/\x.cps.toList=pre++c::r
theorem lK.un{pre:List Nat}{d:Int}{i j:Nat}{x:Str}(hi:i<26)(hj:j<26)(a:lK pre d i x)(b:lK pre d j x):i=j:=by
 obtain⟨c,r,h1,h2⟩:=a
 obtain⟨c',r',h3,h4⟩:=b
 rw[h2]at h4
 have e:=List.append_cancel_left h4
 injection e with e _
 subst e
 have f:∀n:Int,0<=n->n<26->iI lets n=lets[n.toNat]?:=fun n h0 h=>by
  have hk:n.toNat<lets.length:=by rw[vC];omega
  have ek:n=((n.toNat:Nat):Int):=by omega
  have q:iI lets ((n.toNat:Nat):Int)=some lets[n.toNat]:=bC (List.getElem?_eq_getElem hk)
  rw[←ek]at q
  rw[q,List.getElem?_eq_getElem hk]
 rw[f _ (by omega) (by omega)]at h1 h3
 have:=yb _ (by omega) _ (by omega) (h1.trans h3.symm)
 omega
theorem lK.snoc{pre:List Nat}{d:Int}{i:Nat}{x:Str}(a:lK pre d i x)(y:Str):lK pre d i (x++y):=by
 obtain⟨c,r,h1,h2⟩:=a
 refine⟨c,r++y.cps.toList,h1,?_⟩
 show(x.cps++y.cps).toList=_
 rw[Array.toList_append,h2]
 simp
theorem lK.De{pre:List Nat}{d:Int}{xs:List Str}(hl:xs.length<=26)(h:∀j x,xs[j]?=some x->lK pre d j x):Un xs:=fun i j x ei ej=>by
 have:=(List.getElem?_eq_some_iff.mp ei).1
 have:=(List.getElem?_eq_some_iff.mp ej).1
 exact lK.un (by omega) (by omega) (h i x ei) (h j x ej)
theorem lK.last{pre:List Nat}{d:Int}{xs:List Str}{x2 x1 y:Str}(hl:(xs++[x2,x1]).length<=26)(hy:0<y.length)(h:∀j x,(xs++[x2,x1])[j]?=some x->lK pre d j x):Un (xs++[x2,x2++y]):=by
 have hl':xs.length+2<=26:=by simpa using hl
 have e2:lK pre d xs.length x2:=h xs.length x2 (by simp)
 have e3:lK pre d xs.length (x2++y):=e2.snoc y
 have ne:x2++y≠x2:=fun z=>by
  have:=congrArg Str.length z
  rw[strLen_append]at this
  omega
 have old:∀j x,j<xs.length+1->(xs++[x2,x2++y])[j]?=some x->lK pre d j x:=fun j x hj e=>by
  refine h j x ?_
  by_cases c:j<xs.length
  ·rw[List.getElem?_append_left c]at e⊢;exact e
  ·have:j=xs.length:=by omega
   subst this
   simp at e⊢
   exact e
 intro i j x ei ej
 have li:=(List.getElem?_eq_some_iff.mp ei).1
 have lj:=(List.getElem?_eq_some_iff.mp ej).1
 have ll:(xs++[x2,x2++y]).length=xs.length+2:=by simp
 rw[ll]at li lj
 have lst:∀k x,k=xs.length+1->(xs++[x2,x2++y])[k]?=some x->x=x2++y:=fun k x hk e=>by
  subst hk
  rw[List.getElem?_append_right (by omega)]at e
  simp at e
  exact e.symm
 by_cases ci:i<xs.length+1
 ·by_cases cj:j<xs.length+1
  ·exact lK.un (by omega) (by omega) (old i x ci ei) (old j x cj ej)
  ·have hx:=lst j x (by omega) ej
   subst hx
   have:=lK.un (by omega) (by omega) (old i _ ci ei) e3
   subst this
   exact absurd (by simpa using ei) ne.symm
 ·by_cases cj:j<xs.length+1
  ·have hx:=lst i x (by omega) ei
   subst hx
   have:=lK.un (by omega) (by omega) (old j _ cj ej) e3
   subst this
   exact absurd (by simpa using ej) ne.symm
  ·omega
noncomputable def Lo(x:Str):Prop:=∀c∈x.cps.toList,c<1000
theorem Lo.append{x y:Str}(a:Lo x)(b:Lo y):Lo (x++y):=fun c h=>by
 have h':c∈(x.cps++y.cps).toList:=h
 rw[Array.toList_append]at h'
 rcases List.mem_append.mp h' with h|h
 ·exact a c h
 ·exact b c h
theorem Lo.slice{x:Str}(a:Lo x)(l u:Option Int):Lo (Txt.slice x l u):=fun c h=>by
 unfold Txt.slice at h
 split at h
 ·exact a c h
 ·rw[List.toList_toArray]at h
  obtain⟨i,_,e⟩:=List.mem_filterMap.mp h
  refine a c ?_
  rw[Array.mem_toList_iff]
  exact Array.mem_of_getElem? e
theorem rL:∀c∈lets,c<1000:=by decide +kernel
theorem Lo.one{c:Nat}(h:c∈lets):Lo ⟨#[c]⟩:=fun d hd=>by
 have:d=c:=by simpa using hd
 rw[this]
 exact rL c h
theorem Lo.q(b:Bool):Lo (Txt.mul "q" (if b then 1 else 0)):=by
 have h:∀b:Bool,((Txt.mul "q" (if b then 1 else 0)).cps.toList.all (· < 1000))=true:=by decide +kernel
 intro c hc
 have:=List.all_eq_true.mp (h b) c hc
 simpa using this
theorem Lo.q1:Lo (Str.ofString "q"):=by
 have h:((Str.ofString "q").cps.toList.all (· < 1000))=true:=by decide +kernel
 intro c hc
 have:=List.all_eq_true.mp h c hc
 simpa using this
noncomputable def rM:Sp:=fun vs H Q _=>∃(f:Addr) (m:Nat),vs=[.ref f,.int m]/\1<=m/\m<=26/\bM H f /\
 ∀(r:Addr) (H':Hp) (xs:List Str),Ext f H H'->H r=none->H' r=some (.lst (xs.map V.str))->xs.length=m->(∀x∈xs,x.length<=20/\Lo x)->Un xs->Q (.ref r) H'
theorem Ext.free{f:Addr}{H H':Hp}(e:Ext f H H'){l:Addr}(h:H' l=none):H l=none:=by
 cases q:H l with
 |none=>rfl
 |some o =>
  by_cases n:l=f
  ·subst n;obtain⟨a,b,z⟩:=e.2;rw[h]at z;cases z
  ·rw[e.1 l o n q]at h;cases h
theorem gZ(x:Str):∀xs:List Str,zQ (.str x) (xs.map V.str)=decide (x∈xs)
 | []=>rfl
 |y::r=>by
  have ih:=gZ x r
  unfold zQ at ih⊢
  rw[List.map_cons,List.any_cons,ih]
  by_cases h:y=x
  ·subst h;simp[wN]
  ·have h2:¬x=y:=fun z=>h z.symm
   by_cases h3:x∈r<;>simp[wN,h,h2,h3]
theorem iC:∀xs:List Str,(xs.map V.str).all gk=true
 | []=>rfl
 |y::r=>by rw[List.map_cons,List.all_cons,iC r];rfl
end G04
namespace L2
open PySem
theorem Bx{K:PySem.W.Frag}{i:Nat}{a:Addr}{xs:List V}{g:TG}{tb:TS}{D:Ends}{σ:St}{H:Hp}(Pv:Nat->St->Hp->Prop)(hv:σ[i]?=some (some (.ref a)))
  (hb:(H a=some (.lst xs)/\∀(j:Nat) (σ1:St) (H1:Hp),Pv j σ1 H1->H1 a=some (.lst xs))\/(aJ K H a xs/\∀(j:Nat) (σ1:St) (H1:Hp),Pv j σ1 H1->aJ K H1 a xs)) (h0:Pv 0 σ H)
  (hs:∀(j:Nat) (x:V) (σ1:St) (H1:Hp),xs[j]?=some x->Pv j σ1 H1->g x σ1 H1 fun σ2 H2=>tb {D with nx:=Pv (j+1),ct:=Pv (j+1),bk:=D.nx} σ2 H2) (hd:∀(σ1:St) (H1:Hp),Pv xs.length σ1 H1->D.nx σ1 H1) :
  A6 (fun σ H R=>yU K (dX i) σ H R\/zE K (dX i) σ H R) g tb D σ H:=by
 rcases hb with⟨h,hl⟩|⟨h,hl⟩
 ·exact .inl ⟨_,hv,a,rfl,⟨_,bJ.of h⟩,kc Pv h0 (fun j σ1 H1 hj p=>bJ.of (hl j σ1 H1 p)) hs hd⟩
 ·exact .inr ⟨_,hv,a,rfl,⟨_,h⟩,i3 Pv h0 (fun j σ1 H1 hj p=>hl j σ1 H1 p) hs hd⟩
theorem aL.qI{H H1:Hp}{l:Addr}(s:aL H H1)(h:H l=none)(o:HO):aL H (upd H1 l o):=fun b o' e=>by rw[aq (aB e h)];exact s b o' e
end L2
namespace G04
open PySem L2
noncomputable def AW(p:Str×T):T:=.t [.s p.1,p.2]
noncomputable def iF(K:PySem.W.Frag)(H:Hp)(a:Addr)(ps:List (Str×T)):Prop:=∃vs,H a=some (.lst vs)/\aM K H (ps.map AW) vs
theorem iF.same{K:PySem.W.Frag}{H H':Hp}{a:Addr}{ps:List (Str×T)}(h:iF K H a ps)(s:aL H H'):iF K H' a ps:=by
 obtain⟨vs,h1,h2⟩:=h
 exact⟨vs,s _ _ h1,h2.same s⟩
noncomputable def iM(ps qs:List (Str×T)):List (Str×T):=ps.filter (fun p=>!decide (p.1∈qs.map (·.1)))++qs
noncomputable def qJ(K:PySem.W.Frag):Sp:=fun vs H Q _=>∃(a b:Addr) (ps qs:List (Str×T)),vs=[.ref a,.ref b]/\iF K H a ps/\iF K H b qs/\ps.length+qs.length<=900 /\
 ∀(p:Addr) (H':Hp),aL H H'->H p=none->iF K H' p (iM ps qs)->Q (.ref p) H'
theorem vD{K:PySem.W.Frag}{Q:VK}{H0:Hp}{a:Addr}{ps:List (Str×T)}{vs:List V}(h:H0 a=some (.lst vs))(r:aM K H0 (ps.map AW) vs)(hlen:ps.length<=1000)
  (k:∀(p:Addr),H0 p=none->Q (.ref p) (upd H0 p (.lst ((ps.map (·.1)).map V.str)))):fF (yT K a) (uv K 2 (iZ (cI 0) (iZ (cI 1) wY))) jL (dX 0) Q [none,none] H0:=by
 have l:=r.length
 rw[List.length_map]at l
 refine cy (xs:=vs) (fun i σ us H2=>(∃x y,σ=[x,y])/\H2=H0/\us=((ps.take i).map (·.1)).map V.str) ⟨⟨none,none,rfl⟩,rfl,rfl⟩ ?_ (small (by omega)) ?_ ?_ ?_
 ·rintro i σ us H2 hi ⟨_,_,rfl⟩
  rw[List.length_map,List.length_map,List.length_take];omega
 ·rintro i σ us H2 hi ⟨_,rfl,_⟩
  exact bJ.of h
 ·rintro i x σ us H2 hx ⟨⟨x0,y0,rfl⟩,rfl,rfl⟩
  obtain⟨y,hy,ry⟩:=r.get' hx
  rw[List.getElem?_map]at hy
  obtain⟨q,hq,rfl⟩:=Option.map_eq_some_iff.mp hy
  have hil:i<ps.length:=(List.getElem?_eq_some_iff.mp hq).1
  have eq1:ps[i]=q:=(List.getElem?_eq_some_iff.mp hq).2
  obtain⟨qa,u1,u2,rfl,qsq,g1,g2⟩:=(show Rp K H2 (.t [.s q.1,q.2]) x from ry).t2
  obtain rfl:=g1.aI
  fail "R"
  rw[List.take_succ_eq_append_getElem hil,eq1,List.map_append,List.map_append]
  rfl
 ·rintro σ us H2 ⟨_,rfl,rfl⟩ p hp
  rw[l,List.take_length]
  exact k p hp
section
variable {P:Program}{w:World}{K:PySem.W.Frag}{mg:Str->Option Value}{base:Heap}
theorem jF:Nm ["_law_around","_law_more","_law_fresh_here"] (aj eJ):=by decide +kernel
theorem tL:Lm ["_law_around","_law_more","_law_fresh_here"] (aj eJ):=by decide +kernel
theorem mV:aZ ["_law_around","_law_more","_law_fresh_here"] ["_law_around","_law_more"] (aj eJ):=⟨rfl,rfl,rfl,by decide +kernel,rfl,by decide +kernel,by decide +kernel⟩
theorem yc{f:Addr}{fd:FuncData}(F:iE K "_law_near" "_law_near" eJ f fd):cA P w K mg base gv 1 f fd ["_law_around","_law_more"] (qJ K):=by
 refine F.ok mV (fun vs H Q E h=>?_) (fun cdv A outer s H vs Q E hr h=>?_)
 ·obtain⟨_,_,_,_,rfl,_⟩:=h
  rfl
 obtain⟨a,b,ps,qs,rfl,⟨pvs,ha,rp⟩,⟨qvs,hb,rq⟩,hl,k⟩:=h
 refine⟨_,(Z6 (Z3 mV.nd tL 2 (Z4 (aj eJ) ["_law_around","_law_more","_law_fresh_here"] ["_law_x","_law_thing"] [] (cO (va jF 1)) (fun _ _ _ _=>(Zc (2) (Zg (Z2 (i:=0) (show(["_law_x","_law_thing"]:List Str).Nodup by decide +kernel)) (aU (Z2 (i:=1) (show(["_law_x","_law_thing"]:List Str).Nodup by decide +kernel)) bq)))) (fun _ _ _ _=>(va (show Nm ["_law_x","_law_thing"] _ by show _=_;kernel_rfl) 0)))) (Zh (@aK _ _ _ _ (Zj iO (@fG _ _ _ _ _ _ _ _ _ _ _ (aj eJ) ["_law_around","_law_more","_law_fresh_here"] ["_law_one"] [2] rfl rfl rfl (by decide +kernel) (cO (va jF 0)) (fun _ _ _ _=>(Z2 (i:=0) (show(["_law_one","_law_fresh_here"]:List Str).Nodup by decide +kernel))) (fun _ _ _ _=>(@kB _ _ _ (@aS _ _ _ _ _ _ _ _ (lR K rfl) (Z8 (j3 K rfl) (va (show Nm ["_law_one","_law_fresh_here"] _ by show _=_;kernel_rfl) 0)) (va (show Nm ["_law_one","_law_fresh_here"] _ by show _=_;kernel_rfl) 1) (by with_unfolding_all rfl)))) (fun _ _ _ _=>(va (show Nm ["_law_one","_law_fresh_here"] _ by show _=_;kernel_rfl) 0)) (by intro _;rfl)) (va jF 1))))),?_⟩
 try dsimp only[dg]
 have lp:=rp.length
 have lq:=rq.length
 rw[List.length_map]at lp lq
 fail "R"
 refine vD hb rq (by omega) fun lf hlf=>?_
 have s1:=ae hlf (.lst ((qs.map (·.1)).map V.str))
 have gf:upd H lf (.lst ((qs.map (·.1)).map V.str)) lf=some (.lst ((qs.map (·.1)).map V.str)):=af
 have ha1:=s1 _ _ ha
 have hb1:=s1 _ _ hb
 have rp1:=rp.same s1
 have rq1:=rq.same s1
 generalize upd H lf (.lst ((qs.map (·.1)).map V.str))=H1 at s1 gf ha1 hb1 rp1 rq1⊢
 fail "R"
 refine cy (K:=K) (a:=a) (xs:=pvs) (fun i σ us H2=>(∃x,σ=[x,some (.ref lf)])/\H2=H1/\aM K H1 (((ps.take i).filter (fun p=>!decide (p.1∈qs.map (·.1)))).map AW) us) ⟨⟨none,rfl⟩,rfl,.nil⟩ ?_ (Nat.le_of_lt (aC (by omega))) ?_ ?_ ?_
 ·rintro i σ us H2 hi ⟨_,_,r⟩
  rw[r.length,List.length_map]
  exact Nat.le_trans (List.length_filter_le _ _) (by rw[List.length_take];omega)
 ·rintro i σ us H2 hi ⟨_,rfl,_⟩
  exact bJ.of ha1
 ·rintro i x σ us H2 hx ⟨⟨x0,rfl⟩,rfl,r⟩
  obtain⟨y,hy,ry⟩:=rp1.get' hx
  rw[List.getElem?_map]at hy
  obtain⟨q,hq,rfl⟩:=Option.map_eq_some_iff.mp hy
  have hil:i<ps.length:=(List.getElem?_eq_some_iff.mp hq).1
  have eq1:ps[i]=q:=(List.getElem?_eq_some_iff.mp hq).2
  obtain⟨qa,u1,u2,rfl,qsq,g1,g2⟩:=(show Rp K H2 (.t [.s q.1,q.2]) x from ry).t2
  obtain rfl:=g1.aI
  have hor:bJ K H2 lf ((qs.map (·.1)).map V.str)\/aJ K H2 lf ((qs.map (·.1)).map V.str):=.inl (bJ.of gf)
  have hfl:=iC (qs.map (·.1))
  have hf2:gk (.str q.1)=true:=rfl
  have et:(ps.take (i+1)).filter (fun p=>!decide (p.1∈qs.map (·.1)))=(ps.take i).filter (fun p=>!decide (p.1∈qs.map (·.1)))++(if q.1∈qs.map (·.1)then []else [q]):=by
   rw[List.take_succ_eq_append_getElem hil,List.filter_append,eq1]
   by_cases c:q.1∈qs.map (·.1)
   ·rw[if_pos c];simp[c]
   ·rw[if_neg c];simp only[List.filter_cons,c,decide_false,Bool.not_false,if_true,List.filter_nil]
  fail "R"
  rw[gZ]
  refine cJ (fun c=>?_) (fun c=>?_)
  ·have c':¬q.1∈qs.map (·.1):=by simpa using c
   fail "R"
   rw[et,if_neg c',List.map_append]
   exact r.snoc ry
  ·have c':q.1∈qs.map (·.1):=by simpa using c
   fail "R"
   rw[et,if_pos c',List.append_nil]
   exact r
 ·rintro σ us H2 ⟨_,rfl,r⟩ p hp
  rw[lp,List.take_length]at r
  have s2:=ae hp (.lst us)
  have hb2:=s2 _ _ hb1
  have hp2:upd H2 p (.lst us) p=some (.lst us):=af
  have lu:=r.length
  rw[List.length_map]at lu
  have lf2:(ps.filter (fun p=>!decide (p.1∈qs.map (·.1)))).length<=ps.length:=List.length_filter_le _ _
  have hz:us.length+qvs.length<=sizeLine:=small (by omega)
  fail "R"
  intro p3 hp3
  have s3:=ae hp3 (.lst (us++qvs))
  refine k p3 _ (s1.trans (s2.trans s3)) ?_ ⟨_,af,?_⟩
  ·cases e:H p3 with
   |none=>rfl
   |some o=>rw[(s1.trans s2) _ _ e]at hp3;cases hp3
  ·unfold iM
   rw[List.map_append]
   exact((r.same s2).same s3).append ((rq1.same s2).same s3)
theorem pF{o:Str}:∀{L:List Str},o∈L->∃k:Nat,L[k]?=some o/\∀m:Nat,m<k->L[m]?≠some o
 |x::r,h=>by
  by_cases e:x=o
  ·exact⟨0,by rw[e];rfl,fun m hm=>absurd hm (Nat.not_lt_zero _)⟩
  ·obtain⟨k,h1,h2⟩:=pF (L:=r) (by cases h with|head=>exact absurd rfl e|tail _ h=>exact h)
   refine⟨k+1,by rw[List.getElem?_cons_succ];exact h1,fun m hm=>?_⟩
   cases m with
   |zero=>rw[List.getElem?_cons_zero];exact fun z=>e (Option.some.inj z)
   |succ m=>rw[List.getElem?_cons_succ];exact h2 m (by omega)
theorem pG{o:Str}{L:List Str}(h:¬o∈L):L.filter (fun n=>decide (n≠o))=L:=List.filter_eq_self.mpr fun x hx=>decide_eq_true fun z=>h (z▸hx)
theorem mW{o:Str}:∀{L:List Str}{k:Nat},L.Nodup->L[k]?=some o->L.eraseIdx k=L.filter (fun n=>decide (n≠o))
 |x::r,0,hn,h=>by
  obtain rfl:x=o:=by simpa using h
  have:¬x∈r:=(List.nodup_cons.mp hn).1
  rw[List.eraseIdx_cons_zero,List.filter_cons_of_neg (by simp),pG this]
 |x::r,k+1,hn,h=>by
  rw[List.getElem?_cons_succ]at h
  have hx:x≠o:=fun z=>(List.nodup_cons.mp hn).1 (z▸List.mem_of_getElem? h)
  rw[List.eraseIdx_cons_succ,mW (List.nodup_cons.mp hn).2 h,List.filter_cons_of_pos (by simpa using hx)]
theorem nJ{o:Str}{L:List Str}(h:L.Nodup):(fz L o).Nodup:=by
 unfold fz
 refine List.nodup_append.mpr ⟨h.filter _,List.nodup_cons.mpr ⟨List.not_mem_nil,List.nodup_nil⟩,fun x hx y hy=>?_⟩
 obtain rfl:=List.mem_singleton.mp hy
 exact of_decide_eq_true (List.mem_filter.mp hx).2
noncomputable def kU(K:PySem.W.Frag):Sp:=fun vs H Q _=>∃(a b:Addr) (ns os:List Str),vs=[.ref a,.ref b]/\H a=some (.lst (ns.map V.str))/\(H b=some (.lst (os.map V.str))\/aJ K H b (os.map V.str))/\ns.Nodup/\ns.length+os.length<=900 /\
 ∀(p:Addr) (H':Hp),aL H H'->H p=none->H' p=some (.lst ((bE ns os).map V.str))->Q (.ref p) H'
theorem bQ:Nm ["_law_around","_law_names_here","_law_found","_law_x"] (aj eM):=by decide +kernel
theorem jQ:Lm ["_law_around","_law_names_here","_law_found","_law_x"] (aj eM):=by decide +kernel
theorem hU:aZ ["_law_around","_law_names_here","_law_found","_law_x"] ["_law_around","_law_names_here"] (aj eM):=⟨rfl,rfl,rfl,by decide +kernel,rfl,by decide +kernel,by decide +kernel⟩
theorem tM{f:Addr}{fd:FuncData}(F:iE K "_law_nearer" "_law_nearer" eM f fd)(z_list:mg "list"=none):cA P w K mg base gv 1 f fd ["_law_around","_law_names_here"] (kU K):=by
 refine F.ok hU (fun vs H Q E h=>?_) (fun cdv A outer s H vs Q E hr h=>?_)
 ·obtain⟨_,_,_,_,rfl,_⟩:=h
  rfl
 obtain⟨a,b,ns,os,rfl,ha,hb,hn,hl,k⟩:=h
 refine⟨_,(Z6 (Z3 hU.nd jQ 2 (Z5 d9 z_list PyProof.Rows.boot_list (aA (va bQ 0) ah))) (Z6 (@fV _ _ _ _ _ _ _ _ PassesOwn.never rfl (zb (cO (va bQ 1)) (b7 (va bQ 1))) (ga hU.nd jQ 3) (Z6 (Zf (aS dz (va bQ 3) (va bQ 2) (by with_unfolding_all rfl)) (Zh (@cS _ _ _ _ (Zb PySem.F.slot_list_remove PySem.F.type_list_remove tK (va bQ 2) (aA (va bQ 3) ah)) (by rfl)))) (Zh (@cS _ _ _ _ (Zb PySem.F.slot_list_append PySem.F.type_list_append dB (va bQ 2) (aA (va bQ 3) ah)) (by rfl)))) (by intro _;rfl)) (Zh (aK (va bQ 2))))),?_⟩
 try dsimp only[dg]
 fail "R"
 intro lf hlf
 have s1:=ae hlf (.lst (ns.map V.str))
 have gl:upd H lf (.lst (ns.map V.str)) lf=some (.lst (ns.map V.str)):=af
 generalize upd H lf (.lst (ns.map V.str))=H0 at s1 gl⊢
 fail "R"
 have lo:(os.map V.str).length=os.length:=List.length_map _
 refine Bx (fun i σ H1=>(∃ox,σ=[some (.ref a),some (.ref b),some (.ref lf),ox])/\aL H H1/\H1 lf=some (.lst ((bE ns (os.take i)).map V.str))/\(bE ns (os.take i)).Nodup) rfl (hb.imp (fun h=>⟨s1 _ _ h,fun _ _ _ p=>p.2.1 _ _ h⟩) (fun h=>⟨aJ.same s1 h,fun _ _ _ p=>aJ.same p.2.1 h⟩)) ⟨⟨_,rfl⟩,s1,gl,hn⟩ ?_ ?_
 ·rintro i x σ H1 hi ⟨⟨ox,rfl⟩,sm,hl1,nd1⟩
  rw[List.getElem?_map]at hi
  obtain⟨o,ho,rfl⟩:=Option.map_eq_some_iff.mp hi
  have hil:i<os.length:=(List.getElem?_eq_some_iff.mp ho).1
  have eo:os[i]=o:=(List.getElem?_eq_some_iff.mp ho).2
  have eb:bE ns (os.take (i+1))=fz (bE ns (os.take i)) o:=by rw[List.take_succ_eq_append_getElem hil,eo,mT]
  have hlb:=fL (os.take i) ns
  rw[List.length_take]at hlb
  rw[eb]
  generalize bE ns (os.take i)=L at hl1 nd1 hlb⊢
  have hor:bJ K H1 lf (L.map V.str)\/aJ K H1 lf (L.map V.str):=.inl (bJ.of hl1)
  have hfl:=iC L
  have hf2:gk (.str o)=true:=rfl
  fail "R"
  rw[gZ]
  refine cJ (fun c=>?_) (fun c=>?_)
  ·have c':o∈L:=by simpa using c
   obtain⟨kx,k1,k2⟩:=pF c'
   have ee:=mW nd1 k1
   have lz:((L.eraseIdx kx).map V.str).length<sizeLine:=aC (by rw[List.length_map,ee];have:(L.filter (fun n=>decide (n≠o))).length<=L.length:=List.length_filter_le _ _;omega)
   have g2:upd H1 lf (.lst ((L.eraseIdx kx).map V.str)) lf=some (.lst ((L.eraseIdx kx).map V.str)):=af
   fail "R"
   ·exact(sm.qI hlf _).qI hlf _
   refine⟨?_,nJ nd1⟩
   rw[af,ee]
   unfold fz
   rw[List.map_append]
   rfl
  ·have c':¬o∈L:=by simpa using c
   have lz:(L.map V.str).length<sizeLine:=aC (by rw[List.length_map];omega)
   fail "R"
   ·exact sm.qI hlf _
   refine⟨?_,nJ nd1⟩
   rw[af]
   unfold fz
   rw[List.map_append,pG c']
   rfl
 ·rintro σ H1 ⟨⟨ox,rfl⟩,sm,hl1,_⟩
  rw[lo,List.take_length]at hl1
  fail "R"
  exact k lf H1 sm hlf hl1
end
end G04
namespace L2
open PySem
section
variable {K:PySem.W.Frag}{σ:St}{H:Hp}
theorem aM.By{H:Hp}:∀{ts:List T}{vs:List V}{i:Nat}{t:T},aM K H ts vs->ts[i]?=some t->∃v,vs[i]?=some v/\Rp K H t v
 | [],_,_,_,_,e=>by simp at e
 |x::r,vs,i,t,h,e=>by
  obtain⟨v,us,rfl,a,b⟩:=h.inv
  cases i with
  |zero=>simp at e;subst e;exact⟨v,rfl,a⟩
  |succ j =>
   rw[List.getElem?_cons_succ]at e
   obtain⟨u,eu,ru⟩:=b.By e
   exact⟨u,by rw[List.getElem?_cons_succ];exact eu,ru⟩
end
@[irreducible] noncomputable def CP (t:T):Str:=t.py.shown
theorem qK{X:Cx}(hg:X.A.guards=some [])(hu:X.A.units+150<cLine):dO X (.builtin "repr") (fun xs H Q=>∃x xs' ,xs=[x]/\Rp X.K H (.t xs') x/\oS (T.t xs').py/\Q (.str (CP (.t xs'))) H):=by
 unfold CP
 exact qC hg hu
end L2
namespace G04
open PySem L2
noncomputable def wf(xs:List Str)(i:Nat):Str:=xs.getD i ""
theorem Af{xs:List Str}{i:Nat}(h:i<xs.length):xs[i]?=some (wf xs i):=by
 unfold wf
 rw[List.getD_eq_getElem?_getD,List.getElem?_eq_getElem h]
 rfl
theorem nK{xs:List Str}{l:Addr}(hf:bM H f)(h:H l=some (.lst (xs.map V.str))):l≠f:=fun z=>by
 obtain⟨p,q,e⟩:=hf
 rw[←z,h]at e
 injection e with e
 injection e with e
 cases xs with
 |nil=>cases e
 |cons y ys=>rw[List.map_cons]at e;injection e with e;cases e
noncomputable def yd(K:PySem.W.Frag)(f:Addr)(t:TE)(σ:St)(H:Hp)(P:T->Prop):Prop:=∀(H1:Hp) (Q:VK),Ext f H H1->(∀H2 v tr,Ext f H1 H2->P tr->Rp K H2 tr v->Q v H2)->t σ H1 Q
noncomputable def tN(K:PySem.W.Frag)(f:Addr)(t:TA)(σ:St)(H:Hp)(n:Nat)(P:List T->Prop):Prop:=∀(H1:Hp) (Q:List V->Hp->Prop),Ext f H H1->(∀H2 vs trs,Ext f H1 H2->trs.length=n->P trs->aM K H2 trs vs->Q vs H2)->t σ H1 Q
noncomputable abbrev Pc(a:T->Prop)(b:List T->Prop):List T->Prop:=fun l=>∃x xs,a x/\b xs/\l=x::xs
noncomputable abbrev P0:List T->Prop:=(·=[])
section
variable {K:PySem.W.Frag}{f:Addr}{σ:St}{H:Hp}
theorem vE{x:Str}:yd K f (tC (.str x)) σ H (·=.s x):=fun H1 _ e k=>k H1 _ _ (Ext.refl e.2) rfl .s
theorem f6:tN K f jU σ H 0 P0:=fun H1 _ e k=>k H1 [] _ (Ext.refl e.2) rfl rfl .nil
theorem cf{a:TE}{b:TA}{n:Nat}{Pa:T->Prop}{Pb:List T->Prop}(ha:yd K f a σ H Pa)(hb:tN K f b σ H n Pb):tN K f (dQ a b) σ H (n+1) (Pc Pa Pb):=fun H1 Q s k =>
 ha H1 _ s fun H2 v tr s2 p r=>hb H2 _ (s.trans s2) fun H3 vs trs s3 l q rs=>k H3 (v::vs) _ (s2.trans s3) (by rw[List.length_cons,l]) ⟨tr,trs,p,q,rfl⟩ (.cons (r.kt (s3.kt s2.2)) rs)
theorem jG{a:TA}{n:Nat}{P:List T->Prop}(h:tN K f a σ H n P)(hl:n<=400:=by decide):yd K f (ou a) σ H (fun t=>∃xs,P xs/\t=.t xs):=fun H1 Q s k =>
 h H1 _ s fun H2 vs trs s2 l p r=>⟨small (by rw[r.length];omega),fun l hl'=>k _ _ _ (s2.new hl' _) ⟨trs,p,rfl⟩ (Rp.new (K:=K) hl' r)⟩
theorem Ag{a:TE}{P P':T->Prop}(h:yd K f a σ H P)(i:∀t,P t->P' t):yd K f a σ H P':=fun H1 Q s k=>h H1 Q s fun H2 v tr s2 p r=>k H2 v tr s2 (i tr p) r
theorem aV{H:Hp}{l:Addr}(hf:bM H f)(h:H l=none):l≠f:=fun z=>by
 obtain⟨p,q,e⟩:=hf
 rw[←z,h]at e
 cases e
theorem ye{a:TA}{n:Nat}{P:List T->Prop}{j m:Nat}(h:tN K f a σ H n P)(e:σ[j]?=some (some (.ref f)))(hm:1<=m)(hm2:m<=400)(hn:n=m):yd K f (uE (uK K) (uH a) (qW cT [] E0 (dQ (dX j) (dQ (tC (.int (m:Int))) jU)))) σ H (fun t=>∃(xs:List T) (i:Nat),P xs/\xs[i]?=some t):=fun H1 Q s k =>
 h H1 _ s fun H2 vs trs s2 l p r=>⟨small (by rw[r.length];omega),fun q hl'=>by
  have nl:q≠f:=aV s2.2 hl'
  have s3:=s2.new hl' (.lst vs)
  refine⟨_,e,⟨f,m,rfl,by omega,by omega,s3.2,fun i H4 i0 i1 x4=>?_⟩⟩
  obtain⟨i,rfl⟩:∃j:Nat,i=(j:Int):=⟨i.toNat,by omega⟩
  have e0:=List.getElem?_eq_getElem (l:=trs) (i:=i) (by omega)
  obtain⟨v,ev,rv⟩:=r.By e0
  exact⟨q,vs,i,v,rfl,rfl,bJ.of (x4.1 q _ nl af),bC ev,k _ _ _ (s3.trans x4) ⟨trs,i,p,e0⟩ ((rv.same (ae hl' _)).kt (x4.kt s3.2))⟩⟩
theorem vF{a:TA}{Pa Pb:T->Prop}{j:Nat}(h:tN K f a σ H 2 (Pc Pa (Pc Pb P0)))(e:σ[j]?=some (some (.ref f))):yd K f (uE (uK K) (uH a) (qW cT [] E0 (dQ (dX j) (dQ (tC (.int 2)) jU)))) σ H (fun t=>Pa t\/Pb t) :=
 Ag (ye (m:=2) h e (by omega) (by omega) rfl) fun t ⟨xs,i,p,q⟩=>by
  obtain⟨x,ys,pa,⟨x2,zs,pb,rfl,rfl⟩,rfl⟩:=p
  match i,q with
  |0,q=>injection q with q;rw[←q];exact .inl pa
  |1,q=>injection q with q;rw[←q];exact .inr pb
  |j+2,q=>simp at q
theorem zd{j i:Nat}{ln:Addr}{xs:List Str}(hf:bM H f)(h:H ln=some (.lst (xs.map V.str)))(e:σ[j]?=some (some (.ref ln)))(hi:i<xs.length):yd K f (uE (uK K) (dX j) (tC (.int (i:Int)))) σ H (·=.s (wf xs i)):=fun H1 Q s k =>
 ⟨_,e,ln,xs.map V.str,i,.str (wf xs i),rfl,rfl,bJ.of (s.1 ln _ (nK hf h) h),bC (by rw[List.getElem?_map,Af hi];rfl),k _ _ _ (Ext.refl s.2) rfl .s⟩
theorem Ah{te:TE}{i:Nat}{P:T->Prop}{D:L2.Ends}(hf:bM H f)(h:yd K f te σ H P)(k:∀H2 v tr,Ext f H H2->P tr->Rp K H2 tr v->D.nx (σ.set i (some v)) H2):lO te (cI i) D σ H:=h H _ (Ext.refl hf) k
end
@[irreducible] noncomputable def vG:Stmt:=(bW bH).getD 4 (.Pass ⟨0,0,0,0⟩)
@[irreducible] noncomputable def vH:Stmt:=(bW bH).getD 5 (.Pass ⟨0,0,0,0⟩)
@[irreducible] noncomputable def yf:List Expr:=match(bW bH).getD 4 (.Pass ⟨0,0,0,0⟩)with
 |.Assign _ (.List es _) _=>es
 |_=>[]
@[irreducible] noncomputable def yg:List Expr:=match(bW bH).getD 5 (.Pass ⟨0,0,0,0⟩)with
 |.Assign _ (.BinOp _ _ (.List es _) _) _=>es
 |_=>[]
@[irreducible] noncomputable def posK (i:Nat):Pos:=match(bW bH).getD 4 (.Pass ⟨0,0,0,0⟩),(bW bH).getD 5 (.Pass ⟨0,0,0,0⟩)with
 |.Assign [.Name _ a] (.List _ b) c,.Assign [.Name _ d] (.BinOp (.Name _ e) _ (.List _ f) g) h=>[a,b,c,d,e,f,g,h].getD i a
 |_,_=>⟨0,0,0,0⟩
noncomputable def rO:List Str:=["num","row","kind","def","more","first","others","long","match","if","let","fold","call"]
noncomputable def rP:List Str:=["gap","in","world","fault","left"]
theorem yh:vG=.Assign [.Name "_law_kept" (posK 0)] (.List yf (posK 1)) (posK 2):=by unfold vG yf posK;kernel_rfl
theorem yi:vH=.Assign [.Name "_law_kept" (posK 3)] (.BinOp (.Name "_law_kept" (posK 4)) .Add (.List yg (posK 5)) (posK 6)) (posK 7):=by unfold vH yg posK;kernel_rfl
theorem Dg:strsOf yf=some rO:=by unfold yf;kernel_rfl
theorem Dh:strsOf yg=some rP:=by unfold yg;kernel_rfl
theorem qL:bW bH=(bW bH).take 4++(vG::vH::(bW bH).drop 6):=by unfold vG vH;kernel_rfl
theorem BA{X:Cx}(hn:X.N.Nodup)(hl:Lm X.N X.env.scope)(h7:X.N[7]?=some ("_law_kept":Str))(hf:X.fn "_law_kept"=true):PS X vG (lO (uH (uX rO)) (cI 7)):=by
 rw[yh]
 exact sa hn hl 7 (bj (rm Dg)) h7 rfl (.inl hf)
theorem BB{X:Cx}(hn:X.N.Nodup)(hl:Lm X.N X.env.scope)(hv:Nm X.N X.env.scope)(h7:X.N[7]?=some ("_law_kept":Str))(hf:X.fn "_law_kept"=true):PS X vH (lO (uE Bh (dX 7) (uH (uX rP))) (cI 7)):=by
 rw[yi]
 exact sa hn hl 7 (bw iO (va hv 7 h7) (bj (rm Dh))) h7 rfl (.inl hf)
theorem Ai{α:Type}(xs:List α)(a b:α):iI (xs++[a,b]) (-2)=some a:=by
 unfold iI wM
 have l:(xs++[a,b]).length=xs.length+2:=by simp
 rw[l,if_neg (by decide),if_pos (by omega)]
 have e:(-2+((xs.length+2:Nat):Int)).toNat=xs.length:=by omega
 rw[Option.bind_some,e]
 simp
theorem Aj(n m:Nat)(h:n=m+1):wM n (-1)=some m:=by
 unfold wM
 rw[if_neg (by decide),if_pos (by omega)]
 congr 1
 omega
section
variable {P:Program}{w:World}{K:PySem.W.Frag}{mg:Str->Option Value}{base:Heap}{gT:Addr}{tfd:FuncData}
theorem aF:Nm ["_law_feed_here","_law_many_here","_law_letters","_law_stem","_law_first","_law_at","_law_turn","_law_kept","_law_found","_law_k","_law_sign","_law_name"] (aj bH):=by decide +kernel
theorem cg:Lm ["_law_feed_here","_law_many_here","_law_letters","_law_stem","_law_first","_law_at","_law_turn","_law_kept","_law_found","_law_k","_law_sign","_law_name"] (aj bH):=by decide +kernel
theorem bU:aZ ["_law_feed_here","_law_many_here","_law_letters","_law_stem","_law_first","_law_at","_law_turn","_law_kept","_law_found","_law_k","_law_sign","_law_name"] ["_law_feed_here","_law_many_here"] (aj bH):=⟨rfl,rfl,rfl,by decide +kernel,rfl,by decide +kernel,by decide +kernel⟩
theorem vI{f:Addr}{fd:FuncData}(F:iE K "_law_names" "_law_names" bH f fd)(TK:cR P w K mg base "_law_take" 1 ["_law_feed_here","_law_many_here"] cT gT tfd)(z_range:mg "range"=none)(z_len:mg "len"=none)(z_int:mg "int"=none) :
  cA P w K mg base gv 2 f fd ["_law_feed_here","_law_many_here"] rM:=by
 refine F.ok bU (fun vs H Q E h=>?_) (fun cdv A outer s H vs Q E hr h=>?_)
 ·obtain⟨v,tm,rfl,_⟩:=h
  rfl
 obtain⟨r,m,rfl,m1,m2,hf,k⟩:=h
 rw[qL]
 refine⟨_,(Z6 (sa bU.nd cg 2 au) (Z6 (Z3 bU.nd cg 3 (@yW _ _ _ _ _ _ _ _ _ _ _ _ PySem.F.plainAttrs_str PySem.F.slot_str_join PySem.F.type_str_join xF au (Z1 (Z4 (aj bH) ["_law_feed_here","_law_many_here","_law_letters","_law_stem","_law_first","_law_at","_law_turn","_law_kept","_law_found","_law_k","_law_sign","_law_name"] ["_law_k"] [0,2] (@fD _ _ _ _ _ _ (by show _=_;kernel_rfl) z_range (Z1 (Z0 TK (aA (va aF 0) (aA ak ah))) ah) (by rfl)) (fun _ _ _ _=>(Z2 (i:=0) (show(["_law_k","_law_feed_here","_law_letters"]:List Str).Nodup by decide +kernel))) (fun _ _ _ _=>(Za qp (va (show Nm ["_law_k","_law_feed_here","_law_letters"] _ by show _=_;kernel_rfl) 2) (Z0 TK (aA (va (show Nm ["_law_k","_law_feed_here","_law_letters"] _ by show _=_;kernel_rfl) 1) (aA ak ah)))))) ah) (by kernel_rfl) (by kernel_rfl) (by kernel_rfl) (by kernel_rfl) (by kernel_rfl))) (Z6 (@uw _ _ (4) (5) _ _ _ _ _ _ _ _ _ _ _ rfl bU.nd rfl rfl (by decide) rfl rfl (Z1 (Z0 TK (aA (va aF 0) (aA ak ah))) (Z1 (Z0 TK (Z1 (va aF 0) (Z1 (Zj cQ (Z7 i9 z_len PySem.boot_len (aA (va aF 3) ah)) ak) ah))) ah)) (by rfl) (by rfl)) (Z6 (Z3 bU.nd cg 6 (Z0 TK (aA (va aF 0) (aA ak ah)))) (Z6 (BA bU.nd cg rfl rfl) (Z6 (BB bU.nd cg aF rfl rfl) (Z6 (sa bU.nd cg 8 (bj ah)) (Z6 (@fV _ _ _ _ _ _ _ _ PassesOwn.never rfl (@fD _ _ _ _ _ _ (by show _=_;kernel_rfl) z_range (aA (va aF 1) ah) (by rfl)) (ga bU.nd cg 9) (Z6 (Z3 bU.nd cg 10 (Za qp (va aF 2) (Zj eF (Zj cQ (va aF 4) (bw dj ak (va aF 9))) ak))) (Z6 (Z3 bU.nd cg 11 (Zj fW (Zj fW (@b8 _ _ _ _ _ _ _ _ _ _ uW (va aF 3) cE (bV (va aF 5))) (va aF 10)) (@b8 _ _ _ _ _ _ _ _ _ _ uW (va aF 3) (bV (va aF 5)) (@bV _ _ _ (Zj eF (bw cQ (va aF 6) (va aF 9)) ak))))) (Zh (@cS _ _ _ _ (Zb PySem.F.slot_list_append PySem.F.type_list_append dB (va aF 8) (Z1 (Zj fW (va aF 11) (Zj qB au (Z5 lY z_int PyProof.Rows.boot_int (Z1 (nj dz (va aF 11) (va aF 7) (by with_unfolding_all rfl)) ah)))) ah)) (by rfl))))) (by intro _;rfl)) (Z6 (Zf (PW.pt (@gC _ _ _ _ _ _ _ (aS oq (va aF 1) ak (bK _)) (@gC _ _ _ _ _ _ _ (Zi i5 (Z7 i9 z_len PySem.boot_len (Z1 (iJ aT (va aF 8) (jI gG ak) (fun _ _=>rfl)) ah)) ak) (@fR _ _ _ _ (Zi cu (Z0 TK (aA (va aF 0) (aA ak ah))) ak))))) (Zh (@fT _ _ _ _ _ _ (Zj fW (iJ aT (va aF 8) (jI gG ak) (fun _ _=>rfl)) au) (j8 (va aF 8) (jI gG ak) set_list) (by rfl) (by rfl) (by rfl)))) (Zh (aK (va aF 8)))))))))))),?_⟩
 refine⟨rfl,_,rfl,r,5,rfl,by decide,by decide,hf,fun q H2 q0 q6 e2=>?_⟩
 refine⟨_,rfl,by omega,by omega,?_⟩
 have n7:(q:Int).toNat<=4:=by omega
 refine iR (n:=q.toNat) (fun i σ vs Hc=>(∃v,σ=[v,some (.ref r),some (.str "abcdefghijklmnopqrstuvwxyz")])/\Ext r H2 Hc/\∃cs:List Nat,vs=(cs.map fun c=>(⟨#[c]⟩:Str)).map V.str/\cs.length=i/\∀c∈cs,c<1000)
  ⟨⟨none,rfl⟩,Ext.refl e2.2,[],rfl,rfl,fun _ h=>nomatch h⟩ (fun i σ vs Hc _ ⟨_,_,cs,e,el,_⟩=>by rw[e,List.length_map,List.length_map];omega) (small (by omega)) ?_ ?_
 ·rintro i' σ vs Hc hi' ⟨⟨v,rfl⟩,ext,cs,rfl,hcl,hlo⟩
  refine⟨_,rfl,_,rfl,r,26,rfl,by decide,by decide,ext.2,fun d H3 d0 d1 ext2=>?_⟩
  obtain⟨c,hc1,hc2⟩:=atS (z:="abcdefghijklmnopqrstuvwxyz") d0 d1
  refine⟨_,d,c,rfl,rfl,(by decide +kernel),hc1,?_⟩
  exact⟨⟨_,rfl⟩,ext.trans ext2,cs++[c],by rw[List.map_append,List.map_append];rfl,by rw[List.length_append,hcl];rfl,fun c' h=>by rcases List.mem_append.mp h with h|h;exact hlo c' h;rw[List.mem_singleton.mp h];exact rL c hc2⟩
 rintro σ vs Hc ⟨⟨v,rfl⟩,ext,cs,rfl,hcl,hlo⟩ p hp
 refine⟨_,p,_,rfl,rfl,bJ.of af,?_,?_⟩
 ·have z:(Str.ofString "").length=0:=by decide
  rw[uZ,z]
  omega
 rw[xO]
 have kp1:Ext r H (upd Hc p (.lst ((cs.map fun c=>(⟨#[c]⟩:Str)).map V.str))):=(e2.trans ext).new hp _
 have ly:(⟨cs.toArray⟩:Str).length<=4:=by rw[zZ];omega
 have hy:Lo ⟨cs.toArray⟩:=fun c h=>hlo c (by simpa using h)
 generalize upd Hc p (.lst ((cs.map fun c=>(⟨#[c]⟩:Str)).map V.str))=H4 at kp1⊢
 generalize(⟨cs.toArray⟩:Str)=y at ly hy⊢
 refine⟨_,rfl,r,26,rfl,by decide,by decide,kp1.2,fun d1 H5 b1 c1 e5=>?_⟩
 refine⟨_,rfl,_,rfl,_,rfl,small (by omega),_,_,rfl,rfl,r,_,rfl,by omega,by omega,e5.2,fun d2 H6 b2 c2 e6=>?_⟩
 refine⟨_,_,rfl,?_⟩
 refine⟨_,rfl,r,5,rfl,by decide,by decide,e6.2,fun d3 H7 b3 c3 e7=>?_⟩
 have x7:Ext r H H7:=kp1.trans (e5.trans (e6.trans e7))
 have lk1:rO.length<=100:=by decide
 have lk2:rP.length<=100:=by decide
 refine⟨by rw[List.length_map];exact small (by omega),fun p8 hp8=>?_⟩
 refine⟨_,rfl,by rw[List.length_map];exact small (by omega),fun p9 hp9=>?_⟩
 generalize rO=ks1 at lk1 hp9⊢
 generalize rP=ks2 at lk2 hp9⊢
 refine⟨p8,p9,_,_,rfl,rfl,(ae hp9 _) _ _ af,af,by rw[List.length_map,List.length_map];exact small (by omega),fun p10 hp10=>?_⟩
 have x10:Ext r H (upd (upd (upd H7 p8 (.lst (ks1.map V.str))) p9 (.lst (ks2.map V.str))) p10 (.lst (ks1.map V.str++ks2.map V.str))):=((x7.new hp8 _).new hp9 _).new hp10 _
 have h10:upd (upd (upd H7 p8 (.lst (ks1.map V.str))) p9 (.lst (ks2.map V.str))) p10 (.lst (ks1.map V.str++ks2.map V.str)) p10=some (.lst ((ks1++ks2).map V.str)):=by rw[af,List.map_append]
 generalize upd (upd (upd H7 p8 (.lst (ks1.map V.str))) p9 (.lst (ks2.map V.str))) p10 (.lst (ks1.map V.str++ks2.map V.str))=H10 at x10 h10⊢
 refine⟨Nat.zero_le _,fun l hl=>?_⟩
 have hfl:H l=none:=Ext.free x10 hl
 have nlr:l≠r:=fun z=>by subst z;obtain⟨a,b,z⟩:=x10.2;rw[hl]at z;cases z
 have n10:p10≠l:=aB h10 hl
 have x11:Ext r H (upd H10 l (.lst [])):=x10.new hl _
 refine⟨_,rfl,_,rfl,by omega,by omega,?_⟩
 refine lX (n:=m) (fun i σ Hi=>∃(xs:List Str) (v9 v10 v11:Option V),σ=[some (.ref r),some (.int m),some (.str "abcdefghijklmnopqrstuvwxyz"),some (.str y),some (.int d1),some (.int d2),some (.int d3),some (.ref p10),some (.ref l),v9,v10,v11]/\xs.length=i/\((∀x∈xs,x.length<=10)/\(∀x∈xs,Lo x)/\∀j x,xs[j]?=some x->lK (Txt.slice y none (some d2)).cps.toList d1 j x)/\Hi l=some (.lst (xs.map V.str))/\Hi p10=some (.lst ((ks1++ks2).map V.str))/\Ext r H Hi)
  ⟨[],none,none,none,rfl,rfl,⟨(fun _ h=>nomatch h),(fun _ h=>nomatch h),(fun j x h=>by simp at h)⟩,af,by rw[aq n10];exact h10,x11⟩ ?_ ?_
 ·rintro i σ Hi hi ⟨xs,v9,v10,v11,rfl,hxl,⟨hxs,hlx,hnm⟩,hli,hpi,xi⟩
  have hm:0<=(d1+7*(0+(i:Int))) % 26/\(d1+7*(0+(i:Int))) % 26<26:=by omega
  obtain⟨c,hc1,hc2⟩:=atS (z:="abcdefghijklmnopqrstuvwxyz") (r:=(d1+7*(0+(i:Int))) % 26) hm.1 hm.2
  refine⟨_,rfl,_,rfl,_,rfl,_,_,rfl,rfl,.inl ⟨by decide,by decide⟩,_,_,rfl,rfl,_,_,rfl,rfl,(by show(0:Int)<26;decide),_,_,c,rfl,rfl,(by decide +kernel),hc1,?_⟩
  have la:=PySem.Txt.slice_le y none (some d2)
  have lb:=PySem.Txt.slice_le y (some d2) (some ((d3+(0+(i:Int))) % 5))
  refine⟨_,rfl,_,rfl,_,rfl,_,rfl,small (by omega),_,rfl,_,_,rfl,rfl,small (by show _+1<=1000;omega),?_⟩
  refine⟨_,rfl,_,rfl,_,rfl,_,rfl,_,rfl,_,_,rfl,rfl,_,_,rfl,rfl,(by show(0:Int)<5;decide),_,rfl,_,rfl,small (by omega),?_⟩
  have lc:(Txt.slice y none (some d2)++(⟨#[c]⟩:Str)).length=(Txt.slice y none (some d2)).length+1:=by rw[strLen_append];rfl
  refine⟨_,_,rfl,rfl,small (by omega),?_⟩
  have ln:(Txt.slice y none (some d2)++(⟨#[c]⟩:Str)++Txt.slice y (some d2) (some ((d3+(0+(i:Int))) % 5))).length<=9:=by rw[strLen_append];omega
  have hl0:Lo (Txt.slice y none (some d2)++(⟨#[c]⟩:Str)++Txt.slice y (some d2) (some ((d3+(0+(i:Int))) % 5))):=((hy.slice _ _).append (Lo.one hc2)).append (hy.slice _ _)
  have hn0:lK (Txt.slice y none (some d2)).cps.toList d1 i (Txt.slice y none (some d2)++(⟨#[c]⟩:Str)++Txt.slice y (some d2) (some ((d3+(0+(i:Int))) % 5))):=by
   refine lK.snoc ⟨c,[],?_,?_⟩ _
   ·rw[Int.zero_add]at hc1;exact hc1
   ·show((Txt.slice y none (some d2)).cps++#[c]).toList=_
    rw[Array.toList_append]
  generalize Txt.slice y none (some d2)++(⟨#[c]⟩:Str)++Txt.slice y (some d2) (some ((d3+(0+(i:Int))) % 5))=nm at ln hn0 hl0⊢
  refine⟨_,rfl,.inl ⟨rfl,_,bJ.of hli⟩,_,rfl,_,rfl,_,rfl,p10,_,rfl,.inl (bJ.of hpi),rfl,iC _,.inr ⟨_,rfl,?_⟩⟩
  generalize zQ (V.str nm) ((ks1++ks2).map V.str)=b
  have lq1:(Str.ofString "q").length=1:=by decide
  have lq:(Txt.mul (Str.ofString "q") (if b=true then 1 else 0)).length<=1:=by have:=Br b "q";rw[lq1]at this;exact this
  have lq':(Txt.mul (Str.ofString "q") (if(if false=true then !b else b)=true then 1 else 0)).length<=1:=lq
  refine⟨_,_,rfl,rfl,by split<;>omega,by split<;>omega,?_,?_⟩
  ·rw[lq1];exact small (by cases b<;>decide)
  refine⟨_,_,rfl,rfl,small (by omega),?_⟩
  refine⟨l,_,_,rfl,rfl,hli,by rw[List.length_map];exact aC (by omega),?_⟩
  refine⟨xs++[nm++Txt.mul "q" (if b then 1 else 0)],_,_,_,rfl,by rw[List.length_append,hxl];rfl,⟨fun x hx=>?_,fun x hx=>?_,fun j x hx=>?_⟩,by rw[af,List.map_append];rfl,by rw[aq n10];exact hpi,?_⟩
  ·rcases List.mem_append.mp hx with h|h
   ·exact hxs x h
   ·rw[List.mem_singleton.mp h,strLen_append];omega
  ·rcases List.mem_append.mp hx with h|h
   ·exact hlx x h
   ·rw[List.mem_singleton.mp h];exact hl0.append (Lo.q b)
  ·by_cases cj:j<xs.length
   ·rw[List.getElem?_append_left cj]at hx;exact hnm j x hx
   ·have hj:j=i:=by have:=(List.getElem?_eq_some_iff.mp hx).1;rw[List.length_append]at this;simp at this;omega
    subst hj
    rw[List.getElem?_append_right (by omega),hxl,Nat.sub_self]at hx
    simp at hx
    rw[←hx]
    exact hn0.snoc _
  ·refine⟨fun b o nb e=>?_,?_⟩
   ·rw[aq (aB e hfl)];exact xi.1 b o nb e
   ·obtain⟨a,b,z⟩:=xi.2
    exact⟨a,b,by rw[aq nlr.symm];exact z⟩
 ·rintro σ Hi ⟨xs,v9,v10,v11,rfl,hxl,⟨hxs,hlx,hnm⟩,hli,hpi,xi⟩
  have fin:∀(Hf:Hp) (ys:List Str),Ext r H Hf->Hf l=some (.lst (ys.map V.str))->ys.length=m->(∀x∈ys,x.length<=20/\Lo x)->Un ys->Q (.ref l) Hf:=fun Hf ys a b c d=>k l Hf ys a hfl b c d
  have ret:∀{Hf:Hp}(ys:List Str),Ext r H Hf->Hf l=some (.lst (ys.map V.str))->ys.length=m->(∀x∈ys,x.length<=20/\Lo x)->Un ys->A2 (dX 8) {nx:=fun _ H'=>Q .cW H',rt:=Q} [some (.ref r),some (.int m),some (.str "abcdefghijklmnopqrstuvwxyz"),some (.str y),some (.int d1),some (.int d2),some (.int d3),some (.ref p10),some (.ref l),v9,v10,v11] Hf:=fun ys a b c d u=>⟨_,rfl,fin _ ys a b c d u⟩
  have un:Un xs:=lK.De (by omega) hnm
  have x20:∀x∈xs,x.length<=20/\Lo x:=fun x hx=>⟨Nat.le_trans (hxs x hx) (by decide),hlx x hx⟩
  refine⟨_,rfl,_,_,rfl,rfl,_,rfl,cJ (fun c=>?_) (fun c=>?_)⟩
  ·have c1:1<m:=by have z:(1:Int)<(m:Int):=of_decide_eq_true c;omega
   obtain⟨xs',x2,x1,rfl⟩:∃xs' x2 x1,xs=xs'++[x2,x1]:=by
    rcases List.eq_nil_or_concat xs with rfl|⟨a,x1,rfl⟩
    ·simp at hxl;omega
    rcases List.eq_nil_or_concat a with rfl|⟨b,x2,rfl⟩
    ·simp at hxl;omega
    exact⟨b,x2,x1,by simp⟩
   have l2:x2.length<=10:=hxs x2 (by simp)
   have a2:iI ((xs'++[x2,x1]).map V.str) (-2)=some (.str x2):=by rw[List.map_append];exact Ai _ _ _
   refine⟨_,rfl,_,rfl,l,_,_,_,rfl,rfl,bJ.of hli,a2,_,rfl,small (by omega),_,_,rfl,rfl,_,rfl,cJ (fun c=>?_) (fun c=>?_)⟩
   ·refine⟨_,rfl,r,4,rfl,by decide,by decide,xi.2,fun d4 H11 _ _ e11=>?_⟩
    have xj:=xi.trans e11
    have hlj:=e11.1 l _ nlr hli
    refine⟨rfl,_,rfl,cJ (fun c=>?_) (fun c=>?_)⟩
    ·refine⟨_,rfl,_,rfl,l,_,_,_,rfl,rfl,bJ.of hlj,a2,_,_,rfl,rfl,small (by show _+1<=1000;omega),?_⟩
     refine⟨_,rfl,_,rfl,l,_,_,xs'.length+1,rfl,rfl,hlj,?_,?_⟩
     ·exact Aj _ _ (by simp)
     refine ret (xs'++[x2,x2++Str.ofString "q"]) ?_ ?_ ?_ ?_ (lK.last (by omega) (by decide) hnm)
     ·refine⟨fun b o nb e=>?_,?_⟩
      ·rw[aq (aB e hfl)];exact xj.1 b o nb e
      ·obtain⟨a,b,z⟩:=xj.2
       exact⟨a,b,by rw[aq nlr.symm];exact z⟩
     ·rw[af];simp
     ·rw[←hxl];simp
     ·intro x hx
      simp at hx
      rcases hx with h|rfl|rfl
      ·exact x20 x (by simp[h])
      ·exact⟨by omega,hlx _ (by simp)⟩
      ·refine⟨?_,(hlx x2 (by simp)).append Lo.q1⟩
       rw[strLen_append];have:(Str.ofString "q").length=1:=by decide
       omega
    ·exact ret _ xj hlj hxl x20 un
   ·exact ret _ xi hli hxl x20 un
  ·exact ret _ xi hli hxl x20 un
end
end G04
namespace HT
open PySem PyProof.Rows
section
open PySem.SeqAt
open PySem.AutoSeq1 (wpAny_loadPart')
open PySem.MeetsSeq PySem.MeetsSeq2 PySem.MeetsSeq3
variable {prog:Program}{w:World}{A:Around}{E:Value->Shared->Prop}{s:Shared}
theorem jH{sl:Addr}{t:Tok}{Q:Int×Int×Nat->Shared->Prop}(hs:s.heap.IsSliceOf sl .none .none (.int (-1) t))(h:Q (1,-1,2) s):wpAny (model prog w) A (Builtin.Slice.sliceApplied (.ref sl) (pure (2:Int))) Q E s:=by
 obtain⟨os,hos,hcs,hds⟩:=id hs
 unfold Builtin.Slice.sliceApplied Builtin.Slice.sliceFields
 refine wpAny_bind (wpAny_bind (wpAny_field hos hds (x:=.none) rfl (wpAny_bind (wpAny_field hos hds (x:=.none) rfl (wpAny_bind (wpAny_field hos hds (x:=.int (-1) t) rfl (wpAny_pure ?_)))))))
 refine wpAny_bind (eG (.int (-1) t) ?_)
 show wpAny _ _ (if((-1:Int) == 0)=true then _ else _) _ _ s
 rw[if_neg (by decide)]
 refine wpAny_bind (eG .none (wpAny_bind (eG .none (wpAny_bind (wpAny_pure ?_)))))
 exact wpAny_pure h
theorem jj{t sl:Addr}{x y:Value}{tk:Tok}{Q:Value->Shared->Prop}(ht:IsTup s.heap t #[x,y])(hs:s.heap.IsSliceOf sl .none .none (.int (-1) tk))
  (h:Q (.ref s.heap.objs.size) {s with heap:=s.heap.push {cls:=.type "tuple",data:=.seq #[y,x]}}):wpAny (model prog w) A (getItem (.ref t) (.ref sl)) Q E s:=by
 have htake:sizeOk (.seq #[y,x]):=by show(2:Nat)<=sizeLine;decide
 obtain⟨os,hos,hcs,hds⟩:=id hs
 have hTs:s.TypeIs (.ref sl) "slice":=⟨os,hos,hcs⟩
 unfold getItem
 try with_reducible refine wpAny_holding ?_
 first|refine wpAny_bind (wpAny_pure ?_)|skip
 refine wpAny_bind (wpAny_sequenceKey ht.typeIs (by decide) ?_)
 refine wpAny_bind (wpAny_callSpecial?_slot (name:=Str.ofString "__getitem__") ht.typeIs PyProof.Rows.slot_tuple_getitem
  (wpAny_call_entry PyProof.Rows.slot_tuple_getitem ht.typeIs entry_tuple_getitem ?_ (args_tuple_getitem _ _)))
 show wpAny _ _ (Builtin.Tuple.tupleItemsOf (.ref t)>>=_) _ _ s
 refine wpAny_bind (tupleItemsOf_ ht ?_)
 refine wpAny_bind (wpAny_typeOf hTs ?_)
 rw[if_pos (by decide)]
 refine wpAny_bind (jH hs ?_)
 show wpAny _ _ (if((1:Int) == 0&&(-1:Int) == 1&&(2:Nat) == 2)=true then _ else _) _ _ s
 rw[if_neg (by decide)]
 have ep:((List.range 2).filterMap fun(k:Nat)=>(#[x,y]:Array Value)[((1:Int)+(k:Int)*(-1)).toNat]?).toArray=#[y,x]:=rfl
 rw[ep]
 first
  |exact wpAny_bind (m:=Builtin.Tuple.tupleExact _) (wpAny_newObj_type (wpAny_pure ⟨_,rfl,wpAny_pure h⟩) htake)
  |exact wpAny_bind (m:=Builtin.Tuple.tupleExact _) (wpAny_newObj_type (wpAny_bind (wpAny_pure (wpAny_pure ⟨_,rfl,wpAny_pure h⟩))) htake)
  |exact wpAny_bind (wpAny_bind (m:=Builtin.Tuple.tupleExact _) (wpAny_newObj_type (wpAny_pure (wpAny_pure ⟨_,rfl,wpAny_pure h⟩)) htake))
  |exact wpAny_bind (wpAny_bind (m:=Builtin.Tuple.tupleExact _) (wpAny_newObj_type (wpAny_pure ⟨_,rfl,wpAny_pure h⟩) htake))
end
end HT
namespace L2
open PySem PySem.Spec PyProof.Rows
section
variable {X:Cx}{e st:Expr}{lo hi:Option Expr}{te:TE}{tl th tk:TO}{p2 pos:Pos}
noncomputable def BC(K:PySem.W.Frag)(te:TE)(tl th tk:TO):TE:=fun σ H Q=>te σ H fun x H1=>tl σ H1 fun l H2=>th σ H2 fun u H3=>tk σ H3 fun k H4=>∃a x1 x2,x=.ref a/\aJ K H4 a [x1,x2]/\l=none/\u=none/\k=some (-1) /\
 ∀p,H4 p=none->Q (.ref p) (upd H4 p (.tup [x2,x1]))
theorem yj(K:PySem.W.Frag)(hK:X.K=K)(he:PE X e te)(hl:PO X lo tl)(hu:PO X hi th)(hk:PO X (some st) tk):PE X (.Subscript e (.Slice lo hi (some st) p2) pos) (BC K te tl th tk):=by
 subst hK
 intro pins s σ H Q I h
 refine Subscript_ (bR (he pins s σ H _ I h) fun v s1 ⟨x,H1,I1,r1,q1⟩=>?_)
 refine wpAny_Slice (bR (hl pins s1 σ H1 _ I1 q1) fun vl s2 ⟨l,H2,I2,pl,q2⟩=>bR (hu pins s2 σ H2 _ I2 q2) fun vu s3 ⟨u,H3,I3,pu,q3⟩=>bR (hk pins s3 σ H3 _ I3 q3) fun vk s4 ⟨k,H4,I4,pk,q4⟩=>?_)
 obtain⟨a,x1,x2,rfl,hx,rfl,rfl,rfl,q⟩:=q4
 cases r1
 cases pl
 cases pu
 obtain⟨tk,rfl⟩:∃t,vk=.int (-1) t:=by cases pk;exact⟨_,rfl⟩
 have I5:Inv X pins σ H4 {s4 with heap:=s4.heap.push {cls:=.type "slice",data:=.fields #[.none,.none,.int (-1) tk]}}:=I4.kept (t':=s4.toks) fun b ob q=>Heap.get?_push_of_some _ q
 obtain⟨its,r,ht,hz⟩:=I5.tuple hx
 obtain⟨y1,y2,rfl,ry1,ry2⟩:=vals2 r
 refine tail_any (T:="tuple") (ops:=[.ref a,.ref s4.heap.objs.size]) ht.typeIs PyProof.Rows.slot_tuple_getitem.lookup ?_ (by with_unfolding_all rfl)
 refine HT.jj (x:=y1) (y:=y2) ht (Heap.IsSliceOf.new ..) ?_
 refine⟨.ref _,_,I5.laid (t':=s4.toks) (o:=.tup [x2,x1]) (fun b ob q=>Heap.get?_push_of_some _ q) (Nat.le_refl _) ?_,rfl,q _ (I5.hok.fresh (Nat.le_refl _))⟩
 exact⟨(by show 2<=sizeLine;decide),[y2,y1],.cons ry2 (.cons ry1 .nil),IsTup.new _ _,_,Heap.get?_push_size _ rfl,rfl⟩
end
theorem vJ{X:Cx}{pos:Pos}{k1 k2 k3 k4 k5 v1 v2 v3 v4 v5:Expr}{t1 t2 t3 t4 t5 s1 s2 s3 s4 s5:TE}(a1:PE X k1 t1)(b1:PE X v1 s1)(a2:PE X k2 t2)(b2:PE X v2 s2)(a3:PE X k3 t3)(b3:PE X v3 s3)(a4:PE X k4 t4)(b4:PE X v4 s4)(a5:PE X k5 t5)(b5:PE X v5 s5) :
  PE X (.Dict [some k1,some k2,some k3,some k4,some k5] [v1,v2,v3,v4,v5] pos) (yZ [(t1,s1),(t2,s2),(t3,s3),(t4,s4),(t5,s5)]) :=
 xB (gQ a1 b1 (gQ a2 b2 (gQ a3 b3 (gQ a4 b4 (gQ a5 b5 xA))))) rfl rfl (List.cons_ne_nil _ _) (by show 5<=15;decide)
end L2
namespace G04
open PySem L2
noncomputable def kN:T:=.s "num"
noncomputable def kR(k:T):T:=.t [.s "row",k]
noncomputable def kK(x:Str):T:=.t [.s "kind",.s x]
noncomputable def BD(p:Str×List T):T:=.t [.s p.1,.t p.2]
noncomputable def qM(x:Str):List T:=[kN,kR kN,kK x,kR (kK x)]
structure ic where
 kd:Addr
 ln:Addr
 lp:Addr
 la:Addr
 lg:Addr
 lc:Addr
 mo:Int
 tn:Int
noncomputable def lT(S:ic)(df:V):List (Key×V):=[(.inr "kinds",.ref S.kd),(.inr "names",.ref S.ln),(.inr "params",.ref S.lp),(.inr "most",.int S.mo),(.inr "asked",.ref S.la),(.inr "goals",.ref S.lg),(.inr "turn",.int S.tn),(.inr "called",.ref S.lc),(.inr "def",df)]
noncomputable def Ak(xs:List Str)(ow:List (Str×List T)):Prop:=ow.length=2/\∀p∈ow,(p.1=wf xs 1\/p.1=wf xs 2)/\p.2.length<=2/\∀k∈p.2,k=kN\/k=kR kN
noncomputable def cC(tn:Int)(k:Nat):Int:=if tn=0 then 7*(k:Int)+3 else 99 - (k:Int)
structure bf(K:PySem.W.Frag) (H:Hp) (f d:Addr) (S:ic) (xs:List Str) (ow:List (Str×List T)) (df:V) (m:Nat):Prop where
 sd:H d=some (.dK (lT S df))
 kd:Rp K H (.t [.t [.s (wf xs 0),.t (ow.map BD)]]) (.ref S.kd)
 ln:H S.ln=some (.lst (((xs.drop 3).take 4).map V.str))
 lp:H S.lp=some (.lst (((xs.drop 7).take 3).map V.str))
 lc:H S.lc=some (.lst ((xs.drop 10).map V.str))
 lg:∃gvs,H S.lg=some (.lst gvs)/\aM K H (qM (wf xs 0)) gvs
 la:∃avs:List (Key×V),H S.la=some (.dK avs)/\avs.map (·.1)=(List.range m).map fun k=>(.inl (cC S.tn k):Key)
 mm:(m:Int)<=S.mo
 mo:S.mo<=5
 tn:S.tn=0\/S.tn=1
 lx:xs.length=12
 un:Un xs
 lo:∀x∈xs,x.length<=20/\Lo x
 ow:Ak xs ow
 ff:bM H f
 nl:S.ln≠f/\S.lp≠f/\S.lc≠f/\S.lg≠f
noncomputable def rQ(K:PySem.W.Frag):Sp:=fun vs H Q _=>∃(f:Addr) (mo:Int),vs=[.ref f,.int mo]/\bM H f/\0<=mo/\mo<=5 /\
 ∀(d:Addr) (H':Hp) (S:ic) (xs:List Str) (ow:List (Str×List T)),Ext f H H'->H d=none->H S.la=none->S.mo=mo->bf K H' f d S xs ow .cW 0->Q (.ref d) H'
noncomputable abbrev ky(x:Str):Key:=Sum.inr x
noncomputable def cH(kd ln lp la:Addr)(mo:Int):List (Key×V):=[(.inr "kinds",.ref kd),(.inr "names",.ref ln),(.inr "params",.ref lp),(.inr "most",.int mo),(.inr "asked",.ref la)]
theorem Al(kd ln lp la:Addr)(mo:Int):fj [] (cH kd ln lp la mo)=cH kd ln lp la mo:=by kernel_rfl
theorem Di(kd ln lp la:Addr)(mo:Int)(v:V):putK (cH kd ln lp la mo) (ky "goals") v=cH kd ln lp la mo++[(ky "goals",v)]:=by kernel_rfl
theorem Dj(kd ln lp la:Addr)(mo:Int)(v6 v:V):putK (cH kd ln lp la mo++[(ky "goals",v6)]) (ky "turn") v=cH kd ln lp la mo++[(ky "goals",v6),(ky "turn",v)]:=by kernel_rfl
theorem Dk(kd ln lp la:Addr)(mo:Int)(v6 v7 v:V):putK (cH kd ln lp la mo++[(ky "goals",v6),(ky "turn",v7)]) (ky "called") v=cH kd ln lp la mo++[(ky "goals",v6),(ky "turn",v7),(ky "called",v)]:=by kernel_rfl
theorem Dl(kd ln lp la:Addr)(mo:Int)(v6 v7 v8 v:V):putK (cH kd ln lp la mo++[(ky "goals",v6),(ky "turn",v7),(ky "called",v8)]) (ky "def") v=cH kd ln lp la mo++[(ky "goals",v6),(ky "turn",v7),(ky "called",v8),(ky "def",v)]:=by kernel_rfl
theorem C2{α:Type}:∀{xs:List α},xs.length=12->∃x0 x1 x2 x3 x4 x5 x6 x7 x8 x9 x10 x11,xs=[x0,x1,x2,x3,x4,x5,x6,x7,x8,x9,x10,x11]
 | [x0,x1,x2,x3,x4,x5,x6,x7,x8,x9,x10,x11],_=>⟨x0,x1,x2,x3,x4,x5,x6,x7,x8,x9,x10,x11,rfl⟩
section
variable {P:Program}{w:World}{K:PySem.W.Frag}{mg:Str->Option Value}{base:Heap}{gT gN:Addr}{tfd nfd:FuncData}
theorem aR:Nm ["_law_feed_here","_law_most","_law_names_here","_law_own","_law_scene_here"] (aj cY):=by decide +kernel
theorem gb:Lm ["_law_feed_here","_law_most","_law_names_here","_law_own","_law_scene_here"] (aj cY):=by decide +kernel
theorem eO:aZ ["_law_feed_here","_law_most","_law_names_here","_law_own","_law_scene_here"] ["_law_feed_here","_law_most"] (aj cY):=⟨rfl,rfl,rfl,by decide +kernel,rfl,by decide +kernel,by decide +kernel⟩
theorem qN{f:Addr}{cdv:Value}{A:Around}{outer:List PySem.Env}{s:Shared}{H0:Hp}{E:XK}(TK:cR P w K mg base "_law_take" 1 ["_law_feed_here","_law_many_here"] cT gT tfd)(hr:eW 2 (A.deeper (PyProof.Rows.envOfC "_law_scene" (aj cY) s.heap.objs.size f cdv)))
  {D:L2.Ends}{H:Hp}{fe ln:Addr}{mo:Int}{x0 x1 x2 x3 x4 x5 x6 x7 x8 x9 x10 x11:Str}{ow:List (Str×List T)}{vo:V}{o4:Option V}(hf:bM H fe) (hm0:0<=mo) (hm5:mo<=5) (hl:H ln=some (.lst ([x0,x1,x2,x3,x4,x5,x6,x7,x8,x9,x10,x11].map V.str))) (un:Un [x0,x1,x2,x3,x4,x5,x6,x7,x8,x9,x10,x11]) (lo:∀x∈[x0,x1,x2,x3,x4,x5,x6,x7,x8,x9,x10,x11],x.length<=20/\Lo x) (ro:Rp K H (.t (ow.map BD)) vo) (how:Ak [x0,x1,x2,x3,x4,x5,x6,x7,x8,x9,x10,x11] ow)
  (k:∀(d:Addr) (H':Hp) (S:ic),Ext fe H H'->H d=none->H S.la=none->S.mo=mo->bf K H' fe d S [x0,x1,x2,x3,x4,x5,x6,x7,x8,x9,x10,x11] ow .cW 0->D.rt (.ref d) H') :
  tI (nq gv P w K mg base ["_law_feed_here","_law_most","_law_names_here","_law_own","_law_scene_here"] "_law_scene" (aj cY) f cdv A outer s H0 E).zy ((bW cY).drop 3) D [some (.ref fe),some (.int mo),some (.ref ln),some vo,o4] H:=by
 refine vq ((Z6 (Z3 eO.nd gb 4 (vJ au (Ze (Z1 (Ze (Z1 (Z8 aT (va aR 2)) (aA (va aR 3) ah))) ah)) au (b8 d8 (va aR 2) (bV ak) (bV ak)) au (b8 d8 (va aR 2) (bV ak) (bV ak)) au (va aR 1) au uP)) (Z6 (@ir _ _ _ _ _ _ _ _ _ (jK hr) (va aR 4) au (@bj _ _ _ _ (Z1 au (Z1 (Ze (aA au (aA au ah))) (Z1 (Ze (Z1 au (Z1 (Z8 aT (va aR 2)) ah))) (Z1 (Ze (Z1 au (Z1 (Ze (Z1 au (Z1 (Z8 aT (va aR 2)) ah))) ah))) ah))))) (by rfl)) (Z6 (@ir _ _ _ _ _ _ _ _ _ (jK hr) (va aR 4) au (Z0 TK (aA (va aR 0) (aA ak ah))) (by rfl)) (Z6 (@ir _ _ _ _ _ _ _ _ _ (jK hr) (va aR 4) au (b8 d8 (va aR 2) (bV ak) cE) (by rfl)) (Z6 (ir (jK hr) (va aR 4) au zu (by rfl)) (Zh (aK (va aR 4))))))))) ?_
 try dsimp only[dg]
 have hS:=bJ.of (K:=K) hl
 have a0:iI ([x0,x1,x2,x3,x4,x5,x6,x7,x8,x9,x10,x11].map V.str) 0=some (.str x0):=bC (j:=0) rfl
 fail "R"
 intro d hd
 have s1:=ae hd (.dK [])
 have h1d:upd H d (.dK []) d=some (.dK []):=af
 have hf1:bM (upd H d (.dK [])) fe:=(Ext.refl hf).same s1|>.2
 have h1l:=s1 _ _ hl
 have r1:=ro.same s1
 generalize upd H d (.dK [])=H1 at s1 h1d hf1 h1l r1⊢
 fail "R"
 intro p1 hp1
 have s2:=s1.trans (ae hp1 (.tup [.str x0,vo]))
 have r2:Rp K (upd H1 p1 (.tup [.str x0,vo])) (.t [.s x0,.t (ow.map BD)]) (.ref p1):=Rp.t (aJ.of af) (.cons .s (.one (r1.same (ae hp1 _))))
 have h2d:=ae hp1 (.tup [.str x0,vo]) _ _ h1d
 have h2l:=ae hp1 (.tup [.str x0,vo]) _ _ h1l
 generalize upd H1 p1 (.tup [.str x0,vo])=H2 at s2 r2 h2d h2l⊢
 fail "R"
 intro p2 hp2
 have s3:=s2.trans (ae hp2 (.tup [.ref p1]))
 have r3:Rp K (upd H2 p2 (.tup [.ref p1])) (.t [.t [.s x0,.t (ow.map BD)]]) (.ref p2):=Rp.t (aJ.of af) (.one (r2.same (ae hp2 _)))
 have h3d:=ae hp2 (.tup [.ref p1]) _ _ h2d
 have h3l:=ae hp2 (.tup [.ref p1]) _ _ h2l
 generalize upd H2 p2 (.tup [.ref p1])=H3 at s3 r3 h3d h3l⊢
 have c1:bF ([x0,x1,x2,x3,x4,x5,x6,x7,x8,x9,x10,x11].map V.str) (some 3) (some 7)=[x3,x4,x5,x6].map V.str:=rfl
 have c2:bF ([x0,x1,x2,x3,x4,x5,x6,x7,x8,x9,x10,x11].map V.str) (some 7) (some 10)=[x7,x8,x9].map V.str:=rfl
 have c3:bF ([x0,x1,x2,x3,x4,x5,x6,x7,x8,x9,x10,x11].map V.str) (some 10) none=[x10,x11].map V.str:=rfl
 have z1:(bF ([x0,x1,x2,x3,x4,x5,x6,x7,x8,x9,x10,x11].map V.str) (some 3) (some 7)).length<=sizeLine:=by rw[c1];exact(show 4<=sizeLine by decide)
 have z2:(bF ([x0,x1,x2,x3,x4,x5,x6,x7,x8,x9,x10,x11].map V.str) (some 7) (some 10)).length<=sizeLine:=by rw[c2];exact(show 3<=sizeLine by decide)
 have z3:(bF ([x0,x1,x2,x3,x4,x5,x6,x7,x8,x9,x10,x11].map V.str) (some 10) none).length<=sizeLine:=by rw[c3];exact(show 2<=sizeLine by decide)
 fail "R"
 intro l3 hl3
 rw[c1]
 have s4:=s3.trans (ae hl3 (.lst ([x3,x4,x5,x6].map V.str)))
 have u4:=ae hl3 (.lst ([x3,x4,x5,x6].map V.str))
 have h4n:upd H3 l3 (.lst ([x3,x4,x5,x6].map V.str)) l3=some (.lst ([x3,x4,x5,x6].map V.str)):=af
 have r4:=r3.same u4
 have h4d:=u4 _ _ h3d
 have h4l:=u4 _ _ h3l
 generalize upd H3 l3 (.lst ([x3,x4,x5,x6].map V.str))=H4 at s4 u4 h4n r4 h4d h4l⊢
 fail "R"
 intro l4 hl4
 rw[c2]
 have u5:=ae hl4 (.lst ([x7,x8,x9].map V.str))
 have s5:=s4.trans u5
 have h5p:upd H4 l4 (.lst ([x7,x8,x9].map V.str)) l4=some (.lst ([x7,x8,x9].map V.str)):=af
 have r5:=r4.same u5
 have h5n:=u5 _ _ h4n
 have h5d:=u5 _ _ h4d
 have h5l:=u5 _ _ h4l
 generalize upd H4 l4 (.lst ([x7,x8,x9].map V.str))=H5 at s5 u5 h5p r5 h5n h5d h5l⊢
 fail "R"
 intro la hla
 have u6:=ae hla (.dK [])
 have s6:=s5.trans u6
 have h6a:upd H5 la (.dK []) la=some (.dK []):=af
 have r6:=r5.same u6
 have h6n:=u6 _ _ h5n
 have h6p:=u6 _ _ h5p
 have h6d:=u6 _ _ h5d
 have h6l:=u6 _ _ h5l
 generalize upd H5 la (.dK [])=H6 at s6 u6 h6a r6 h6n h6p h6d h6l⊢
 have nld:ln≠d:=aB hl hd
 have nfd:fe≠d:=by obtain⟨_,_,e⟩:=hf;exact aB e hd
 have nnd:l3≠d:=iW h6n h6d (fun z=>nomatch z)
 have npd:l4≠d:=iW h6p h6d (fun z=>nomatch z)
 have nad:la≠d:=fun z=>by rw[z]at hla;rw[h5d]at hla;cases hla
 have hla0:H la=none:=by
  cases e:H la with
  |none=>rfl
  |some o=>rw[s5 _ _ e]at hla;cases hla
 fail "R"
 ·exact(show _=(cH p2 l3 l4 la mo).map (fun kv=>(kV kv.1,kv.2))from rfl)
 refine⟨by show 5<=15;decide,?_⟩
 rw[Al]
 have k7:Kt H6 (upd H6 d (.dK (cH p2 l3 l4 la mo))):=Kt.upd h6d (fun _ z=>nomatch z) (fun _ _ z=>nomatch z) _
 have s7:=s6.qI hd (.dK (cH p2 l3 l4 la mo))
 have h7d:upd H6 d (.dK (cH p2 l3 l4 la mo)) d=some (.dK (cH p2 l3 l4 la mo)):=af
 have h7l:upd H6 d (.dK (cH p2 l3 l4 la mo)) ln=some (.lst ([x0,x1,x2,x3,x4,x5,x6,x7,x8,x9,x10,x11].map V.str)):=s7 _ _ hl
 have h7n:upd H6 d (.dK (cH p2 l3 l4 la mo)) l3=some (.lst ([x3,x4,x5,x6].map V.str)):=by rw[aq nnd];exact h6n
 have h7p:upd H6 d (.dK (cH p2 l3 l4 la mo)) l4=some (.lst ([x7,x8,x9].map V.str)):=by rw[aq npd];exact h6p
 have h7a:upd H6 d (.dK (cH p2 l3 l4 la mo)) la=some (.dK []):=by rw[aq nad];exact h6a
 have r7:=r6.kt k7
 generalize upd H6 d (.dK (cH p2 l3 l4 la mo))=H7 at k7 s7 h7d h7l h7n h7p h7a r7⊢
 fail "R"
 intro q1 hq1
 have u8:=ae hq1 (.tup [.str "row",.str "num"])
 have g8:Rp K (upd H7 q1 (.tup [.str "row",.str "num"])) (kR kN) (.ref q1):=Rp.t (aJ.of af) (.cons .s (.one .s))
 have h8l:=u8 _ _ h7l
 generalize upd H7 q1 (.tup [.str "row",.str "num"])=H8 at u8 g8 h8l⊢
 fail "R"
 intro q2 hq2
 have u9:=ae hq2 (.tup [.str "kind",.str x0])
 have g9:Rp K (upd H8 q2 (.tup [.str "kind",.str x0])) (kK x0) (.ref q2):=Rp.t (aJ.of af) (.cons .s (.one .s))
 have g9a:=g8.same u9
 have h9l:=u9 _ _ h8l
 have v9:=u8.trans u9
 generalize upd H8 q2 (.tup [.str "kind",.str x0])=H9 at u9 g9 g9a h9l v9⊢
 fail "R"
 intro q3 hq3
 have u10:=ae hq3 (.tup [.str "kind",.str x0])
 have g10:Rp K (upd H9 q3 (.tup [.str "kind",.str x0])) (kK x0) (.ref q3):=Rp.t (aJ.of af) (.cons .s (.one .s))
 have g10a:=g9a.same u10
 have g10b:=g9.same u10
 have v10:=v9.trans u10
 generalize upd H9 q3 (.tup [.str "kind",.str x0])=H10 at u10 g10 g10a g10b v10⊢
 fail "R"
 intro q4 hq4
 have u11:=ae hq4 (.tup [.str "row",.ref q3])
 have g11:Rp K (upd H10 q4 (.tup [.str "row",.ref q3])) (kR (kK x0)) (.ref q4):=Rp.t (aJ.of af) (.cons .s (.one (g10.same u11)))
 have g11a:=g10a.same u11
 have g11b:=g10b.same u11
 have v11:=v10.trans u11
 generalize upd H10 q4 (.tup [.str "row",.ref q3])=H11 at u11 g11 g11a g11b v11⊢
 fail "R"
 intro lg hlg
 have u12:=ae hlg (.lst [.str "num",.ref q1,.ref q2,.ref q4])
 have h12g:upd H11 lg (.lst [.str "num",.ref q1,.ref q2,.ref q4]) lg=some (.lst [.str "num",.ref q1,.ref q2,.ref q4]):=af
 have g12:aM K (upd H11 lg (.lst [.str "num",.ref q1,.ref q2,.ref q4])) (qM x0) [.str "num",.ref q1,.ref q2,.ref q4]:=.cons .s (.cons (g11a.same u12) (.cons (g11b.same u12) (.one (g11.same u12))))
 have v12:=v11.trans u12
 have h12d:=v12 _ _ h7d
 have s12:=s7.trans v12
 have nlgf:lg≠fe:=aV (((Ext.refl hf).same (s7.trans v11)).2) hlg
 generalize upd H11 lg (.lst [.str "num",.ref q1,.ref q2,.ref q4])=H12 at u12 h12g g12 v12 h12d s12⊢
 have pp:=iP.k (k:=ky "goals") (v:=.ref lg) h12d (aC (by show 5<=1000;decide))
 rw[Di]at pp
 have ngd:lg≠d:=iW h12g h12d (fun z=>nomatch z)
 have s13:=s12.qI hd (.dK (cH p2 l3 l4 la mo++[(ky "goals",.ref lg)]))
 have k13:Kt H12 (upd H12 d (.dK (cH p2 l3 l4 la mo++[(ky "goals",.ref lg)]))):=Kt.upd h12d (fun _ z=>nomatch z) (fun _ _ z=>nomatch z) _
 have hf13:bM (upd H12 d (.dK (cH p2 l3 l4 la mo++[(ky "goals",.ref lg)]))) fe:=((Ext.refl hf).same s13).2
 have h13d:upd H12 d (.dK (cH p2 l3 l4 la mo++[(ky "goals",.ref lg)])) d=some (.dK (cH p2 l3 l4 la mo++[(ky "goals",.ref lg)])):=af
 have h13n:upd H12 d (.dK (cH p2 l3 l4 la mo++[(ky "goals",.ref lg)])) l3=some (.lst ([x3,x4,x5,x6].map V.str)):=by rw[aq nnd];exact v12 _ _ h7n
 have h13p:upd H12 d (.dK (cH p2 l3 l4 la mo++[(ky "goals",.ref lg)])) l4=some (.lst ([x7,x8,x9].map V.str)):=by rw[aq npd];exact v12 _ _ h7p
 have h13a:upd H12 d (.dK (cH p2 l3 l4 la mo++[(ky "goals",.ref lg)])) la=some (.dK []):=by rw[aq nad];exact v12 _ _ h7a
 have h13g:upd H12 d (.dK (cH p2 l3 l4 la mo++[(ky "goals",.ref lg)])) lg=some (.lst [.str "num",.ref q1,.ref q2,.ref q4]):=by rw[aq ngd];exact h12g
 have r13:=(r7.same v12).kt k13
 have g13:=g12.kt k13
 generalize upd H12 d (.dK (cH p2 l3 l4 la mo++[(ky "goals",.ref lg)]))=H13 at pp s13 k13 hf13 h13d h13n h13p h13a h13g r13 g13
 fail "R"
 intro tn H14 t0 t1 x14
 have k14:=x14.kt hf13
 have nnf:l3≠fe:=fun z=>by subst z;obtain⟨_,_,e⟩:=hf;rw[s3 _ _ e]at hl3;cases hl3
 have npf:l4≠fe:=fun z=>by subst z;obtain⟨_,_,e⟩:=hf;rw[s4 _ _ e]at hl4;cases hl4
 have naf:la≠fe:=fun z=>by subst z;obtain⟨_,_,e⟩:=hf;rw[s5 _ _ e]at hla;cases hla
 have h14d:=x14.1 _ _ nfd.symm h13d
 have h14n:=x14.1 _ _ nnf h13n
 have h14p:=x14.1 _ _ npf h13p
 have h14a:=x14.1 _ _ naf h13a
 have h14g:=x14.1 _ _ nlgf h13g
 have h14l:=x14.1 _ _ (nK hf hl) (s13 _ _ hl)
 have r14:=r13.kt k14
 have g14:=g13.kt k14
 have e14:Ext fe H H14:=((Ext.refl hf).same s13).trans x14
 have pq:=iP.k (k:=ky "turn") (v:=.int tn) h14d (aC (by show 6<=1000;decide))
 rw[Dj]at pq
 have k15:Kt H14 (upd H14 d (.dK (cH p2 l3 l4 la mo++[(ky "goals",.ref lg),(ky "turn",.int tn)]))):=Kt.upd h14d (fun _ z=>nomatch z) (fun _ _ z=>nomatch z) _
 have h15d:upd H14 d (.dK (cH p2 l3 l4 la mo++[(ky "goals",.ref lg),(ky "turn",.int tn)])) d=some (.dK (cH p2 l3 l4 la mo++[(ky "goals",.ref lg),(ky "turn",.int tn)])):=af
 have o15:∀{c:Addr}{o:HO},c≠d->H14 c=some o->upd H14 d (.dK (cH p2 l3 l4 la mo++[(ky "goals",.ref lg),(ky "turn",.int tn)])) c=some o:=fun n e=>by rw[aq n];exact e
 have h15l:=o15 nld h14l
 generalize upd H14 d (.dK (cH p2 l3 l4 la mo++[(ky "goals",.ref lg),(ky "turn",.int tn)]))=H15 at pq k15 h15d o15 h15l
 fail "R"
 intro lc hlc
 rw[c3]
 have u16:=ae hlc (.lst ([x10,x11].map V.str))
 have h16c:upd H15 lc (.lst ([x10,x11].map V.str)) lc=some (.lst ([x10,x11].map V.str)):=af
 have h16d:=u16 _ _ h15d
 have nlcd:lc≠d:=fun z=>by rw[z,h15d]at hlc;cases hlc
 have hf15:bM H15 fe:=by
  obtain⟨p,q,e⟩:=x14.2
  exact⟨p,q,o15 nfd e⟩
 have nlcf:lc≠fe:=aV hf15 hlc
 have o16:∀{c:Addr}{o:HO},c≠d->H14 c=some o->upd H15 lc (.lst ([x10,x11].map V.str)) c=some o:=fun n e=>u16 _ _ (o15 n e)
 have k16:=k15.trans (Kt.same u16)
 generalize upd H15 lc (.lst ([x10,x11].map V.str))=H16 at u16 h16c h16d o16 k16⊢
 have pr:=iP.k (k:=ky "called") (v:=.ref lc) h16d (aC (by show 7<=1000;decide))
 rw[Dk]at pr
 have k17:Kt H16 (upd H16 d (.dK (cH p2 l3 l4 la mo++[(ky "goals",.ref lg),(ky "turn",.int tn),(ky "called",.ref lc)]))):=Kt.upd h16d (fun _ z=>nomatch z) (fun _ _ z=>nomatch z) _
 have h17d:upd H16 d (.dK (cH p2 l3 l4 la mo++[(ky "goals",.ref lg),(ky "turn",.int tn),(ky "called",.ref lc)])) d=some (.dK (cH p2 l3 l4 la mo++[(ky "goals",.ref lg),(ky "turn",.int tn),(ky "called",.ref lc)])):=af
 have h17c:upd H16 d (.dK (cH p2 l3 l4 la mo++[(ky "goals",.ref lg),(ky "turn",.int tn),(ky "called",.ref lc)])) lc=some (.lst ([x10,x11].map V.str)):=by rw[aq nlcd];exact h16c
 have o17:∀{c:Addr}{o:HO},c≠d->H14 c=some o->upd H16 d (.dK (cH p2 l3 l4 la mo++[(ky "goals",.ref lg),(ky "turn",.int tn),(ky "called",.ref lc)])) c=some o:=fun n e=>by rw[aq n];exact o16 n e
 have k17':=k16.trans k17
 generalize upd H16 d (.dK (cH p2 l3 l4 la mo++[(ky "goals",.ref lg),(ky "turn",.int tn),(ky "called",.ref lc)]))=H17 at pr k17 h17d h17c o17 k17'
 have ps:=iP.k (k:=ky "def") (v:=.cW) h17d (aC (by show 8<=1000;decide))
 rw[Dl]at ps
 have k18:Kt H17 (upd H17 d (.dK (lT ⟨p2,l3,l4,la,lg,lc,mo,tn⟩ .cW))):=Kt.upd h17d (fun _ z=>nomatch z) (fun _ _ z=>nomatch z) _
 have h18d:upd H17 d (.dK (lT ⟨p2,l3,l4,la,lg,lc,mo,tn⟩ .cW)) d=some (.dK (lT ⟨p2,l3,l4,la,lg,lc,mo,tn⟩ .cW)):=af
 have h18c:upd H17 d (.dK (lT ⟨p2,l3,l4,la,lg,lc,mo,tn⟩ .cW)) lc=some (.lst ([x10,x11].map V.str)):=by rw[aq nlcd];exact h17c
 have o18:∀{c:Addr}{o:HO},c≠d->H14 c=some o->upd H17 d (.dK (lT ⟨p2,l3,l4,la,lg,lc,mo,tn⟩ .cW)) c=some o:=fun n e=>by rw[aq n];exact o17 n e
 have k18':=k17'.trans k18
 replace ps:iP H17 d (kV (ky "def")) .cW (upd H17 d (.dK (lT ⟨p2,l3,l4,la,lg,lc,mo,tn⟩ .cW))):=ps
 generalize upd H17 d (.dK (lT ⟨p2,l3,l4,la,lg,lc,mo,tn⟩ .cW))=H18 at ps k18 h18d h18c o18 k18'
 fail "R"
 have hf18:bM H18 fe:=by
  obtain⟨p,q,e⟩:=x14.2
  exact⟨p,q,o18 nfd e⟩
 refine k d H18 ⟨p2,l3,l4,la,lg,lc,mo,tn⟩ ⟨fun c o nc e=>?_,hf18⟩ hd hla0 rfl ⟨h18d,r14.kt k18',o18 nnd h14n,o18 npd h14p,h18c,⟨_,o18 ngd h14g,g14.kt k18'⟩,⟨[],o18 nad h14a,rfl⟩,hm0,hm5,?_,rfl,un,lo,how,hf18,nnf,npf,nlcf,nlgf⟩
 ·exact o18 (aB e hd) (e14.1 c o nc e)
 ·show tn=0\/tn=1
  omega
end
section
variable {P:Program}{w:World}{K:PySem.W.Frag}{mg:Str->Option Value}{base:Heap}{gT gN:Addr}{tfd nfd:FuncData}
theorem vK{f:Addr}{fd:FuncData}(F:iE K "_law_scene" "_law_scene" cY f fd)(TK:cR P w K mg base "_law_take" 1 ["_law_feed_here","_law_many_here"] cT gT tfd)(NM:cR P w K mg base "_law_names" 2 ["_law_feed_here","_law_many_here"] rM gN nfd):cA P w K mg base gv 3 f fd ["_law_feed_here","_law_most"] (rQ K):=by
 refine F.ok eO (fun vs H Q E h=>?_) (fun cdv A outer s H vs Q E hr h=>?_)
 ·obtain⟨_,_,rfl,_⟩:=h
  rfl
 obtain⟨fe,mo,rfl,hf,hm0,hm5,k⟩:=h
 refine⟨_,(Z6 (Z3 eO.nd gb 2 (Z0 NM (aA (va aR 0) (aA ak ah)))) (Z6 (Z3 eO.nd gb 3 (Ze (Z1 (Ze (Z1 (Z8 aT (va aR 2)) (Z1 (bZ (aA au ah)) ah))) (Z1 (Ze (Z1 (Z8 aT (va aR 2)) (Z1 (Ze (Z1 (Za aT (@bj _ _ _ _ (Z1 au (Z1 (Ze (aA au (aA au ah))) ah))) (Z0 TK (aA (va aR 0) (aA ak ah)))) (aA au ah))) ah))) ah)))) (Z6 (Zf (Zi cu (Z0 TK (aA (va aR 0) (aA ak ah))) ak) (Zh (Z3 eO.nd gb 3 (yj K rfl (va aR 3) cE cE (bV (jI gG ak)))))) rG))),?_⟩
 try dsimp only[dg]
 refine oW ?_
 intro N1 N2 N3 c1 c2 c3
 fail "R"
 intro ln H1 xs e1 hln hl1 lx lo un
 replace lx:xs.length=12:=lx
 have end_:∀(ow:List (Str×List T)) (H9:Hp) (t9:V),Ak xs ow->Ext fe H1 H9->Rp K H9 (.t (ow.map BD)) t9->N3 [some (.ref fe),some (.int mo),some (.ref ln),some t9,none] H9:=by
  intro ow H9 t9 how x9 r9
  have hl9:=x9.1 _ _ (nK e1.2 hl1) hl1
  obtain⟨x0,x1,x2,x3,x4,x5,x6,x7,x8,x9',x10,x11,rfl⟩:=C2 lx
  refine c3 _ _ ?_
  refine qN TK (hr.mono (by omega)) x9.2 hm0 hm5 hl9 un lo r9 how fun d H' S e' hd hla hmo sc=>?_
  refine k d H' S _ ow (e1.trans (x9.trans e')) ?_ ?_ hmo sc
  ·exact Ext.free (e1.trans x9) hd
  ·exact Ext.free (e1.trans x9) hla
 have mid:∀(q:T) (H9:Hp) (t9:V),(q=kN\/q=kR kN)->Ext fe H1 H9->Rp K H9 (.t [.t [.s (wf xs 1),.t [kN]],.t [.s (wf xs 2),.t [q,kN]]]) t9->N2 [some (.ref fe),some (.int mo),some (.ref ln),some t9,none] H9:=by
  intro q H9 t9 hq x9 r9
  clear c3
  have hf9:=x9.2
  have o1:(∀k∈[kN],k=kN\/k=kR kN):=fun k hk=>.inl (List.mem_singleton.mp hk)
  have o2:(∀k∈[q,kN],k=kN\/k=kR kN):=fun k hk=>by
   simp only[List.mem_cons,List.not_mem_nil,or_false]at hk
   rcases hk with rfl|rfl
   ·exact hq
   ·exact .inl rfl
  fail "R"
  intro z H10 z0 z1 x10
  fail "R"
  refine cJ (fun c=>?_) (fun c=>?_)
  ·obtain⟨ta,w1,w2,rfl,sq,g1,g2⟩:=(r9.kt (x10.kt hf9)).t2
   fail "R"
   intro p hp
   have s11:=ae hp (.tup [w2,w1])
   fail "R"
   refine end_ [(wf xs 2,[q,kN]),(wf xs 1,[kN])] _ _ ⟨rfl,?_⟩ (x9.trans (x10.same s11)) (Rp.t (aJ.of af) (.cons (g2.same s11) (.one (g1.same s11))))
   intro p hp
   simp only[List.mem_cons,List.not_mem_nil,or_false]at hp
   rcases hp with rfl|rfl
   ·exact⟨.inr rfl,Nat.le_refl _,o2⟩
   ·exact⟨.inl rfl,by show 1<=2;decide,o1⟩
  ·fail "R"
   refine end_ [(wf xs 1,[kN]),(wf xs 2,[q,kN])] _ _ ⟨rfl,?_⟩ (x9.trans x10) (r9.kt (x10.kt hf9))
   intro p hp
   simp only[List.mem_cons,List.not_mem_nil,or_false]at hp
   rcases hp with rfl|rfl
   ·exact⟨.inl rfl,by show 1<=2;decide,o1⟩
   ·exact⟨.inr rfl,Nat.le_refl _,o2⟩
 have hfF:=e1.2
 have hnF:=hl1
 (try refine Cut.go (by assumption) ?_);refine Ah (K:=K) hfF (jG (cf (jG (cf (zd (i:=1) hfF hnF rfl (by omega)) (cf (jG (cf vE f6)) f6))) (cf (jG (cf (zd (i:=2) hfF hnF rfl (by omega)) (cf (jG (cf (vF (cf vE (cf (jG (cf vE (cf vE f6))) f6)) rfl) (cf vE f6))) f6))) f6))) ?_;rintro H9 t9 _ x9 ⟨_,⟨_,_,⟨_,⟨_,_,rfl,⟨_,_,⟨_,⟨_,_,rfl,rfl,rfl⟩,rfl⟩,rfl,rfl⟩,rfl⟩,rfl⟩,⟨_,_,⟨_,⟨_,_,rfl,⟨_,_,⟨_,⟨_,_,(rfl|⟨_,⟨_,_,rfl,⟨_,_,rfl,rfl,rfl⟩,rfl⟩,rfl⟩),⟨_,_,rfl,rfl,rfl⟩,rfl⟩,rfl⟩,rfl,rfl⟩,rfl⟩,rfl⟩,rfl,rfl⟩,rfl⟩,rfl⟩ rt9
 ·exact mid _ H9 t9 (.inl rfl) x9 rt9
 ·exact mid _ H9 t9 (.inr rfl) x9 rt9
end
noncomputable def fO(K:PySem.W.Frag):Sp:=fun vs H Q _=>∃(v:V) (tm:Tm),vs=[v]/\Rp K H (enc tm) v/\Wf tm/\tm.size<=900 /\
 ∀(p:Addr) (H':Hp) (ws:List V),aL H H'->H p=none->H' p=some (.lst ws)->aM K H' (tm.ks.map enc) ws->Q (.ref p) H'
theorem dW(xs:List V)(j:Nat):bF xs (some (j:Int)) none=xs.drop j:=by
 unfold bF
 rw[HT.nt,HT.oA]
 rcases Nat.le_total j xs.length with h|h
 ·rw[Nat.min_eq_left h,List.take_of_length_le (by rw[List.length_drop];omega)]
 ·rw[Nat.min_eq_right h,List.drop_of_length_le h,List.drop_of_length_le (Nat.le_refl _)];simp
theorem gc(xs:List V)(j:Nat)(hj:1<=j)(hx:1<=xs.length):¬(HT.dm xs.length 0 (some (j:Int))=0/\HT.dm xs.length xs.length none=xs.length):=fun z=>by
 have:=z.1
 rw[HT.nt]at this
 omega
section
variable {K:PySem.W.Frag}{Q:VK}{H0:Hp}
theorem pH{pa:Addr}{arms:List (Str×List Str)}{ks:List T}{vs:List V}(hl:arms.length=ks.length)(hS:aJ K H0 pa vs)(hr:aM K H0 (List.zipWith gU arms ks) vs)(hlen:ks.length<=1000)
  (k:∀(p:Addr) (ws:List V),H0 p=none->aM K H0 ks ws->Q (.ref p) (upd H0 p (.lst ws))) :
  fF (uC K pa) (uv K 3 (iZ (cI 0) (iZ (cI 1) (iZ (cI 2) wY)))) jL (dX 2) Q [none,none,none] H0:=by
 have l:=hr.length
 rw[List.length_zipWith,hl,Nat.min_self]at l
 refine bT (xs:=vs) (fun i σ us H2=>(∃x y z,σ=[x,y,z])/\H2=H0/\aM K H0 (ks.take i) us) ⟨⟨none,none,none,rfl⟩,rfl,.nil⟩ ?_ (small (by omega)) ?_ ?_ ?_
 ·rintro i σ us H2 hi ⟨_,_,r⟩
  rw[r.length,List.length_take];omega
 ·rintro i σ us H2 hi ⟨_,rfl,_⟩
  exact hS
 ·rintro i x σ us H2 hx ⟨⟨x0,y0,z0,rfl⟩,rfl,r⟩
  obtain⟨y,hy,ry⟩:=hr.get' hx
  have hi:i<vs.length:=(List.getElem?_eq_some_iff.mp hx).1
  have hia:i<arms.length:=by omega
  have hik:i<ks.length:=by omega
  rw[List.getElem?_zipWith,List.getElem?_eq_getElem hia,List.getElem?_eq_getElem hik]at hy
  cases hy
  obtain⟨ra,rvs,rfl,sq,rr⟩:=(show Rp K _ (.t [_,_,_]) x from ry).aH
  obtain⟨t1,q1,rfl,h1,rr⟩:=rr.inv
  obtain⟨t2,q2,rfl,h2,rr⟩:=rr.inv
  obtain⟨t3,q3,rfl,h3,rr⟩:=rr.inv
  obtain rfl:=rr.cG
  refine⟨ra,_,rfl,sq,rfl,_,_,rfl,_,_,rfl,_,_,rfl,rfl,?_⟩
  refine⟨_,rfl,⟨_,_,_,rfl⟩,rfl,?_⟩
  rw[List.take_succ_eq_append_getElem hik]
  exact r.snoc h3
 ·rintro σ us H2 ⟨_,rfl,r⟩ p hp
  rw[List.take_of_length_le (by omega)]at r
  exact k p us hp r
end
section
variable {P:Program}{w:World}{K:PySem.W.Frag}{mg:Str->Option Value}{base:Heap}{gW gA:Addr}{wfd afd:FuncData}
theorem bx:Nm ["_law_term_here"] (aj eL):=by decide +kernel
theorem pI:aZ ["_law_term_here"] ["_law_term_here"] (aj eL):=⟨rfl,rfl,rfl,by decide +kernel,rfl,by decide +kernel,by decide +kernel⟩
theorem tO{f:Addr}{fd:FuncData}(F:iE K "_law_within" "_law_within" eL f fd)(z_list:mg "list"=none)(z_int:mg "int"=none):cA P w K mg base gv 1 f fd ["_law_term_here"] (fO K):=by
 refine F.ok pI (fun vs H Q E h=>?_) (fun cdv A outer s H vs Q E hr h=>?_)
 ·obtain⟨v,tm,rfl,_⟩:=h
  rfl
 obtain⟨v,tm,rfl,hv,wf,hlen,k⟩:=h
 refine⟨_,(Z6 (Zf (@aS _ _ _ _ _ _ _ _ dz (Z8 aD (va bx 0)) (Ze (Z1 au (aA au (aA au ah)))) (by with_unfolding_all rfl)) (Zh (@aK _ _ _ _ (Z5 d9 z_list PyProof.Rows.boot_list (Z1 (iJ aD (va bx 0) (jI gG ak) (fun _ _=>rfl)) ah))))) (Z6 (Zf (Zi cu (Z8 aD (va bx 0)) au) (Zh (@aK _ _ _ _ (Zj iO (@bj _ _ _ _ (Z1 (Z8 aD (va bx 0)) ah)) (Z4 (aj eL) ["_law_term_here"] ["_law_t","_law_names_here","_law_inner"] [] (@b7 _ _ _ _ (Z8 aD (va bx 0))) (fun _ _ _ _=>(Zc (3) (Zg (Z2 (i:=0) (show(["_law_t","_law_names_here","_law_inner"]:List Str).Nodup by decide +kernel)) (Zg (Z2 (i:=1) (show(["_law_t","_law_names_here","_law_inner"]:List Str).Nodup by decide +kernel)) (aU (Z2 (i:=2) (show(["_law_t","_law_names_here","_law_inner"]:List Str).Nodup by decide +kernel)) bq))))) (fun _ _ _ _=>(va (show Nm ["_law_t","_law_names_here","_law_inner"] _ by show _=_;kernel_rfl) 2))))))) (Z6 (Zf (Zi cu (Z8 aD (va bx 0)) au) (Zh (@aK _ _ _ _ (@bj _ _ _ _ (Z1 (Z8 aD (va bx 0)) (Z1 (Z8 aD (va bx 0)) (Z1 (Z8 aD (va bx 0)) ah))))))) (Z6 (Zf (@aS _ _ _ _ _ _ _ _ dz (Z8 aD (va bx 0)) (Ze (Z1 au (aA au (aA au ah)))) (by with_unfolding_all rfl)) (Zh (aK (bj ah)))) (Zh (@aK _ _ _ _ (Z5 d9 z_list PyProof.Rows.boot_list (Z1 (@b8 _ _ _ _ _ _ _ _ _ _ uJ (va bx 0) (@bV _ _ _ (Zj cQ ak (Z5 lY z_int PyProof.Rows.boot_int (Z1 (@nj _ _ _ _ _ _ _ _ dz (Z8 aD (va bx 0)) (Ze (aA au (aA au ah))) (by with_unfolding_all rfl)) ah)))) cE) ah)))))))),?_⟩
 cases wf with
 |mk ar wk =>
 rename_i hd ks
 have wf:Wf (.mk hd ks):=.mk ar wk
 rw[aW]at hv
 have hlen':ks.length<900:=Nat.lt_of_lt_of_le (jO (.mk hd ks)) hlen
 have nE:(ks.map enc).length=ks.length:=List.length_map _
 cases hd
 case row =>
  unfold c9 at hv
  obtain⟨a,vs,rfl,hS,hr0⟩:=hv.aH
  obtain⟨v0,q0,rfl,e0,hr1⟩:=aM.inv hr0
  obtain⟨v1,q1,rfl,e1,hr2⟩:=aM.inv hr1
  obtain rfl:=e0.aI
  obtain rfl:=hr2.cG
  obtain⟨b,us,rfl,hSb,hrb⟩:=e1.aH
  refine⟨_,rfl,a,_,0,_,rfl,rfl,hS,rfl,(by show 3<=sizeLine;decide),fun p1 hp1=>⟨p1,_,rfl,.inr (aJ.of af),rfl,rfl,_,rfl,wO (by decide +kernel) ?_⟩⟩
  have s1:=ae hp1 (.tup [.str "row",.str "tag",.str "call"])
  refine⟨_,rfl,_,rfl,a,_,-1,_,rfl,rfl,hS.same s1,rfl,b,_,rfl,.inr (hSb.same s1),fun l hl=>?_⟩
  exact k l _ us (s1.trans (ae hl _)) (s1.free hl) af (hrb.same (s1.trans (ae hl _)))
 case tag t =>
  unfold c9 at hv
  obtain⟨a,vs,rfl,hS,hr0⟩:=hv.aH
  obtain⟨v0,q0,rfl,e0,hr1⟩:=aM.inv hr0
  obtain⟨v1,q1,rfl,e1,hr2⟩:=aM.inv hr1
  obtain⟨v2,q2,rfl,e2,hr3⟩:=aM.inv hr2
  obtain rfl:=e0.aI
  obtain rfl:=hr3.cG
  obtain⟨b,us,rfl,hSb,hrb⟩:=e2.aH
  refine⟨_,rfl,a,_,0,_,rfl,rfl,hS,rfl,(by show 3<=sizeLine;decide),fun p1 hp1=>⟨p1,_,rfl,.inr (aJ.of af),rfl,rfl,_,rfl,wO (by decide +kernel) ?_⟩⟩
  have s1:=ae hp1 (.tup [.str "row",.str "tag",.str "call"])
  refine⟨_,rfl,_,rfl,a,_,-1,_,rfl,rfl,hS.same s1,rfl,b,_,rfl,.inr (hSb.same s1),fun l hl=>?_⟩
  exact k l _ us (s1.trans (ae hl _)) (s1.free hl) af (hrb.same (s1.trans (ae hl _)))
 case call f =>
  unfold c9 at hv
  obtain⟨a,vs,rfl,hS,hr0⟩:=hv.aH
  obtain⟨v0,q0,rfl,e0,hr1⟩:=aM.inv hr0
  obtain⟨v1,q1,rfl,e1,hr2⟩:=aM.inv hr1
  obtain⟨v2,q2,rfl,e2,hr3⟩:=aM.inv hr2
  obtain rfl:=e0.aI
  obtain rfl:=hr3.cG
  obtain⟨b,us,rfl,hSb,hrb⟩:=e2.aH
  refine⟨_,rfl,a,_,0,_,rfl,rfl,hS,rfl,(by show 3<=sizeLine;decide),fun p1 hp1=>⟨p1,_,rfl,.inr (aJ.of af),rfl,rfl,_,rfl,wO (by decide +kernel) ?_⟩⟩
  have s1:=ae hp1 (.tup [.str "row",.str "tag",.str "call"])
  refine⟨_,rfl,_,rfl,a,_,-1,_,rfl,rfl,hS.same s1,rfl,b,_,rfl,.inr (hSb.same s1),fun l hl=>?_⟩
  exact k l _ us (s1.trans (ae hl _)) (s1.free hl) af (hrb.same (s1.trans (ae hl _)))
 case mat arms =>
  have hk:ks.length=arms.length+1:=by simpa[br]using ar
  match ks,hk with
  |k0::kr,hk =>
  have hkr:arms.length=kr.length:=by simpa using hk.symm
  unfold c9 at hv
  obtain⟨a,vs,rfl,hS,hr0⟩:=hv.aH
  obtain⟨v0,q0,rfl,e0,hr1⟩:=aM.inv hr0
  obtain⟨v1,q1,rfl,e1,hr2⟩:=aM.inv hr1
  obtain⟨v2,q2,rfl,e2,hr3⟩:=aM.inv hr2
  obtain rfl:=e0.aI
  obtain rfl:=hr3.cG
  obtain⟨b,us,rfl,hSb,hrb⟩:=e2.aH
  refine⟨_,rfl,a,_,0,_,rfl,rfl,hS,rfl,(by show 3<=sizeLine;decide),fun p1 hp1=>⟨p1,_,rfl,.inr (aJ.of af),rfl,rfl,_,rfl,dh (by decide +kernel) ?_⟩⟩
  have s1:=ae hp1 (.tup [.str "row",.str "tag",.str "call"])
  refine⟨_,rfl,a,_,0,_,rfl,rfl,hS.same s1,rfl,rfl,_,rfl,wO (by decide +kernel) ?_⟩
  refine⟨_,rfl,a,_,1,_,rfl,rfl,hS.same s1,rfl,(by show 1<=sizeLine;decide),fun p2 hp2=>?_⟩
  have s2:=s1.trans (ae hp2 (.lst [v1]))
  refine⟨_,rfl,a,_,2,_,rfl,rfl,hS.same s2,rfl,b,rfl,⟨_,hSb.same s2⟩,?_⟩
  refine pH (arms:=arms) (ks:=kr.map enc) (by rw[List.length_map];exact hkr) (hSb.same s2) (by exact hrb.same s2) (by rw[List.length_map];have:=hlen';simp at this;omega) fun p ws hp r4=>?_
  have z2:upd (upd (upd H p1 (.tup [.str "row",.str "tag",.str "call"])) p2 (.lst [v1])) p (.lst ws) p2=some (.lst [v1]):=(ae hp _) _ _ af
  have l4:=r4.length
  rw[List.length_map]at l4
  refine⟨p2,p,_,_,rfl,rfl,z2,af,small (by have:=hlen';simp at this;show 1+_<=1000;omega),fun p5 hp5=>?_⟩
  have s5:=s2.trans ((ae hp (.lst ws)).trans (ae hp5 (.lst ([v1]++ws))))
  refine k p5 _ _ s5 ((s2.trans (ae hp (.lst ws))).free hp5) af ?_
  exact .cons (e1.same s5) (r4.same ((ae hp _).trans (ae hp5 _)))
 case fold x y =>
  have hk:ks.length=3:=by simpa[br]using ar
  match ks,hk with
  | [k0,k1,k2],hk =>
  unfold c9 at hv
  obtain⟨a,vs,rfl,hS,hr0⟩:=hv.aH
  obtain⟨v0,q0,rfl,e0,hr1⟩:=aM.inv hr0
  obtain⟨v1,q1,rfl,e1,hr2⟩:=aM.inv hr1
  obtain⟨v2,q2,rfl,e2,hr3⟩:=aM.inv hr2
  obtain⟨v3,q3,rfl,e3,hr4⟩:=aM.inv hr3
  obtain⟨v4,q4,rfl,e4,hr5⟩:=aM.inv hr4
  obtain⟨v5,q5,rfl,e5,hr6⟩:=aM.inv hr5
  obtain rfl:=e0.aI
  obtain rfl:=hr6.cG
  refine⟨_,rfl,a,_,0,_,rfl,rfl,hS,rfl,(by show 3<=sizeLine;decide),fun p1 hp1=>⟨p1,_,rfl,.inr (aJ.of af),rfl,rfl,_,rfl,dh (by decide +kernel) ?_⟩⟩
  have s1:=ae hp1 (.tup [.str "row",.str "tag",.str "call"])
  refine⟨_,rfl,a,_,0,_,rfl,rfl,hS.same s1,rfl,rfl,_,rfl,dh (by decide +kernel) ?_⟩
  refine⟨_,rfl,a,_,0,_,rfl,rfl,hS.same s1,rfl,rfl,_,rfl,wO (by decide +kernel) ?_⟩
  refine⟨_,rfl,a,_,1,_,rfl,rfl,hS.same s1,rfl,_,rfl,a,_,4,_,rfl,rfl,hS.same s1,rfl,_,rfl,a,_,5,_,rfl,rfl,hS.same s1,rfl,(by show 3<=sizeLine;decide),fun p2 hp2=>?_⟩
  have s2:=s1.trans (ae hp2 (.lst [v1,v4,v5]))
  exact k p2 _ _ s2 (s1.free hp2) af (.cons (e1.same s2) (.cons (e4.same s2) (.one (e5.same s2))))
 case num n =>
  have hk:ks.length=0:=by simpa[br]using ar
  match ks,hk with
  | [],hk =>
  unfold c9 at hv
  obtain⟨a,vs,rfl,hS,hr0⟩:=hv.aH
  obtain⟨v0,q0,rfl,e0,hr1⟩:=aM.inv hr0
  obtain⟨v1,q1,rfl,e1,hr2⟩:=aM.inv hr1
  obtain rfl:=e0.aI
  obtain rfl:=hr2.cG
  refine⟨_,rfl,a,_,0,_,rfl,rfl,hS,rfl,(by show 3<=sizeLine;decide),fun p1 hp1=>⟨p1,_,rfl,.inr (aJ.of af),rfl,rfl,_,rfl,dh (by decide +kernel) ?_⟩⟩
  have s1:=ae hp1 (.tup [.str "row",.str "tag",.str "call"])
  refine⟨_,rfl,a,_,0,_,rfl,rfl,hS.same s1,rfl,rfl,_,rfl,dh (by decide +kernel) ?_⟩
  refine⟨_,rfl,a,_,0,_,rfl,rfl,hS.same s1,rfl,rfl,_,rfl,dh (by decide +kernel) ?_⟩
  refine⟨_,rfl,a,_,0,_,rfl,rfl,(hS.same s1),rfl,(by show 3<=sizeLine;decide),fun p2 hp2=>⟨p2,_,rfl,.inr (aJ.of af),rfl,rfl,_,rfl,wO (by decide +kernel) ?_⟩⟩
  have s2:=s1.trans (ae hp2 (.tup [.str "num",.str "name",.str "gap"]))
  refine⟨Nat.zero_le _,fun p3 hp3=>?_⟩
  exact k p3 _ _ (s2.trans (ae hp3 _)) (s2.free hp3) af .nil
 case name x =>
  have hk:ks.length=0:=by simpa[br]using ar
  match ks,hk with
  | [],hk =>
  unfold c9 at hv
  obtain⟨a,vs,rfl,hS,hr0⟩:=hv.aH
  obtain⟨v0,q0,rfl,e0,hr1⟩:=aM.inv hr0
  obtain⟨v1,q1,rfl,e1,hr2⟩:=aM.inv hr1
  obtain rfl:=e0.aI
  obtain rfl:=hr2.cG
  refine⟨_,rfl,a,_,0,_,rfl,rfl,hS,rfl,(by show 3<=sizeLine;decide),fun p1 hp1=>⟨p1,_,rfl,.inr (aJ.of af),rfl,rfl,_,rfl,dh (by decide +kernel) ?_⟩⟩
  have s1:=ae hp1 (.tup [.str "row",.str "tag",.str "call"])
  refine⟨_,rfl,a,_,0,_,rfl,rfl,hS.same s1,rfl,rfl,_,rfl,dh (by decide +kernel) ?_⟩
  refine⟨_,rfl,a,_,0,_,rfl,rfl,hS.same s1,rfl,rfl,_,rfl,dh (by decide +kernel) ?_⟩
  refine⟨_,rfl,a,_,0,_,rfl,rfl,(hS.same s1),rfl,(by show 3<=sizeLine;decide),fun p2 hp2=>⟨p2,_,rfl,.inr (aJ.of af),rfl,rfl,_,rfl,wO (by decide +kernel) ?_⟩⟩
  have s2:=s1.trans (ae hp2 (.tup [.str "num",.str "name",.str "gap"]))
  refine⟨Nat.zero_le _,fun p3 hp3=>?_⟩
  exact k p3 _ _ (s2.trans (ae hp3 _)) (s2.free hp3) af .nil
 case gap n =>
  have hk:ks.length=0:=by simpa[br]using ar
  match ks,hk with
  | [],hk =>
  unfold c9 at hv
  obtain⟨a,vs,rfl,hS,hr0⟩:=hv.aH
  obtain⟨v0,q0,rfl,e0,hr1⟩:=aM.inv hr0
  obtain⟨v1,q1,rfl,e1,hr2⟩:=aM.inv hr1
  obtain rfl:=e0.aI
  obtain rfl:=hr2.cG
  refine⟨_,rfl,a,_,0,_,rfl,rfl,hS,rfl,(by show 3<=sizeLine;decide),fun p1 hp1=>⟨p1,_,rfl,.inr (aJ.of af),rfl,rfl,_,rfl,dh (by decide +kernel) ?_⟩⟩
  have s1:=ae hp1 (.tup [.str "row",.str "tag",.str "call"])
  refine⟨_,rfl,a,_,0,_,rfl,rfl,hS.same s1,rfl,rfl,_,rfl,dh (by decide +kernel) ?_⟩
  refine⟨_,rfl,a,_,0,_,rfl,rfl,hS.same s1,rfl,rfl,_,rfl,dh (by decide +kernel) ?_⟩
  refine⟨_,rfl,a,_,0,_,rfl,rfl,(hS.same s1),rfl,(by show 3<=sizeLine;decide),fun p2 hp2=>⟨p2,_,rfl,.inr (aJ.of af),rfl,rfl,_,rfl,wO (by decide +kernel) ?_⟩⟩
  have s2:=s1.trans (ae hp2 (.tup [.str "num",.str "name",.str "gap"]))
  refine⟨Nat.zero_le _,fun p3 hp3=>?_⟩
  exact k p3 _ _ (s2.trans (ae hp3 _)) (s2.free hp3) af .nil
 case op s =>
  have hk:ks.length=2:=by simpa[br]using ar
  match ks,hk with
  | [k0,k1],hk =>
  unfold c9 at hv
  obtain⟨a,vs,rfl,hS,hr0⟩:=hv.aH
  obtain⟨v0,q0,rfl,e0,hr1⟩:=aM.inv hr0
  obtain⟨v1,q1,rfl,e1,hr2⟩:=aM.inv hr1
  obtain⟨v2,q2,rfl,e2,hr3⟩:=aM.inv hr2
  obtain⟨v3,q3,rfl,e3,hr4⟩:=aM.inv hr3
  obtain rfl:=e0.aI
  obtain rfl:=hr4.cG
  refine⟨_,rfl,a,_,0,_,rfl,rfl,hS,rfl,(by show 3<=sizeLine;decide),fun p1 hp1=>⟨p1,_,rfl,.inr (aJ.of af),rfl,rfl,_,rfl,dh (by decide +kernel) ?_⟩⟩
  have s1:=ae hp1 (.tup [.str "row",.str "tag",.str "call"])
  refine⟨_,rfl,a,_,0,_,rfl,rfl,hS.same s1,rfl,rfl,_,rfl,dh (by decide +kernel) ?_⟩
  refine⟨_,rfl,a,_,0,_,rfl,rfl,hS.same s1,rfl,rfl,_,rfl,dh (by decide +kernel) ?_⟩
  refine⟨_,rfl,a,_,0,_,rfl,rfl,(hS.same s1),rfl,(by show 3<=sizeLine;decide),fun p2 hp2=>⟨p2,_,rfl,.inr (aJ.of af),rfl,rfl,_,rfl,dh (by decide +kernel) ?_⟩⟩
  have s2:=s1.trans (ae hp2 (.tup [.str "num",.str "name",.str "gap"]))
  refine⟨_,rfl,_,rfl,a,_,0,_,rfl,rfl,hS.same s2,rfl,(by show 2<=sizeLine;decide),fun p3 hp3=>⟨p3,_,rfl,.inr (aJ.of af),rfl,rfl,.inr ⟨_,rfl,_,_,rfl,rfl,_,rfl,?_⟩⟩⟩
  have s3:=s2.trans (ae hp3 (.tup [.str "op",.str "let"]))
  refine⟨a,_,rfl,hS.same s3,gc _ 2 (by decide) (by simp),fun p4 hp4=>?_⟩
  have s4:=s3.trans (ae hp4 (.tup (bF [.str "op",v1,v2,v3] (some (2:Nat)) none)))
  refine⟨p4,_,rfl,.inr (aJ.of af),fun l hl=>?_⟩
  refine k l _ _ (s4.trans (ae hl _)) (s4.free hl) af ?_
  have z:=aM.same (K:=K) (s4.trans (ae hl (.lst (bF [.str "op",v1,v2,v3] (some ((2:Nat):Int)) none)))) (.cons e2 (.cons e3 .nil))
  have cc:bF [.str "op",v1,v2,v3] (some ((2:Nat):Int)) none=[v2,v3]:=dW _ 2
  rw[cc]at z
  show aM K _ _ (bF [.str "op",v1,v2,v3] (some ((2:Nat):Int)) none)
  rw[cc]
  exact z
 case more =>
  have hk:ks.length=2:=by simpa[br]using ar
  match ks,hk with
  | [k0,k1],hk =>
  unfold c9 at hv
  obtain⟨a,vs,rfl,hS,hr0⟩:=hv.aH
  obtain⟨v0,q0,rfl,e0,hr1⟩:=aM.inv hr0
  obtain⟨v1,q1,rfl,e1,hr2⟩:=aM.inv hr1
  obtain⟨v2,q2,rfl,e2,hr3⟩:=aM.inv hr2
  obtain rfl:=e0.aI
  obtain rfl:=hr3.cG
  refine⟨_,rfl,a,_,0,_,rfl,rfl,hS,rfl,(by show 3<=sizeLine;decide),fun p1 hp1=>⟨p1,_,rfl,.inr (aJ.of af),rfl,rfl,_,rfl,dh (by decide +kernel) ?_⟩⟩
  have s1:=ae hp1 (.tup [.str "row",.str "tag",.str "call"])
  refine⟨_,rfl,a,_,0,_,rfl,rfl,hS.same s1,rfl,rfl,_,rfl,dh (by decide +kernel) ?_⟩
  refine⟨_,rfl,a,_,0,_,rfl,rfl,hS.same s1,rfl,rfl,_,rfl,dh (by decide +kernel) ?_⟩
  refine⟨_,rfl,a,_,0,_,rfl,rfl,(hS.same s1),rfl,(by show 3<=sizeLine;decide),fun p2 hp2=>⟨p2,_,rfl,.inr (aJ.of af),rfl,rfl,_,rfl,dh (by decide +kernel) ?_⟩⟩
  have s2:=s1.trans (ae hp2 (.tup [.str "num",.str "name",.str "gap"]))
  refine⟨_,rfl,_,rfl,a,_,0,_,rfl,rfl,hS.same s2,rfl,(by show 2<=sizeLine;decide),fun p3 hp3=>⟨p3,_,rfl,.inr (aJ.of af),rfl,rfl,.inr ⟨_,rfl,_,_,rfl,rfl,_,rfl,?_⟩⟩⟩
  have s3:=s2.trans (ae hp3 (.tup [.str "op",.str "let"]))
  refine⟨a,_,rfl,hS.same s3,gc _ 1 (by decide) (by simp),fun p4 hp4=>?_⟩
  have s4:=s3.trans (ae hp4 (.tup (bF [.str "more",v1,v2] (some (1:Nat)) none)))
  refine⟨p4,_,rfl,.inr (aJ.of af),fun l hl=>?_⟩
  refine k l _ _ (s4.trans (ae hl _)) (s4.free hl) af ?_
  have z:=aM.same (K:=K) (s4.trans (ae hl (.lst (bF [.str "more",v1,v2] (some ((1:Nat):Int)) none)))) (.cons e1 (.cons e2 .nil))
  have cc:bF [.str "more",v1,v2] (some ((1:Nat):Int)) none=[v1,v2]:=dW _ 1
  rw[cc]at z
  show aM K _ _ (bF [.str "more",v1,v2] (some ((1:Nat):Int)) none)
  rw[cc]
  exact z
 case first =>
  have hk:ks.length=1:=by simpa[br]using ar
  match ks,hk with
  | [k0],hk =>
  unfold c9 at hv
  obtain⟨a,vs,rfl,hS,hr0⟩:=hv.aH
  obtain⟨v0,q0,rfl,e0,hr1⟩:=aM.inv hr0
  obtain⟨v1,q1,rfl,e1,hr2⟩:=aM.inv hr1
  obtain rfl:=e0.aI
  obtain rfl:=hr2.cG
  refine⟨_,rfl,a,_,0,_,rfl,rfl,hS,rfl,(by show 3<=sizeLine;decide),fun p1 hp1=>⟨p1,_,rfl,.inr (aJ.of af),rfl,rfl,_,rfl,dh (by decide +kernel) ?_⟩⟩
  have s1:=ae hp1 (.tup [.str "row",.str "tag",.str "call"])
  refine⟨_,rfl,a,_,0,_,rfl,rfl,hS.same s1,rfl,rfl,_,rfl,dh (by decide +kernel) ?_⟩
  refine⟨_,rfl,a,_,0,_,rfl,rfl,hS.same s1,rfl,rfl,_,rfl,dh (by decide +kernel) ?_⟩
  refine⟨_,rfl,a,_,0,_,rfl,rfl,(hS.same s1),rfl,(by show 3<=sizeLine;decide),fun p2 hp2=>⟨p2,_,rfl,.inr (aJ.of af),rfl,rfl,_,rfl,dh (by decide +kernel) ?_⟩⟩
  have s2:=s1.trans (ae hp2 (.tup [.str "num",.str "name",.str "gap"]))
  refine⟨_,rfl,_,rfl,a,_,0,_,rfl,rfl,hS.same s2,rfl,(by show 2<=sizeLine;decide),fun p3 hp3=>⟨p3,_,rfl,.inr (aJ.of af),rfl,rfl,.inr ⟨_,rfl,_,_,rfl,rfl,_,rfl,?_⟩⟩⟩
  have s3:=s2.trans (ae hp3 (.tup [.str "op",.str "let"]))
  refine⟨a,_,rfl,hS.same s3,gc _ 1 (by decide) (by simp),fun p4 hp4=>?_⟩
  have s4:=s3.trans (ae hp4 (.tup (bF [.str "first",v1] (some (1:Nat)) none)))
  refine⟨p4,_,rfl,.inr (aJ.of af),fun l hl=>?_⟩
  refine k l _ _ (s4.trans (ae hl _)) (s4.free hl) af ?_
  have z:=aM.same (K:=K) (s4.trans (ae hl (.lst (bF [.str "first",v1] (some ((1:Nat):Int)) none)))) (.cons e1 .nil)
  have cc:bF [.str "first",v1] (some ((1:Nat):Int)) none=[v1]:=dW _ 1
  rw[cc]at z
  show aM K _ _ (bF [.str "first",v1] (some ((1:Nat):Int)) none)
  rw[cc]
  exact z
 case others =>
  have hk:ks.length=1:=by simpa[br]using ar
  match ks,hk with
  | [k0],hk =>
  unfold c9 at hv
  obtain⟨a,vs,rfl,hS,hr0⟩:=hv.aH
  obtain⟨v0,q0,rfl,e0,hr1⟩:=aM.inv hr0
  obtain⟨v1,q1,rfl,e1,hr2⟩:=aM.inv hr1
  obtain rfl:=e0.aI
  obtain rfl:=hr2.cG
  refine⟨_,rfl,a,_,0,_,rfl,rfl,hS,rfl,(by show 3<=sizeLine;decide),fun p1 hp1=>⟨p1,_,rfl,.inr (aJ.of af),rfl,rfl,_,rfl,dh (by decide +kernel) ?_⟩⟩
  have s1:=ae hp1 (.tup [.str "row",.str "tag",.str "call"])
  refine⟨_,rfl,a,_,0,_,rfl,rfl,hS.same s1,rfl,rfl,_,rfl,dh (by decide +kernel) ?_⟩
  refine⟨_,rfl,a,_,0,_,rfl,rfl,hS.same s1,rfl,rfl,_,rfl,dh (by decide +kernel) ?_⟩
  refine⟨_,rfl,a,_,0,_,rfl,rfl,(hS.same s1),rfl,(by show 3<=sizeLine;decide),fun p2 hp2=>⟨p2,_,rfl,.inr (aJ.of af),rfl,rfl,_,rfl,dh (by decide +kernel) ?_⟩⟩
  have s2:=s1.trans (ae hp2 (.tup [.str "num",.str "name",.str "gap"]))
  refine⟨_,rfl,_,rfl,a,_,0,_,rfl,rfl,hS.same s2,rfl,(by show 2<=sizeLine;decide),fun p3 hp3=>⟨p3,_,rfl,.inr (aJ.of af),rfl,rfl,.inr ⟨_,rfl,_,_,rfl,rfl,_,rfl,?_⟩⟩⟩
  have s3:=s2.trans (ae hp3 (.tup [.str "op",.str "let"]))
  refine⟨a,_,rfl,hS.same s3,gc _ 1 (by decide) (by simp),fun p4 hp4=>?_⟩
  have s4:=s3.trans (ae hp4 (.tup (bF [.str "others",v1] (some (1:Nat)) none)))
  refine⟨p4,_,rfl,.inr (aJ.of af),fun l hl=>?_⟩
  refine k l _ _ (s4.trans (ae hl _)) (s4.free hl) af ?_
  have z:=aM.same (K:=K) (s4.trans (ae hl (.lst (bF [.str "others",v1] (some ((1:Nat):Int)) none)))) (.cons e1 .nil)
  have cc:bF [.str "others",v1] (some ((1:Nat):Int)) none=[v1]:=dW _ 1
  rw[cc]at z
  show aM K _ _ (bF [.str "others",v1] (some ((1:Nat):Int)) none)
  rw[cc]
  exact z
 case long =>
  have hk:ks.length=1:=by simpa[br]using ar
  match ks,hk with
  | [k0],hk =>
  unfold c9 at hv
  obtain⟨a,vs,rfl,hS,hr0⟩:=hv.aH
  obtain⟨v0,q0,rfl,e0,hr1⟩:=aM.inv hr0
  obtain⟨v1,q1,rfl,e1,hr2⟩:=aM.inv hr1
  obtain rfl:=e0.aI
  obtain rfl:=hr2.cG
  refine⟨_,rfl,a,_,0,_,rfl,rfl,hS,rfl,(by show 3<=sizeLine;decide),fun p1 hp1=>⟨p1,_,rfl,.inr (aJ.of af),rfl,rfl,_,rfl,dh (by decide +kernel) ?_⟩⟩
  have s1:=ae hp1 (.tup [.str "row",.str "tag",.str "call"])
  refine⟨_,rfl,a,_,0,_,rfl,rfl,hS.same s1,rfl,rfl,_,rfl,dh (by decide +kernel) ?_⟩
  refine⟨_,rfl,a,_,0,_,rfl,rfl,hS.same s1,rfl,rfl,_,rfl,dh (by decide +kernel) ?_⟩
  refine⟨_,rfl,a,_,0,_,rfl,rfl,(hS.same s1),rfl,(by show 3<=sizeLine;decide),fun p2 hp2=>⟨p2,_,rfl,.inr (aJ.of af),rfl,rfl,_,rfl,dh (by decide +kernel) ?_⟩⟩
  have s2:=s1.trans (ae hp2 (.tup [.str "num",.str "name",.str "gap"]))
  refine⟨_,rfl,_,rfl,a,_,0,_,rfl,rfl,hS.same s2,rfl,(by show 2<=sizeLine;decide),fun p3 hp3=>⟨p3,_,rfl,.inr (aJ.of af),rfl,rfl,.inr ⟨_,rfl,_,_,rfl,rfl,_,rfl,?_⟩⟩⟩
  have s3:=s2.trans (ae hp3 (.tup [.str "op",.str "let"]))
  refine⟨a,_,rfl,hS.same s3,gc _ 1 (by decide) (by simp),fun p4 hp4=>?_⟩
  have s4:=s3.trans (ae hp4 (.tup (bF [.str "long",v1] (some (1:Nat)) none)))
  refine⟨p4,_,rfl,.inr (aJ.of af),fun l hl=>?_⟩
  refine k l _ _ (s4.trans (ae hl _)) (s4.free hl) af ?_
  have z:=aM.same (K:=K) (s4.trans (ae hl (.lst (bF [.str "long",v1] (some ((1:Nat):Int)) none)))) (.cons e1 .nil)
  have cc:bF [.str "long",v1] (some ((1:Nat):Int)) none=[v1]:=dW _ 1
  rw[cc]at z
  show aM K _ _ (bF [.str "long",v1] (some ((1:Nat):Int)) none)
  rw[cc]
  exact z
 case ife =>
  have hk:ks.length=3:=by simpa[br]using ar
  match ks,hk with
  | [k0,k1,k2],hk =>
  unfold c9 at hv
  obtain⟨a,vs,rfl,hS,hr0⟩:=hv.aH
  obtain⟨v0,q0,rfl,e0,hr1⟩:=aM.inv hr0
  obtain⟨v1,q1,rfl,e1,hr2⟩:=aM.inv hr1
  obtain⟨v2,q2,rfl,e2,hr3⟩:=aM.inv hr2
  obtain⟨v3,q3,rfl,e3,hr4⟩:=aM.inv hr3
  obtain rfl:=e0.aI
  obtain rfl:=hr4.cG
  refine⟨_,rfl,a,_,0,_,rfl,rfl,hS,rfl,(by show 3<=sizeLine;decide),fun p1 hp1=>⟨p1,_,rfl,.inr (aJ.of af),rfl,rfl,_,rfl,dh (by decide +kernel) ?_⟩⟩
  have s1:=ae hp1 (.tup [.str "row",.str "tag",.str "call"])
  refine⟨_,rfl,a,_,0,_,rfl,rfl,hS.same s1,rfl,rfl,_,rfl,dh (by decide +kernel) ?_⟩
  refine⟨_,rfl,a,_,0,_,rfl,rfl,hS.same s1,rfl,rfl,_,rfl,dh (by decide +kernel) ?_⟩
  refine⟨_,rfl,a,_,0,_,rfl,rfl,(hS.same s1),rfl,(by show 3<=sizeLine;decide),fun p2 hp2=>⟨p2,_,rfl,.inr (aJ.of af),rfl,rfl,_,rfl,dh (by decide +kernel) ?_⟩⟩
  have s2:=s1.trans (ae hp2 (.tup [.str "num",.str "name",.str "gap"]))
  refine⟨_,rfl,_,rfl,a,_,0,_,rfl,rfl,hS.same s2,rfl,(by show 2<=sizeLine;decide),fun p3 hp3=>⟨p3,_,rfl,.inr (aJ.of af),rfl,rfl,.inr ⟨_,rfl,_,_,rfl,rfl,_,rfl,?_⟩⟩⟩
  have s3:=s2.trans (ae hp3 (.tup [.str "op",.str "let"]))
  refine⟨a,_,rfl,hS.same s3,gc _ 1 (by decide) (by simp),fun p4 hp4=>?_⟩
  have s4:=s3.trans (ae hp4 (.tup (bF [.str "if",v1,v2,v3] (some (1:Nat)) none)))
  refine⟨p4,_,rfl,.inr (aJ.of af),fun l hl=>?_⟩
  refine k l _ _ (s4.trans (ae hl _)) (s4.free hl) af ?_
  have z:=aM.same (K:=K) (s4.trans (ae hl (.lst (bF [.str "if",v1,v2,v3] (some ((1:Nat):Int)) none)))) (.cons e1 (.cons e2 (.cons e3 .nil)))
  have cc:bF [.str "if",v1,v2,v3] (some ((1:Nat):Int)) none=[v1,v2,v3]:=dW _ 1
  rw[cc]at z
  show aM K _ _ (bF [.str "if",v1,v2,v3] (some ((1:Nat):Int)) none)
  rw[cc]
  exact z
 case lt x =>
  have hk:ks.length=2:=by simpa[br]using ar
  match ks,hk with
  | [k0,k1],hk =>
  unfold c9 at hv
  obtain⟨a,vs,rfl,hS,hr0⟩:=hv.aH
  obtain⟨v0,q0,rfl,e0,hr1⟩:=aM.inv hr0
  obtain⟨v1,q1,rfl,e1,hr2⟩:=aM.inv hr1
  obtain⟨v2,q2,rfl,e2,hr3⟩:=aM.inv hr2
  obtain⟨v3,q3,rfl,e3,hr4⟩:=aM.inv hr3
  obtain rfl:=e0.aI
  obtain rfl:=hr4.cG
  refine⟨_,rfl,a,_,0,_,rfl,rfl,hS,rfl,(by show 3<=sizeLine;decide),fun p1 hp1=>⟨p1,_,rfl,.inr (aJ.of af),rfl,rfl,_,rfl,dh (by decide +kernel) ?_⟩⟩
  have s1:=ae hp1 (.tup [.str "row",.str "tag",.str "call"])
  refine⟨_,rfl,a,_,0,_,rfl,rfl,hS.same s1,rfl,rfl,_,rfl,dh (by decide +kernel) ?_⟩
  refine⟨_,rfl,a,_,0,_,rfl,rfl,hS.same s1,rfl,rfl,_,rfl,dh (by decide +kernel) ?_⟩
  refine⟨_,rfl,a,_,0,_,rfl,rfl,(hS.same s1),rfl,(by show 3<=sizeLine;decide),fun p2 hp2=>⟨p2,_,rfl,.inr (aJ.of af),rfl,rfl,_,rfl,dh (by decide +kernel) ?_⟩⟩
  have s2:=s1.trans (ae hp2 (.tup [.str "num",.str "name",.str "gap"]))
  refine⟨_,rfl,_,rfl,a,_,0,_,rfl,rfl,hS.same s2,rfl,(by show 2<=sizeLine;decide),fun p3 hp3=>⟨p3,_,rfl,.inr (aJ.of af),rfl,rfl,.inr ⟨_,rfl,_,_,rfl,rfl,_,rfl,?_⟩⟩⟩
  have s3:=s2.trans (ae hp3 (.tup [.str "op",.str "let"]))
  refine⟨a,_,rfl,hS.same s3,gc _ 2 (by decide) (by simp),fun p4 hp4=>?_⟩
  have s4:=s3.trans (ae hp4 (.tup (bF [.str "let",v1,v2,v3] (some (2:Nat)) none)))
  refine⟨p4,_,rfl,.inr (aJ.of af),fun l hl=>?_⟩
  refine k l _ _ (s4.trans (ae hl _)) (s4.free hl) af ?_
  have z:=aM.same (K:=K) (s4.trans (ae hl (.lst (bF [.str "let",v1,v2,v3] (some ((2:Nat):Int)) none)))) (.cons e2 (.cons e3 .nil))
  have cc:bF [.str "let",v1,v2,v3] (some ((2:Nat):Int)) none=[v2,v3]:=dW _ 2
  rw[cc]at z
  show aM K _ _ (bF [.str "let",v1,v2,v3] (some ((2:Nat):Int)) none)
  rw[cc]
  exact z
end
noncomputable def nL(K:PySem.W.Frag)(n:Nat):Sp:=fun vs H Q _=>∃(v:V) (tm:Tm),vs=[v]/\Rp K H (enc tm) v/\Wf tm/\tm.size<=900/\tm.depth<n/\∀(H':Hp),aL H H'->Q (.int (tm.size:Int)) H'
section
variable {P:Program}{w:World}{K:PySem.W.Frag}{mg:Str->Option Value}{base:Heap}{gW gM gT:Addr}{wfd mfd tfd:FuncData}
theorem tP:Nm ["_law_term_here"] (aj fJ):=by decide +kernel
theorem tQ:aZ ["_law_term_here"] ["_law_term_here"] (aj fJ):=⟨rfl,rfl,rfl,by decide +kernel,rfl,by decide +kernel,by decide +kernel⟩
theorem yk{f:Addr}{fd:FuncData}{n j:Nat}(hj:1<=j)(F:iE K "_law_many" "_law_many" fJ f fd)(WI:cR P w K mg base "_law_within" 1 ["_law_term_here"] (fO K) gW wfd)(MA:cR P w K mg base "_law_many" j ["_law_term_here"] (nL K n) gM mfd)(z_sum:mg "sum"=none) :
  cA P w K mg base gv (j+1) f fd ["_law_term_here"] (nL K (n+1)):=by
 refine F.ok tQ (fun vs H Q E h=>?_) (fun cdv A outer s H vs Q E hr h=>?_)
 ·obtain⟨_,_,rfl,_⟩:=h
  rfl
 obtain⟨v,tm,rfl,hv,wf,hsz,hdp,k⟩:=h
 refine⟨_,(Zh (@aK _ _ _ _ (Zj cQ ak (Z7 (vB rfl) z_sum PyProof.Rows.boot_sum (Z1 (Z4 (aj fJ) ["_law_term_here"] ["_law_inner"] [] (@cO _ _ _ _ (Z0 WI (aA (va tP 0) ah))) (fun _ _ _ _=>(Z2 (i:=0) (show(["_law_inner"]:List Str).Nodup by decide +kernel))) (fun _ _ _ _=>(Z0 MA (aA (va (show Nm ["_law_inner"] _ by show _=_;kernel_rfl) 0) ah)))) ah))))),?_⟩
 try dsimp only[dg]
 fail "R"
 intro p2 H2 ws2 s2 hp2 h2 r2
 have l2:=r2.length
 rw[List.length_map]at l2
 have hk:=jO tm
 fail "R"
 refine cy (K:=K) (a:=p2) (xs:=ws2) (fun i σ us Hd=>(∃x,σ=[x])/\aL H2 Hd/\us=((tm.ks.take i).map fun k=>(k.size:Int)).map V.int) ⟨⟨_,rfl⟩,aL.refl _,rfl⟩ ?_ (Nat.le_of_lt (aC (by omega))) ?_ ?_ ?_
 ·rintro i σ us Hd hi ⟨_,_,rfl⟩
  rw[List.length_map,List.length_map,List.length_take];omega
 ·rintro i σ us Hd hi ⟨_,sd,_⟩
  exact bJ.of (sd _ _ h2)
 ·rintro i x σ us Hd hi ⟨⟨x0,rfl⟩,sd,rfl⟩
  obtain⟨y,hy,ry⟩:=r2.get' hi
  rw[List.getElem?_map]at hy
  obtain⟨q,hq,rfl⟩:=Option.map_eq_some_iff.mp hy
  have hil:i<tm.ks.length:=(List.getElem?_eq_some_iff.mp hq).1
  have eq1:tm.ks[i]=q:=(List.getElem?_eq_some_iff.mp hq).2
  have hqm:q∈tm.ks:=by rw[←eq1];exact List.getElem_mem hil
  have hqs:q.size<=900:=by
   have:=fM hqm
   cases tm with
   |mk h ks=>rw[Tm.cF]at hsz;have:q.size<=Tm.sizes ks:=this;omega
  have hqd:q.depth<n:=by
   cases tm with
   |mk h ks=>have:=Tm.iu (h:=h) (ks:=ks) hqm;omega
  have ryd:=ry.same sd
  have wfq:=Wf.kids wf q hqm
  fail "R"
  intro H4 s4
  fail "R"
  ·exact sd.trans s4
  rw[List.take_succ_eq_append_getElem hil,eq1,List.map_append,List.map_append]
  rfl
 ·rintro σ us Hd ⟨_,sd,rfl⟩ p9 hp9
  have s9:=ae hp9 (.lst (((tm.ks.take ws2.length).map fun k=>(k.size:Int)).map V.int))
  rw[l2,List.take_length]at s9⊢
  have h9:upd Hd p9 (.lst ((tm.ks.map fun k=>(k.size:Int)).map V.int)) p9=some (.lst ((tm.ks.map fun k=>(k.size:Int)).map V.int)):=af
  have e9:1+(tm.ks.map fun k=>(k.size:Int)).sum=(tm.size:Int):=by
   have:∀ks:List Tm,(ks.map fun k=>(k.size:Int)).sum=((Tm.sizes ks:Nat):Int):=fun ks=>by
    induction ks with
    |nil=>rfl
    |cons k r ih=>rw[List.map_cons,List.sum_cons,ih,Tm.bG];omega
   cases tm with
   |mk h ks=>rw[Tm.cF];show 1+(ks.map fun k=>(k.size:Int)).sum=_;rw[this];omega
  fail "R"
  have z:=k _ (s2.trans (sd.trans s9))
  rw[←e9]at z
  exact z
theorem fresh_ne{r st:Int}{i j:Nat}(hst:st=1\/st=3\/st=7\/st=9\/st=11\/st=13\/st=17\/st=99)(hi:i<5)(hj:j<5)(h:i≠j):(r+st*(i:Int)) % 100≠(r+st*(j:Int)) % 100:=by
 rcases hst with rfl|rfl|rfl|rfl|rfl|rfl|rfl|rfl<;>omega
noncomputable def rR(K:PySem.W.Frag):Sp:=fun vs H Q _=>∃(f:Addr) (m:Nat),vs=[.ref f,.int (m:Int)]/\bM H f/\m<=5 /\
 ∀(p:Addr) (H':Hp) (ns:List Int),Ext f H H'->H p=none->H' p=some (.lst (ns.map V.int))->ns.length=m->ns.Nodup->(∀x∈ns,0<=x/\x<100)->Q (.ref p) H'
theorem iS:Nm ["_law_feed_here","_law_many_here","_law_first","_law_step"] (aj eB):=by decide +kernel
theorem kW:Lm ["_law_feed_here","_law_many_here","_law_first","_law_step"] (aj eB):=by decide +kernel
theorem iT:aZ ["_law_feed_here","_law_many_here","_law_first","_law_step"] ["_law_feed_here","_law_many_here"] (aj eB):=⟨rfl,rfl,rfl,by decide +kernel,rfl,by decide +kernel,by decide +kernel⟩
theorem vL{f:Addr}{fd:FuncData}(F:iE K "_law_fresh" "_law_fresh" eB f fd)(TK:cR P w K mg base "_law_take" 1 ["_law_feed_here","_law_many_here"] cT gT tfd)(z_range:mg "range"=none):cA P w K mg base gv 2 f fd ["_law_feed_here","_law_many_here"] (rR K):=by
 refine F.ok iT (fun vs H Q E h=>?_) (fun cdv A outer s H vs Q E hr h=>?_)
 ·obtain⟨_,_,rfl,_⟩:=h
  rfl
 obtain⟨fe,m,rfl,hf,hm,k⟩:=h
 refine⟨_,(Z6 (Z3 iT.nd kW 2 (Z0 TK (aA (va iS 0) (aA ak ah)))) (Z6 (Z3 iT.nd kW 3 (Za aT (@bj _ _ _ _ (Z1 ak (Z1 ak (Z1 ak (Z1 ak (Z1 ak (Z1 ak (aA ak (aA ak ah))))))))) (Z0 TK (aA (va iS 0) (aA ak ah))))) (Zh (@aK _ _ _ _ (Z4 (aj eB) ["_law_feed_here","_law_many_here","_law_first","_law_step"] ["_law_k"] [2,3] (@fD _ _ _ _ _ _ (by show _=_;kernel_rfl) z_range (aA (va iS 1) ah) (by rfl)) (fun _ _ _ _=>(Z2 (i:=0) (show(["_law_k","_law_first","_law_step"]:List Str).Nodup by decide +kernel))) (fun _ _ _ _=>(Zj eF (Zj cQ (va (show Nm ["_law_k","_law_first","_law_step"] _ by show _=_;kernel_rfl) 1) (bw dj (va (show Nm ["_law_k","_law_first","_law_step"] _ by show _=_;kernel_rfl) 2) (va (show Nm ["_law_k","_law_first","_law_step"] _ by show _=_;kernel_rfl) 0))) ak))))))),?_⟩
 try dsimp only[dg]
 fail "R"
 intro r1 H1 r10 r11 e1
 fail "R"
 intro l1 hl1
 have s1:=ae hl1 (.lst [.int 1,.int 3,.int 7,.int 9,.int 11,.int 13,.int 17,.int 99])
 have g1:upd H1 l1 (.lst [.int 1,.int 3,.int 7,.int 9,.int 11,.int 13,.int 17,.int 99]) l1=some (.lst [.int 1,.int 3,.int 7,.int 9,.int 11,.int 13,.int 17,.int 99]):=af
 have e2:=e1.same s1
 generalize upd H1 l1 (.lst [.int 1,.int 3,.int 7,.int 9,.int 11,.int 13,.int 17,.int 99])=H2 at s1 g1 e2⊢
 have hf2:=e2.2
 fail "R"
 intro r3 H3 r30 r31 e3
 have x3:=e2.trans e3
 have nl1:l1≠fe:=fun z=>by
  subst z
  obtain⟨p,q,hq⟩:=e1.2
  rw[hq]at hl1;cases hl1
 have g3:=e3.1 l1 _ nl1 g1
 have hst:∃st:Int,iI [V.int 1,.int 3,.int 7,.int 9,.int 11,.int 13,.int 17,.int 99] r3=some (.int st)/\(st=1\/st=3\/st=7\/st=9\/st=11\/st=13\/st=17\/st=99):=by
  obtain⟨v,hv,hm⟩:=jB (xs:=[V.int 1,.int 3,.int 7,.int 9,.int 11,.int 13,.int 17,.int 99]) r30 r31
  simp only[List.mem_cons,List.not_mem_nil,or_false]at hm
  rcases hm with rfl|rfl|rfl|rfl|rfl|rfl|rfl|rfl<;>exact⟨_,hv,by decide⟩
 obtain⟨st,hat,hst⟩:=hst
 fail "R"
 refine iR (n:=m) (fun i σ us Hd=>(∃x,σ=[x,some (.int r1),some (.int st)])/\Hd=H3/\us=((List.range i).map fun(j:Nat)=>(r1+st*(j:Int)) % 100).map V.int) ⟨⟨_,rfl⟩,rfl,rfl⟩ ?_ (Nat.le_of_lt (aC (by omega))) ?_ ?_
 ·rintro i σ us Hd hi ⟨_,_,rfl⟩
  rw[List.length_map,List.length_map,List.length_range];exact Nat.le_refl _
 ·rintro i σ us Hd hi ⟨⟨x0,rfl⟩,rfl,rfl⟩
  fail "R"
  rw[List.range_succ,List.map_append,List.map_append,Int.zero_add]
  rfl
 ·rintro σ us Hd ⟨_,rfl,rfl⟩ p hp
  have sp:=ae hp (.lst (((List.range m).map fun(j:Nat)=>(r1+st*(j:Int)) % 100).map V.int))
  fail "R"
  refine k p _ _ (x3.same sp) ?_ af (by simp) ?_ ?_
  ·exact Ext.free x3 hp
  ·refine List.pairwise_map.mpr (List.Pairwise.imp_of_mem (fun{i j} hi hj (hne:i≠j)=>?_) (List.nodup_range))
   have hi':=List.mem_range.mp hi
   have hj':=List.mem_range.mp hj
   exact fresh_ne hst (by omega) (by omega) hne
  ·intro x hx
   obtain⟨j,_,rfl⟩:=List.mem_map.mp hx
   omega
end
end G04
namespace L2
open PySem PySem.Spec PyProof.Rows
noncomputable def gx(b:Bool)(h:Heap)(l:Addr)(xs:Array Value):Prop:=match b with|false=>h.IsList l xs|true=>h.IsTuple l xs
noncomputable def fh(b:Bool)(h:Heap)(i l:Addr)(k:Nat):Prop:=match b with|false=>h.IsListIter i l k|true=>h.IsTupleIter i l k
theorem gx.at{b:Bool}{h h':Heap}{l:Addr}{xs:Array Value}(x:gx b h l xs)(k:∀o,h.get? l=some o->h'.get? l=some o):gx b h' l xs:=by
 cases b with
 |false=>exact Heap.IsList.at (show h.IsList l xs from x) k
 |true=>obtain⟨o,e,r⟩:=(show h.IsTuple l xs from x);exact⟨o,k o e,r⟩
theorem fh.at{b:Bool}{h h':Heap}{i l:Addr}{n:Nat}(x:fh b h i l n)(k:∀o,h.get? i=some o->h'.get? i=some o):fh b h' i l n:=by
 cases b with
 |false=>exact Heap.IsListIter.at (show h.IsListIter i l n from x) k
 |true=>obtain⟨o,e,r⟩:=(show h.IsTupleIter i l n from x);exact⟨o,k o e,r⟩
theorem gx.extBut{b:Bool}{h h':Heap}{l c:Addr}{xs:Array Value}(x:gx b h l xs)(hs:Heap.ExtBut c h h')(hc:l≠c):gx b h' l xs:=x.at fun o e=>hs l o hc e
theorem fh.extBut{b:Bool}{h h':Heap}{i l c:Addr}{n:Nat}(x:fh b h i l n)(hs:Heap.ExtBut c h h')(hc:i≠c):fh b h' i l n:=x.at fun o e=>hs i o hc e
theorem gx.got{b:Bool}{h:Heap}{l:Addr}{xs:Array Value}(x:gx b h l xs):∃o,h.get? l=some o:=by
 cases b with
 |false=>obtain⟨o,e,_⟩:=(show h.IsList l xs from x);exact⟨o,e⟩
 |true=>obtain⟨o,e,_⟩:=(show h.IsTuple l xs from x);exact⟨o,e⟩
theorem fh.got{b:Bool}{h:Heap}{i l:Addr}{n:Nat}(x:fh b h i l n):∃o,h.get? i=some o:=by
 cases b with
 |false=>obtain⟨o,e,_⟩:=(show h.IsListIter i l n from x);exact⟨o,e⟩
 |true=>obtain⟨o,e,_⟩:=(show h.IsTupleIter i l n from x);exact⟨o,e⟩
section
variable {prog:Program}{w:World}{A:Around}{E:Value->Shared->Prop}{s:Shared}
theorem lU{it t:Addr}{i:Nat}{items:Array Value}{x:Value}{Q:Value->Shared->Prop}(hit:s.heap.IsTupleIter it t i)(ht:s.heap.IsTuple t items)(hx:items[i]?=some x)
  (hQ:∀h',h'.IsTupleIter it t (i+1)->Heap.SameBut it s.heap h'->Q x {s with heap:=h'}):wpAny (model prog w) A (Builtin.SmallTypes.nextOf (.ref it)) Q E s:=by
 obtain⟨o,ho,hc,hd⟩:=id hit
 obtain⟨ol,hol,_,nl,hdl⟩:=ht
 have hT:=hit.typeIs
 unfold Builtin.SmallTypes.nextOf
 refine wpAny_bind (wpAny_callSpecial?_slot (name:=Str.ofString "__next__") hT PySem.F.slot_tuple_iterator_next (wpAny_call_entry PySem.F.slot_tuple_iterator_next hT PySem.F.entry_tuple_iterator_next ?_ (PySem.F.args_tuple_iterator_next_1 _)))
 show wpAny _ _ (field (.ref it) 0>>=_) _ _ s
 refine wpAny_bind (wpAny_field ho hd (x:=.ref t) rfl ?_)
 show wpAny _ _ (if(Value.ref t == Value.none)=true then _ else _) _ _ s
 rw[if_neg (show ¬((Value.ref t == Value.none)=true)from Bool.false_ne_true)]
 show wpAny _ _ (field (.ref it) 1>>=_) _ _ s
 refine wpAny_bind (wpAny_field ho hd (x:=.int i 0) rfl ?_)
 show wpAny _ _ (seqItems? (.ref t)>>=_) _ _ s
 refine wpAny_bind (wpAny_seqItems hol hdl ?_)
 simp only[Int.toNat_natCast,hx]
 refine wpAny_bind (wpAny_setField ho hd (by simp) (wpAny_pure ⟨x,rfl,wpAny_pure (hQ _ ⟨_,Heap.get?_update_self _ ho (Obj.isFreed_of_fields (Obj.data_mapFields hd _)),(Obj.cls_mapFields ..).trans hc,?_⟩ (Heap.SameBut.update ..))⟩))
 rw[Obj.data_mapFields hd];simp[rawInt]
theorem nN{it t:Addr}{i:Nat}{items:Array Value}{Q:Value->Shared->Prop}(hh:A.handled=none)(hit:s.heap.IsTupleIter it t i)(ht:s.heap.IsTuple t items)(hx:items[i]?=none)
  (hE:∀h' e,Heap.ExtBut it s.heap h'->(∃o,h'.get? e=some o/\o.cls=.type "StopIteration")->E (.ref e) {s with heap:=h'}):wpAny (model prog w) A (Builtin.SmallTypes.nextOf (.ref it)) Q E s:=by
 obtain⟨o,ho,hc,hd⟩:=id hit
 obtain⟨ol,hol,_,nl,hdl⟩:=ht
 have hT:=hit.typeIs
 unfold Builtin.SmallTypes.nextOf
 refine wpAny_bind (wpAny_callSpecial?_slot (name:=Str.ofString "__next__") hT PySem.F.slot_tuple_iterator_next (wpAny_call_entry PySem.F.slot_tuple_iterator_next hT PySem.F.entry_tuple_iterator_next ?_ (PySem.F.args_tuple_iterator_next_1 _)))
 show wpAny _ _ (field (.ref it) 0>>=_) _ _ s
 refine wpAny_bind (wpAny_field ho hd (x:=.ref t) rfl ?_)
 show wpAny _ _ (if(Value.ref t == Value.none)=true then _ else _) _ _ s
 rw[if_neg (show ¬((Value.ref t == Value.none)=true)from Bool.false_ne_true)]
 show wpAny _ _ (field (.ref it) 1>>=_) _ _ s
 refine wpAny_bind (wpAny_field ho hd (x:=.int i 0) rfl ?_)
 show wpAny _ _ (seqItems? (.ref t)>>=_) _ _ s
 refine wpAny_bind (wpAny_seqItems hol hdl ?_)
 simp only[Int.toNat_natCast,hx]
 refine wpAny_bind (wpAny_rule (wpAny_bind (wpAny_setField ho hd (by simp) ?_)))
 show wpAny _ _ (newExc (.type "StopIteration") []>>=_) _ _ _
 refine wpAny_bind ?_
 simp only[newExc,newTuple]
 refine wpAny_bind (wpAny_newObj_type ?_ (by size_fits))
 refine wpAny_bind (m:=firstArgMember _ _) (wpAny_of_eq (a:=Value.none) (by first|rfl|(simp only[firstArgMember];rfl)) ?_)
 refine wpAny_newObj_type ?_ (by size_fits)
 simp only[raiseNew]
 refine wpAny_bind (wpAny_handled ?_)
 first|rw[show A.in1.handled=none from hh]|rw[hh]
 refine wpAny_bind (wpAny_pure (wpAny_throw ?_))
 exact hE _ _ (((Heap.SameBut.update ..).extBut.push _).push _) ⟨_,Heap.get?_push_size _ rfl,rfl⟩
theorem eR{b:Bool}{it l:Addr}{i:Nat}{items:Array Value}{x:Value}{Q:Value->Shared->Prop}(hit:fh b s.heap it l i)(hl:gx b s.heap l items)(hx:items[i]?=some x)
  (hQ:∀h',fh b h' it l (i+1)->Heap.SameBut it s.heap h'->Q x {s with heap:=h'}):wpAny (model prog w) A (Builtin.SmallTypes.nextOf (.ref it)) Q E s:=by
 cases b with
 |false=>exact wpAny_nextOf_list_item hit hl hx hQ
 |true=>exact lU hit hl hx hQ
theorem jk{b:Bool}{it l:Addr}{i:Nat}{items:Array Value}{Q:Value->Shared->Prop}(hh:A.handled=none)(hit:fh b s.heap it l i)(hl:gx b s.heap l items)(hx:items[i]?=none)
  (hE:∀h' e,Heap.ExtBut it s.heap h'->(∃o,h'.get? e=some o/\o.cls=.type "StopIteration")->E (.ref e) {s with heap:=h'}):wpAny (model prog w) A (Builtin.SmallTypes.nextOf (.ref it)) Q E s:=by
 cases b with
 |false=>exact wpAny_nextOf_list_end hh hit hl hx hE
 |true=>exact nN hh hit hl hx hE
noncomputable abbrev jl(b:Bool)(l:Addr):Obj:={cls:=.type (cond b "tuple_iterator" "list_iterator"),data:=.fields #[.ref l,.int 0 0]}
theorem vM{b:Bool}{l:Addr}{items:Array Value}{Q:Value->Shared->Prop}(hl:gx b s.heap l items)(hQ:Q (.ref s.heap.objs.size) {s with heap:=s.heap.push (jl b l)}):wpAny (model prog w) A (pyIter (.ref l)) Q E s:=by
 cases b with
 |false=>exact wpAny_pyIter_list hl hQ
 |true=>exact wpAny_pyIter_tuple hl hQ
end
noncomputable abbrev Cd(b1:Bool)(h:Heap)(l1:Addr):Heap:=h.push (jl b1 l1)
noncomputable abbrev Ce(b1 b2:Bool)(h:Heap)(l1 l2:Addr):Heap:=(Cd b1 h l1).push (jl b2 l2)
noncomputable abbrev Cf(b1 b2:Bool)(h:Heap)(l1 l2:Addr):Heap:=(Ce b1 b2 h l1 l2).push {cls:=.type "tuple",data:=.seq #[.ref h.objs.size,.ref (Cd b1 h l1).objs.size]}
noncomputable abbrev Cg(b1 b2:Bool)(h:Heap)(l1 l2:Addr):Heap:=(Cf b1 b2 h l1 l2).push {cls:=.type "tuple",data:=.seq #[.none,.none]}
noncomputable abbrev Am(b1 b2:Bool)(h:Heap)(l1 l2:Addr):Heap:=(Cg b1 b2 h l1 l2).push {cls:=.type "zip",data:=.fields #[.none,.bool false,.bool false,.ref (Ce b1 b2 h l1 l2).objs.size,.ref (Cf b1 b2 h l1 l2).objs.size]}
theorem An(b1 b2:Bool)(l1 l2:Addr)(xs ys:Array Value) :
  Meets (Builtin.«zip.__new__» ⟨[.type "zip",.ref l1,.ref l2],[]⟩) (fun _ R s=>gx b1 s.heap l1 xs/\gx b2 s.heap l2 ys/\R (.ok (.ret (.ref (Cg b1 b2 s.heap l1 l2).objs.size))) {s with heap:=Am b1 b2 s.heap l1 l2}) :=
 .of_wp fun prog w A R s h=>by
  obtain⟨hp,g,d,tk,os⟩:=s
  obtain⟨hl1,hl2,h⟩:=h
  have hsub:=sub_zip
  have hL1:gx b1 (Shared.heap ⟨hp,g,d,tk,os⟩) l1 xs:=hl1
  have hL2:gx b2 (Shared.heap ⟨hp.push (jl b1 l1),g,d,tk,os⟩) l2 ys:=hl2.at fun o e=>Heap.get?_push_of_some _ e
  wp_walk using vM hL1,vM hL2
  exact⟨_,rfl,h⟩
section
variable {prog:Program}{w:World}{A:Around}{E:Value->Shared->Prop}{s:Shared}{b1 b2:Bool}
theorem vN{b:Bool}{h:Heap}{i l:Addr}(e:h.get? i=some (jl b l)):fh b h i l 0:=by
 cases b with
 |false=>exact⟨_,e,rfl,rfl⟩
 |true=>exact⟨_,e,rfl,rfl⟩
theorem rS{l1 l2:Addr}{xs ys:Array Value}{Q:Value->Shared->Prop}(hl1:gx b1 s.heap l1 xs)(hl2:gx b2 s.heap l2 ys)
  (h:∀h',IsZip h' (s.heap.objs.size+4) (s.heap.objs.size+2) (s.heap.objs.size+3) .none->IsPair h' (s.heap.objs.size+2) (.ref s.heap.objs.size) (.ref (s.heap.objs.size+1)) ->
   IsPair h' (s.heap.objs.size+3) .none .none->fh b1 h' s.heap.objs.size l1 0->fh b2 h' (s.heap.objs.size+1) l2 0->h'.objs.size=s.heap.objs.size+5 ->
   (∀c o,s.heap.get? c=some o->h'.get? c=some o)->Q (.ref (s.heap.objs.size+4)) {s with heap:=h'}) :
  wpAny (model prog w) A (call (.type "zip") [.ref l1,.ref l2]) Q E s:=by
 refine callType_new PySem.F.called_zip (by decide) (PySem.F.typeCall_zip_2 _ _) (PySem.F.newCall_zip_2 _ _) (fun obj=>PySem.F.args_object_init_3 obj _ _) PySem.F.entry_zip_new (An b1 b2 l1 l2 xs ys) ⟨hl1,hl2,?_⟩
 have z1:(Cd b1 s.heap l1).objs.size=s.heap.objs.size+1:=Heap.size_push ..
 have z2:(Ce b1 b2 s.heap l1 l2).objs.size=s.heap.objs.size+2:=by rw[Heap.size_push,z1]
 have z3:(Cf b1 b2 s.heap l1 l2).objs.size=s.heap.objs.size+3:=by rw[Heap.size_push,z2]
 have z4:(Cg b1 b2 s.heap l1 l2).objs.size=s.heap.objs.size+4:=by rw[Heap.size_push,z3]
 have z5:(Am b1 b2 s.heap l1 l2).objs.size=s.heap.objs.size+5:=by rw[Heap.size_push,z4]
 have up:∀{h:Heap}{c:Addr}{o:Obj}(x:Obj),h.get? c=some o->(h.push x).get? c=some o:=fun x e=>Heap.get?_push_of_some _ e
 have g5:(Am b1 b2 s.heap l1 l2).get? (Cg b1 b2 s.heap l1 l2).objs.size=some _:=Heap.get?_push_size _ rfl
 have g4:(Am b1 b2 s.heap l1 l2).get? (Cf b1 b2 s.heap l1 l2).objs.size=some _:=up _ (Heap.get?_push_size _ rfl)
 have g3:(Am b1 b2 s.heap l1 l2).get? (Ce b1 b2 s.heap l1 l2).objs.size=some _:=up _ (up _ (Heap.get?_push_size _ rfl))
 have g2:(Am b1 b2 s.heap l1 l2).get? (Cd b1 s.heap l1).objs.size=some (jl b2 l2):=up _ (up _ (up _ (Heap.get?_push_size _ rfl)))
 have g1:(Am b1 b2 s.heap l1 l2).get? s.heap.objs.size=some (jl b1 l1):=up _ (up _ (up _ (up _ (Heap.get?_push_size _ rfl))))
 show _/\_
 rw[z2,z3,z4]at g5
 rw[z1,z2]at g3
 rw[z3]at g4
 rw[z1]at g2
 rw[z4]
 exact⟨⟨_,g5,rfl⟩,h _ g5 g3 g4 (vN g1) (vN g2) z5 fun c o x=>up _ (up _ (up _ (up _ (up _ x))))⟩
theorem rT{z TI TO i1 i2 l1 l2:Addr}{k1 k2:Nat}{xs ys:Array Value}{x y a b:Value}{Q:Option Value->Shared->Prop}(D:ZipApart z TI TO i1 i2 l1 l2)(hz:IsZip s.heap z TI TO .none)(hTI:IsPair s.heap TI (.ref i1) (.ref i2))(hTO:IsPair s.heap TO a b)
  (h1:fh b1 s.heap i1 l1 k1) (h2:fh b2 s.heap i2 l2 k2) (hl1:gx b1 s.heap l1 xs) (hl2:gx b2 s.heap l2 ys) (hx:xs[k1]?=some x) (hy:ys[k2]?=some y)
  (hQ:∀h',IsZip h' z TI TO (rawInt s.heap.objs.size)->IsPair h' TO x y->fh b1 h' i1 l1 (k1+1)->fh b2 h' i2 l2 (k2+1)->IsPair h' s.heap.objs.size x y->h'.objs.size=s.heap.objs.size+1 ->
   (∀c o,c≠z->c≠TO->c≠i1->c≠i2->s.heap.get? c=some o->h'.get? c=some o)->Q (some (.ref s.heap.objs.size)) {s with heap:=h'}) :
  wpAny (model prog w) A (pyNext (.ref z)) Q E s:=by
 have hTy:s.TypeIs (.ref z) "zip":=⟨_,hz,rfl⟩
 unfold pyNext
 refine wpAny_bind (wpAny_attempt (wpAny_callSpecial?_slot (name:=Str.ofString "__next__") hTy PySem.F.slot_zip_next (wpAny_call_entry PySem.F.slot_zip_next hTy PySem.F.entry_zip_next ?_ (PySem.F.args_zip_next_1 _))))
 show wpAny _ _ (field (.ref z) 2>>=_) _ _ _
 refine wpAny_bind (wpAny_field hz rfl (x:=.bool false) rfl ?_)
 show wpAny _ _ (field (.ref z) 3>>=_) _ _ _
 refine wpAny_bind (wpAny_field hz rfl (x:=.ref TI) rfl (wpAny_bind (wpAny_seqItems hTI rfl ?_)))
 show wpAny _ _ (Builtin.SmallTypes.ownedTupleIsFree (.ref z)>>=_) _ _ _
 refine wpAny_bind ?_
 unfold Builtin.SmallTypes.ownedTupleIsFree
 refine wpAny_bind (wpAny_field hz rfl (x:=.none) rfl (wpAny_pure ?_))
 simp only[if_true]
 refine wpAny_bind (wpAny_rule (wpAny_bind (wpAny_field hz rfl (x:=.ref TO) rfl ?_)))
 refine wpAny_bind (wpAny_setField_rec hz (by simp) fun h₁ hz₁ hs₁=>?_)
 replace hz₁:IsZip h₁ z TI TO .ellipsis:=hz₁
 refine wpAny_bind ?_
 simp only[List.zipIdx_cons,List.zipIdx_nil,List.forIn_cons,List.forIn_nil]
 refine wpAny_bind (wpAny_bind (wpAny_onRaise ?_))
 show wpAny _ _ (Builtin.SmallTypes.nextOf (.ref i1)>>=_) _ _ _
 refine wpAny_bind (eR (h1.extBut hs₁.extBut D.i1z) (hl1.extBut hs₁.extBut D.l1z) hx fun h₂ h1₂ hs₂=>wpAny_pure ?_)
 have hTO₂:IsPair h₂ TO a b:=hs₂.extBut _ _ D.TOi1 (hs₁.extBut _ _ D.TOz hTO)
 refine wpAny_bind (wpAny_seqItems hTO₂ rfl (wpAny_bind (wpAny_updateSeq_pair hTO₂ fun h₃ hTO₃ hs₃=>?_)))
 replace hTO₃:IsPair h₃ TO x b:=hTO₃
 refine wpAny_bind (wpAny_letGo (wpAny_pure ?_))
 refine wpAny_bind (wpAny_bind (wpAny_onRaise ?_))
 show wpAny _ _ (Builtin.SmallTypes.nextOf (.ref i2)>>=_) _ _ _
 refine wpAny_bind (eR (((h2.extBut hs₁.extBut D.i2z).extBut hs₂.extBut D.i12.symm).extBut hs₃.extBut D.TOi2.symm) (((hl2.extBut hs₁.extBut D.l2z).extBut hs₂.extBut D.l2i1).extBut hs₃.extBut D.l2TO) hy fun h₄ h2₄ hs₄=>wpAny_pure ?_)
 have hTO₄:IsPair h₄ TO x b:=hs₄.extBut _ _ D.TOi2 hTO₃
 refine wpAny_bind (wpAny_seqItems hTO₄ rfl (wpAny_bind (wpAny_updateSeq_pair hTO₄ fun h₅ hTO₅ hs₅=>?_)))
 replace hTO₅:IsPair h₅ TO x y:=hTO₅
 refine wpAny_bind (wpAny_letGo (wpAny_pure (wpAny_pure (wpAny_bind (wpAny_seqItems hTO₅ rfl (wpAny_bind (wpAny_newTuple ?_)))))))
 have hsz:h₅.objs.size=s.heap.objs.size:=by rw[hs₅.1,hs₄.1,hs₃.1,hs₂.1,hs₁.1]
 have hz₅:IsZip h₅ z TI TO .ellipsis:=hs₅.extBut _ _ D.TOz.symm (hs₄.extBut _ _ D.i2z.symm (hs₃.extBut _ _ D.TOz.symm (hs₂.extBut _ _ D.i1z.symm hz₁)))
 have hk₅:∀c o,c≠z->c≠TO->c≠i1->c≠i2->s.heap.get? c=some o->h₅.get? c=some o:=fun c o c1 c2 c3 c4 e=>hs₅.extBut _ _ c2 (hs₄.extBut _ _ c4 (hs₃.extBut _ _ c2 (hs₂.extBut _ _ c3 (hs₁.extBut _ _ c1 e))))
 have h1₅:fh b1 h₅ i1 l1 (k1+1):=((h1₂.extBut hs₃.extBut D.TOi1.symm).extBut hs₄.extBut D.i12).extBut hs₅.extBut D.TOi1.symm
 have h2₅:fh b2 h₅ i2 l2 (k2+1):=h2₄.extBut hs₅.extBut D.TOi2.symm
 have hzlt:z<h₅.objs.size:=Heap.lt_size hz₅
 show wpAny _ _ (Builtin.SmallTypes.ownedTupleHandOut (.ref z) (.ref h₅.objs.size)>>=_) _ _ _
 refine wpAny_bind ?_
 unfold Builtin.SmallTypes.ownedTupleHandOut
 have hz₆:IsZip (h₅.push {cls:=.type "tuple",data:=.seq #[x,y]}) z TI TO .ellipsis:=Heap.get?_push_of_some _ hz₅
 refine wpAny_bind (wpAny_setField_rec hz₆ (by simp) fun h₇ hz₇ hs₇=>?_)
 replace hz₇:IsZip h₇ z TI TO (rawInt h₅.objs.size):=hz₇
 refine wpAny_setField_rec hz₇ (by simp) fun h₈ hz₈ hs₈=>?_
 replace hz₈:IsZip h₈ z TI TO (rawInt h₅.objs.size):=hz₈
 have up:∀c o,c≠z->h₅.get? c=some o->h₈.get? c=some o:=fun c o c1 e=>hs₈.extBut _ _ c1 (hs₇.extBut _ _ c1 (Heap.get?_push_of_some _ e))
 have hT₈:IsPair h₈ h₅.objs.size x y:=hs₈.extBut _ _ (Nat.ne_of_gt hzlt) (hs₇.extBut _ _ (Nat.ne_of_gt hzlt) (Heap.get?_push_size _ rfl))
 have hz8:h₈.objs.size=h₅.objs.size+1:=by rw[hs₈.1,hs₇.1,Heap.size_push]
 rw[hsz]at hz₈ hT₈ hz8
 refine wpAny_pure ⟨_,rfl,wpAny_pure ?_⟩
 show Q (some (.ref h₅.objs.size)) _
 rw[hsz]
 exact hQ h₈ hz₈ (up _ _ D.TOz hTO₅) (h1₅.at fun o e=>up _ o D.i1z e) (h2₅.at fun o e=>up _ o D.i2z e) hT₈ hz8 fun c o c1 c2 c3 c4 e=>up c o c1 (hk₅ c o c1 c2 c3 c4 e)
theorem vO{z TI TO i1 i2 l1 l2:Addr}{k1 k2:Nat}{xs ys:Array Value}{a b:Value}{Q:Option Value->Shared->Prop}(hh:A.handled=none)(D:ZipApart z TI TO i1 i2 l1 l2)(hz:IsZip s.heap z TI TO .none)(hTI:IsPair s.heap TI (.ref i1) (.ref i2))(hTO:IsPair s.heap TO a b)
  (h1:fh b1 s.heap i1 l1 k1) (h2:fh b2 s.heap i2 l2 k2) (hl1:gx b1 s.heap l1 xs) (hl2:gx b2 s.heap l2 ys) (hend:xs[k1]?=none\/ys[k2]?=none)
  (hQ:∀h',(∀c o,c≠z->c≠TO->c≠i1->c≠i2->s.heap.get? c=some o->h'.get? c=some o)->Q none {s with heap:=h'}):wpAny (model prog w) A (pyNext (.ref z)) Q E s:=by
 have hTy:s.TypeIs (.ref z) "zip":=⟨_,hz,rfl⟩
 have stop:∀(h':Heap) (e:Addr),(∀c o,c≠z->c≠TO->c≠i1->c≠i2->s.heap.get? c=some o->h'.get? c=some o)->(∃o,h'.get? e=some o/\o.cls=.type "StopIteration") ->
   wpAny (model prog w) A (do if(←isInstance (.ref e) (.type "StopIteration"))then pure none else throw (.ref e)) Q E {s with heap:=h'}:=fun h' e hk ⟨o,ho,hc⟩ =>
  wpAny_bind (wpAny_isInstance (T:="StopIteration") (b:=true) ⟨o,ho,hc⟩ isSubtype_stop (wpAny_pure (hQ _ hk)))
 unfold pyNext
 refine wpAny_bind (wpAny_attempt (wpAny_callSpecial?_slot (name:=Str.ofString "__next__") hTy PySem.F.slot_zip_next (wpAny_call_entry PySem.F.slot_zip_next hTy PySem.F.entry_zip_next ?_ (PySem.F.args_zip_next_1 _))))
 show wpAny _ _ (field (.ref z) 2>>=_) _ _ _
 refine wpAny_bind (wpAny_field hz rfl (x:=.bool false) rfl ?_)
 show wpAny _ _ (field (.ref z) 3>>=_) _ _ _
 refine wpAny_bind (wpAny_field hz rfl (x:=.ref TI) rfl (wpAny_bind (wpAny_seqItems hTI rfl ?_)))
 show wpAny _ _ (Builtin.SmallTypes.ownedTupleIsFree (.ref z)>>=_) _ _ _
 refine wpAny_bind ?_
 unfold Builtin.SmallTypes.ownedTupleIsFree
 refine wpAny_bind (wpAny_field hz rfl (x:=.none) rfl (wpAny_pure ?_))
 simp only[if_true]
 refine wpAny_bind (wpAny_rule (wpAny_bind (wpAny_field hz rfl (x:=.ref TO) rfl ?_)))
 refine wpAny_bind (wpAny_setField_rec hz (by simp) fun h₁ hz₁ hs₁=>?_)
 replace hz₁:IsZip h₁ z TI TO .ellipsis:=hz₁
 refine wpAny_bind ?_
 simp only[List.zipIdx_cons,List.zipIdx_nil,List.forIn_cons,List.forIn_nil]
 refine wpAny_bind (wpAny_bind (wpAny_onRaise ?_))
 show wpAny _ _ (Builtin.SmallTypes.nextOf (.ref i1)>>=_) _ _ _
 cases hx:xs[k1]? with
 |none =>
  refine wpAny_bind (jk hh (h1.extBut hs₁.extBut D.i1z) (hl1.extBut hs₁.extBut D.l1z) hx fun h₂ e hs₂ he=>?_)
  obtain⟨oe,hoe,hce⟩:=he
  have hz₂:IsZip h₂ z TI TO .ellipsis:=hs₂ _ _ D.i1z.symm hz₁
  have hez:e≠z:=fun x=>by subst x;rw[hz₂]at hoe;cases hoe;simp at hce
  exact wpAny_setField_rec hz₂ (by simp) fun h₃ _ hs₃=>stop h₃ e (fun c o c1 _ c3 _ x=>hs₃.extBut _ _ c1 (hs₂ _ _ c3 (hs₁.extBut _ _ c1 x))) ⟨oe,hs₃.extBut _ _ hez hoe,hce⟩
 |some x =>
  have hy:ys[k2]?=none:=by
   rcases hend with h|h
   ·rw[hx]at h;cases h
   ·exact h
  refine wpAny_bind (eR (h1.extBut hs₁.extBut D.i1z) (hl1.extBut hs₁.extBut D.l1z) hx fun h₂ h1₂ hs₂=>wpAny_pure ?_)
  have hTO₂:IsPair h₂ TO a b:=hs₂.extBut _ _ D.TOi1 (hs₁.extBut _ _ D.TOz hTO)
  refine wpAny_bind (wpAny_seqItems hTO₂ rfl (wpAny_bind (wpAny_updateSeq_pair hTO₂ fun h₃ hTO₃ hs₃=>?_)))
  refine wpAny_bind (wpAny_letGo (wpAny_pure ?_))
  refine wpAny_bind (wpAny_bind (wpAny_onRaise ?_))
  show wpAny _ _ (Builtin.SmallTypes.nextOf (.ref i2)>>=_) _ _ _
  refine wpAny_bind (jk hh (((h2.extBut hs₁.extBut D.i2z).extBut hs₂.extBut D.i12.symm).extBut hs₃.extBut D.TOi2.symm) (((hl2.extBut hs₁.extBut D.l2z).extBut hs₂.extBut D.l2i1).extBut hs₃.extBut D.l2TO) hy fun h₄ e hs₄ he=>?_)
  obtain⟨oe,hoe,hce⟩:=he
  have hz₄:IsZip h₄ z TI TO .ellipsis:=hs₄ _ _ D.i2z.symm (hs₃.extBut _ _ D.TOz.symm (hs₂.extBut _ _ D.i1z.symm hz₁))
  have hez:e≠z:=fun x=>by subst x;rw[hz₄]at hoe;cases hoe;simp at hce
  exact wpAny_setField_rec hz₄ (by simp) fun h₅ _ hs₅=>stop h₅ e (fun c o c1 c2 c3 c4 x=>hs₅.extBut _ _ c1 (hs₄ _ _ c4 (hs₃.extBut _ _ c2 (hs₂.extBut _ _ c3 (hs₁.extBut _ _ c1 x))))) ⟨oe,hs₅.extBut _ _ hez hoe,hce⟩
end
section
variable {prog:Program}{w:World}{A:Around}{E:Value->Shared->Prop}{s:Shared}{b1 b2:Bool}
theorem kX{z TI TO i1 i2 l1 l2 T:Addr}{flag:Bool}{oT:Obj}{k1 k2:Nat}{xs ys:Array Value}{x y:Value}{Q:Option Value->Shared->Prop}(D:ZipApart z TI TO i1 i2 l1 l2)
  (hz:nG s.heap z TI TO T flag) (hT:s.heap.get? T=some oT) (hTI:IsPair s.heap TI (.ref i1) (.ref i2))
  (h1:fh b1 s.heap i1 l1 k1) (h2:fh b2 s.heap i2 l2 k2) (hl1:gx b1 s.heap l1 xs) (hl2:gx b2 s.heap l2 ys) (hx:xs[k1]?=some x) (hy:ys[k2]?=some y)
  (hQ:∀h',nG h' z TI TO T true->fh b1 h' i1 l1 (k1+1)->fh b2 h' i2 l2 (k2+1)->IsPair h' s.heap.objs.size x y ->
   (∀c o,c≠z->c≠i1->c≠i2->s.heap.get? c=some o->h'.get? c=some o)->Q (some (.ref s.heap.objs.size)) {s with heap:=h'}) :
  wpAny (model prog w) A (pyNext (.ref z)) Q E s:=by
 have hTy:s.TypeIs (.ref z) "zip":=⟨_,hz,rfl⟩
 unfold pyNext
 refine wpAny_bind (wpAny_attempt (wpAny_callSpecial?_slot (name:=Str.ofString "__next__") hTy PySem.F.slot_zip_next
  (wpAny_call_entry PySem.F.slot_zip_next hTy PySem.F.entry_zip_next ?_ (PySem.F.args_zip_next_1 _))))
 show wpAny _ _ (field (.ref z) 2>>=_) _ _ _
 refine wpAny_bind (wpAny_field hz rfl (x:=.bool false) rfl ?_)
 show wpAny _ _ (field (.ref z) 3>>=_) _ _ _
 refine wpAny_bind (wpAny_field hz rfl (x:=.ref TI) rfl ?_)
 refine wpAny_bind (wpAny_seqItems hTI rfl ?_)
 show wpAny _ _ (Builtin.SmallTypes.ownedTupleIsFree (.ref z)>>=_) _ _ _
 refine wpAny_bind (jz hz hT fun h₁ hz₁ hs₁=>?_)
 simp only[Bool.false_eq_true,if_false]
 refine wpAny_bind ?_
 simp only[←Array.forIn_toList,List.forIn_cons,List.forIn_nil]
 refine wpAny_bind (wpAny_bind (wpAny_holding ?_))
 show wpAny _ _ (Builtin.SmallTypes.nextOf (.ref i1)>>=_) _ _ _
 refine wpAny_bind (eR (h1.extBut hs₁.extBut D.i1z) (hl1.extBut hs₁.extBut D.l1z) hx fun h₂ h1₂ hs₂=>wpAny_pure (wpAny_pure ?_))
 dsimp only
 refine wpAny_bind (wpAny_bind (wpAny_holding ?_))
 show wpAny _ _ (Builtin.SmallTypes.nextOf (.ref i2)>>=_) _ _ _
 refine wpAny_bind (eR ((h2.extBut hs₁.extBut D.i2z).extBut hs₂.extBut D.i12.symm) ((hl2.extBut hs₁.extBut D.l2z).extBut hs₂.extBut D.l2i1) hy fun h₃ h2₃ hs₃=>wpAny_pure (wpAny_pure (wpAny_pure ?_)))
 dsimp only
 refine wpAny_bind (wpAny_newTuple (hsz:=by show 2<=sizeLine;decide) ?_)
 have hsz:h₃.objs.size=s.heap.objs.size:=by rw[hs₃.1,hs₂.1,hs₁.1]
 have hz₃:nG h₃ z TI TO T true:=hs₃.extBut _ _ D.i2z.symm (hs₂.extBut _ _ D.i1z.symm hz₁)
 have hk:∀c o,c≠z->c≠i1->c≠i2->s.heap.get? c=some o->h₃.get? c=some o:=fun c o c1 c3 c4 e=>hs₃.extBut _ _ c4 (hs₂.extBut _ _ c3 (hs₁.extBut _ _ c1 e))
 have h1₃:fh b1 h₃ i1 l1 (k1+1):=h1₂.extBut hs₃.extBut D.i12
 refine wpAny_pure ⟨_,rfl,wpAny_pure ?_⟩
 show Q (some (.ref h₃.objs.size)) _
 have hT3:IsPair (h₃.push {cls:=.type "tuple",data:=.seq #[x,y]}) h₃.objs.size x y:=Heap.get?_push_size _ rfl
 have fin:=hQ (h₃.push {cls:=.type "tuple",data:=.seq #[x,y]}) (Heap.get?_push_of_some _ hz₃) (h1₃.at fun o e=>Heap.get?_push_of_some _ e) (h2₃.at fun o e=>Heap.get?_push_of_some _ e) (by rw[←hsz];exact hT3) fun c o c1 c3 c4 e=>Heap.get?_push_of_some _ (hk c o c1 c3 c4 e)
 rw[←hsz]at fin
 exact fin
theorem lV{z TI TO i1 i2 l1 l2 T:Addr}{flag:Bool}{oT:Obj}{k1:Nat}{xs:Array Value}{Q:Option Value->Shared->Prop}(hh:A.handled=none)(D:ZipApart z TI TO i1 i2 l1 l2)
  (hz:nG s.heap z TI TO T flag) (hT:s.heap.get? T=some oT) (hTI:IsPair s.heap TI (.ref i1) (.ref i2))
  (h1:fh b1 s.heap i1 l1 k1) (hl1:gx b1 s.heap l1 xs) (hx:xs[k1]?=none)
  (hQ:∀h',(∀c o,c≠z->c≠i1->c≠i2->s.heap.get? c=some o->h'.get? c=some o)->Q none {s with heap:=h'}) :
  wpAny (model prog w) A (pyNext (.ref z)) Q E s:=by
 have hTy:s.TypeIs (.ref z) "zip":=⟨_,hz,rfl⟩
 unfold pyNext
 refine wpAny_bind (wpAny_attempt (wpAny_callSpecial?_slot (name:=Str.ofString "__next__") hTy PySem.F.slot_zip_next
  (wpAny_call_entry PySem.F.slot_zip_next hTy PySem.F.entry_zip_next ?_ (PySem.F.args_zip_next_1 _))))
 show wpAny _ _ (field (.ref z) 2>>=_) _ _ _
 refine wpAny_bind (wpAny_field hz rfl (x:=.bool false) rfl ?_)
 show wpAny _ _ (field (.ref z) 3>>=_) _ _ _
 refine wpAny_bind (wpAny_field hz rfl (x:=.ref TI) rfl ?_)
 refine wpAny_bind (wpAny_seqItems hTI rfl ?_)
 show wpAny _ _ (Builtin.SmallTypes.ownedTupleIsFree (.ref z)>>=_) _ _ _
 refine wpAny_bind (jz hz hT fun h₁ hz₁ hs₁=>?_)
 simp only[Bool.false_eq_true,if_false]
 refine wpAny_bind ?_
 simp only[←Array.forIn_toList,List.forIn_cons,List.forIn_nil]
 refine wpAny_bind (wpAny_bind (wpAny_holding ?_))
 show wpAny _ _ (Builtin.SmallTypes.nextOf (.ref i1)>>=_) _ _ _
 refine wpAny_bind (jk hh (h1.extBut hs₁.extBut D.i1z) (hl1.extBut hs₁.extBut D.l1z) hx fun h₂ e hs₂ he=>?_)
 obtain⟨oe,hoe,hce⟩:=he
 refine wpAny_bind (wpAny_isInstance (T:="StopIteration") (b:=true) ⟨oe,hoe,hce⟩ isSubtype_stop ?_)
 exact wpAny_pure (hQ _ fun c o c1 c2 _ e'=>hs₂ _ _ c2 (hs₁.extBut _ _ c1 e'))
theorem kY{z TI TO i1 i2 l1 l2 T:Addr}{flag:Bool}{oT:Obj}{k1 k2:Nat}{xs ys:Array Value}{x:Value}{Q:Option Value->Shared->Prop}(hh:A.handled=none)(D:ZipApart z TI TO i1 i2 l1 l2)
  (hz:nG s.heap z TI TO T flag) (hT:s.heap.get? T=some oT) (hTI:IsPair s.heap TI (.ref i1) (.ref i2))
  (h1:fh b1 s.heap i1 l1 k1) (h2:fh b2 s.heap i2 l2 k2) (hl1:gx b1 s.heap l1 xs) (hl2:gx b2 s.heap l2 ys) (hx:xs[k1]?=some x) (hy:ys[k2]?=none)
  (hQ:∀h',(∀c o,c≠z->c≠i1->c≠i2->s.heap.get? c=some o->h'.get? c=some o)->Q none {s with heap:=h'}) :
  wpAny (model prog w) A (pyNext (.ref z)) Q E s:=by
 have hTy:s.TypeIs (.ref z) "zip":=⟨_,hz,rfl⟩
 unfold pyNext
 refine wpAny_bind (wpAny_attempt (wpAny_callSpecial?_slot (name:=Str.ofString "__next__") hTy PySem.F.slot_zip_next
  (wpAny_call_entry PySem.F.slot_zip_next hTy PySem.F.entry_zip_next ?_ (PySem.F.args_zip_next_1 _))))
 show wpAny _ _ (field (.ref z) 2>>=_) _ _ _
 refine wpAny_bind (wpAny_field hz rfl (x:=.bool false) rfl ?_)
 show wpAny _ _ (field (.ref z) 3>>=_) _ _ _
 refine wpAny_bind (wpAny_field hz rfl (x:=.ref TI) rfl ?_)
 refine wpAny_bind (wpAny_seqItems hTI rfl ?_)
 show wpAny _ _ (Builtin.SmallTypes.ownedTupleIsFree (.ref z)>>=_) _ _ _
 refine wpAny_bind (jz hz hT fun h₁ hz₁ hs₁=>?_)
 simp only[Bool.false_eq_true,if_false]
 refine wpAny_bind ?_
 simp only[←Array.forIn_toList,List.forIn_cons,List.forIn_nil]
 refine wpAny_bind (wpAny_bind (wpAny_holding ?_))
 show wpAny _ _ (Builtin.SmallTypes.nextOf (.ref i1)>>=_) _ _ _
 refine wpAny_bind (eR (h1.extBut hs₁.extBut D.i1z) (hl1.extBut hs₁.extBut D.l1z) hx fun h₂ h1₂ hs₂=>wpAny_pure (wpAny_pure ?_))
 dsimp only
 refine wpAny_bind (wpAny_bind (wpAny_holding ?_))
 show wpAny _ _ (Builtin.SmallTypes.nextOf (.ref i2)>>=_) _ _ _
 refine wpAny_bind (jk hh ((h2.extBut hs₁.extBut D.i2z).extBut hs₂.extBut D.i12.symm) ((hl2.extBut hs₁.extBut D.l2z).extBut hs₂.extBut D.l2i1) hy fun h₃ e hs₃ he=>?_)
 obtain⟨oe,hoe,hce⟩:=he
 refine wpAny_bind (wpAny_isInstance (T:="StopIteration") (b:=true) ⟨oe,hoe,hce⟩ isSubtype_stop ?_)
 exact wpAny_pure (hQ _ fun c o c1 c2 c3 e'=>hs₃ _ _ c3 (hs₂.extBut _ _ c2 (hs₁.extBut _ _ c1 e')))
end
structure CQ(b1 b2:Bool) (h:Heap) (z TI TO i1 i2 l1 l2 lo:Nat) (xs ys:Array Value) (i:Nat):Prop where
 ti:IsPair h TI (.ref i1) (.ref i2)
 it1:fh b1 h i1 l1 i
 it2:fh b2 h i2 l2 i
 ls1:gx b1 h l1 xs
 ls2:gx b2 h l2 ys
 st:(i=0/\IsZip h z TI TO .none/\∃a b,IsPair h TO a b)\/∃(T:Nat) (flag:Bool) (oT:Obj),nG h z TI TO T flag/\h.get? T=some oT/\lo<=T
section
variable {prog:Program}{w:World}{A:Around}{R:Result->Shared->Prop}{s:Shared}{b1 b2:Bool}
theorem tR{z TI TO i1 i2 l1 l2 S lo n:Nat}{xs ys:Array Value}(hh:A.handled=none)(D:ZipApart z TI TO i1 i2 l1 l2)(hS:S≠z/\S≠TI/\S≠TO/\S≠i1/\S≠i2/\S≠l1/\S≠l2)
  (hL:z<lo/\TO<lo/\i1<lo/\i2<lo/\S<lo) (hnx:n<=xs.size) (hny:n<=ys.size) (hend:xs[n]?=none\/ys[n]?=none) (hn:n<=sizeLine) (res:Value) {h₁:Heap}
  (hR:∀h' tk acc c (as:List Nat),(∀b o,b≠S->b≠z->b≠TO->b≠i1->b≠i2->h₁.get? b=some o->h'.get? b=some o)->h'.get? S=some {cls:=.type "list",dict:=none,data:=.seq acc c,slots:=#[]}->as.length=n->gp h' lo xs ys as ->
   acc.toList=as.map Value.ref->R (.ok (.ret res)) {s with heap:=h',toks:=tk}) :
  ∀(k i:Nat) (h:Heap) (tk c:Nat) (acc:Array Value) (as:List Nat),n-i=k->i<=n->CQ b1 b2 h z TI TO i1 i2 l1 l2 lo xs ys i ->
   (∀b o,b≠S->b≠z->b≠TO->b≠i1->b≠i2->h₁.get? b=some o->h.get? b=some o)->lo<=h.objs.size ->
   h.get? S=some {cls:=.type "list",dict:=none,data:=.seq acc c,slots:=#[]}->acc.toList=as.map Value.ref->as.length=i->gp h lo xs ys as ->
   codeAny (model prog w) A (.builtin "list.extend.loop" ⟨[.ref S,.ref z,res],[]⟩) R {s with heap:=h,toks:=tk}:=by
 obtain⟨s1,s2,s3,s4,s5,s6,s7⟩:=hS
 obtain⟨L1,L2,L3,L4,L5⟩:=hL
 have up:∀{a b:Nat},b<lo->lo<=a->a≠b:=fun h1 h2=>Nat.ne_of_gt (Nat.lt_of_lt_of_le h1 h2)
 intro k
 induction k with
 |zero =>
  intro i h tk c acc as hk hi hst hkeep hlo hS hacc hal hG
  have hin:i=n:=by omega
  subst hin
  refine codeAny_builtin PySem.F.entry_extend_loop ?_
  rw[Around.under_plainId PySem.F.plain_extend_loop _]
  show wpAny _ A.in1 (pyNext (.ref z)>>=_) _ _ _
  have fin:∀h':Heap,(∀c o,c≠z->c≠TO->c≠i1->c≠i2->h.get? c=some o->h'.get? c=some o)->R (.ok (.ret res)) {s with heap:=h',toks:=tk}:=fun h' hq =>
   hR h' tk acc c as (fun b o b1 b2 b3 b4 b5 e=>hq b o b2 b3 b4 b5 (hkeep b o b1 b2 b3 b4 b5 e)) (hq S _ s1 s3 s4 s5 hS) hal (hG.keep fun(c:Nat) o hc e=>hq c o (up L1 hc) (up L2 hc) (up L3 hc) (up L4 hc) e) hacc
  rcases hst.st with⟨e0,hz,a,b,hTO⟩|⟨T,flag,oT,hz,hT,hTlo⟩
  ·exact wpAny_bind (vO (s:={s with heap:=h,toks:=tk}) (A:=A.in1) hh D hz hst.ti hTO hst.it1 hst.it2 hst.ls1 hst.ls2 hend fun h' hq=>wpAny_pure (fin h' hq))
  ·cases hx:xs[i]? with
   |none=>exact wpAny_bind (lV (s:={s with heap:=h,toks:=tk}) (A:=A.in1) hh D hz hT hst.ti hst.it1 hst.ls1 hx fun h' hq=>wpAny_pure (fin h' fun c o c1 _ c3 c4 e=>hq c o c1 c3 c4 e))
   |some x =>
    have hy:ys[i]?=none:=hend.resolve_left (by rw[hx];intro z;cases z)
    exact wpAny_bind (kY (s:={s with heap:=h,toks:=tk}) (A:=A.in1) hh D hz hT hst.ti hst.it1 hst.it2 hst.ls1 hst.ls2 hx hy fun h' hq=>wpAny_pure (fin h' fun c o c1 _ c3 c4 e=>hq c o c1 c3 c4 e))
 |succ k ih =>
  intro i h tk c acc as hk hi hst hkeep hlo hS hacc hal hG
  have hlt:i<xs.size:=by omega
  have hltn:i<n:=by omega
  have hlt2:i<ys.size:=by omega
  have hx:xs[i]?=some xs[i]:=Array.getElem?_eq_getElem hlt
  have hy:ys[i]?=some ys[i]:=Array.getElem?_eq_getElem hlt2
  have hasz:acc.size=i:=by rw[←hal,←List.length_map (f:=Value.ref),←hacc];simp
  refine codeAny_builtin PySem.F.entry_extend_loop ?_
  rw[Around.under_plainId PySem.F.plain_extend_loop _]
  show wpAny _ A.in1 (pyNext (.ref z)>>=_) _ _ _
  -- what follows a turn
  have next:∀h':Heap,(∃(T:Nat) (flag:Bool) (oT:Obj),nG h' z TI TO T flag/\h'.get? T=some oT/\lo<=T)->fh b1 h' i1 l1 (i+1)->fh b2 h' i2 l2 (i+1)->IsPair h' h.objs.size xs[i] ys[i] ->
    (∀c o,c≠z->c≠TO->c≠i1->c≠i2->h.get? c=some o->h'.get? c=some o) ->
    wpAny (model prog w) A.in1 (updateSeq S (·.push (Value.ref h.objs.size))>>=fun _=>again (.builtin "list.extend.loop" ⟨[.ref S,.ref z,res],[]⟩))
     (fun fin s'=>match fin with|.done f=>R (.ok f) s'|.again c'=>c'.quiet=true/\codeAny (model prog w) A c' R s') (fun e s'=>R (.error e) s') {s with heap:=h',toks:=tk}:=by
   intro h' hb j1 j2 hp hq
   have hS':h'.get? S=some {cls:=.type "list",dict:=none,data:=.seq acc c,slots:=#[]}:=hq S _ s1 s3 s4 s5 hS
   have oth:∀b o,b≠S->h'.get? b=some o->(h'.update S (Obj.mapSeq (·.push (Value.ref h.objs.size)))).get? b=some o:=fun b o hb e=>(Heap.get?_update_other _ _ (Ne.symm hb)).trans e
   have hp':IsPair (h'.update S (Obj.mapSeq (·.push (Value.ref h.objs.size)))) h.objs.size xs[i] ys[i]:=oth _ _ (up L5 hlo) hp
   refine wpAny_bind (wpAny_updateSeq hS' rfl (wpAny_pure ⟨plainId_quiet PySem.F.plain_extend_loop _,?_⟩) (by rw[hasz];omega) (by show(acc.push _).size<=sizeLine+1;rw[Array.size_push,hasz];omega))
   refine ih (i+1) (h'.update S (Obj.mapSeq (·.push (Value.ref h.objs.size)))) tk _ (acc.push (Value.ref h.objs.size)) (as++[h.objs.size]) (by omega) hltn ⟨?_,?_,?_,?_,?_,?_⟩ ?_ ?_ (Heap.get?_update_self _ hS' rfl) ?_ (by rw[List.length_append,hal];rfl) ?_
   ·exact oth _ _ (Ne.symm s2) (hq TI _ D.TIz D.TITO D.TIi1 D.TIi2 hst.ti)
   ·exact j1.at fun o e=>oth _ o (Ne.symm s4) e
   ·exact j2.at fun o e=>oth _ o (Ne.symm s5) e
   ·exact hst.ls1.at fun o e=>oth _ o (Ne.symm s6) (hq _ o D.l1z D.l1TO D.l1i1 D.l1i2 e)
   ·exact hst.ls2.at fun o e=>oth _ o (Ne.symm s7) (hq _ o D.l2z D.l2TO D.l2i1 D.l2i2 e)
   ·obtain⟨T,flag,oT,e1,e2,e3⟩:=hb
    exact .inr ⟨T,flag,oT,oth _ _ (Ne.symm s1) e1,oth _ _ (up L5 e3) e2,e3⟩
   ·exact fun b o b1 b2 b3 b4 b5 e=>oth b o b1 (hq b o b2 b3 b4 b5 (hkeep b o b1 b2 b3 b4 b5 e))
   ·have:h.objs.size<(h'.update S (Obj.mapSeq (·.push (Value.ref h.objs.size)))).objs.size:=Heap.lt_size hp'
    omega
   ·rw[Array.toList_push,hacc,List.map_append];rfl
   ·exact hG.snoc (h':=h'.update S (Obj.mapSeq (·.push (Value.ref h.objs.size)))) (fun(c:Nat) o hc e=>oth c o (up L5 hc) (hq c o (up L1 hc) (up L2 hc) (up L3 hc) (up L4 hc) e)) hlo (Nat.le_refl _) (by rw[hal];exact hx) (by rw[hal];exact hy) hp'
  rcases hst.st with⟨e0,hz,a,b,hTO⟩|⟨T,flag,oT,hz,hT,hTlo⟩
  ·refine wpAny_bind (rT (s:={s with heap:=h,toks:=tk}) D hz hst.ti hTO hst.it1 hst.it2 hst.ls1 hst.ls2 hx hy fun h' a1 a2 a3 a4 a5 a6 hq=>?_)
   exact next h' ⟨h.objs.size,false,_,a1,a5,hlo⟩ a3 a4 a5 hq
  ·refine wpAny_bind (kX (s:={s with heap:=h,toks:=tk}) D hz hT hst.ti hst.it1 hst.it2 hst.ls1 hst.ls2 hx hy fun h' a1 a3 a4 a5 hq=>?_)
   exact next h' ⟨T,true,oT,a1,hq T oT (up L1 hTlo) (up L3 hTlo) (up L4 hTlo) hT,hTlo⟩ a3 a4 a5 fun c o c1 _ c3 c4 e=>hq c o c1 c3 c4 e
end
section
variable {prog:Program}{w:World}{A:Around}{E:Value->Shared->Prop}{s:Shared}{b1 b2:Bool}
theorem kZ{l1 l2 n:Nat}{xs ys:Array Value}{Q:Value->Shared->Prop}(hh:A.handled=none)(hl1:gx b1 s.heap l1 xs)(hl2:gx b2 s.heap l2 ys)(hnx:n<=xs.size)(hny:n<=ys.size)(hend:xs[n]?=none\/ys[n]?=none)(hn:n<=sizeLine)
  (hQ:∀h' tk acc c (as:List Nat),(∀b o,s.heap.get? b=some o->h'.get? b=some o)->h'.get? (s.heap.objs.size+5)=some {cls:=.type "list",dict:=none,data:=.seq acc c,slots:=#[]}->as.length=n->gp h' (s.heap.objs.size+6) xs ys as ->
   acc.toList=as.map Value.ref->Q (.ref (s.heap.objs.size+5)) {s with heap:=h',toks:=tk}) :
  wpAny (model prog w) A (call (.type "zip") [.ref l1,.ref l2]) (fun v s1=>wpAny (model prog w) A (call (.type "list") [v]) Q E s1) E s:=by
 have lt1:l1<s.heap.objs.size:=by obtain⟨_,e⟩:=hl1.got;exact Heap.lt_size e
 have lt2:l2<s.heap.objs.size:=by obtain⟨_,e⟩:=hl2.got;exact Heap.lt_size e
 refine rS hl1 hl2 fun g hz hTI hTO h1 h2 hsz hk=>?_
 have D:ZipApart (s.heap.objs.size+4) (s.heap.objs.size+2) (s.heap.objs.size+3) s.heap.objs.size (s.heap.objs.size+1) l1 l2:=by
  refine⟨?_,?_,?_,?_,?_,?_,?_,?_,?_,?_,?_,?_,?_,?_,?_,?_,?_,?_⟩<;>(show @Ne Nat _ _;omega)
 have hS:(g.push {cls:=.type "list",data:=.seq #[]}).get? g.objs.size=some {cls:=.type "list",data:=.seq #[]}:=Heap.get?_push_size _ rfl
 refine callType_codes (Q₁:=fun obj s₁=>obj=.ref g.objs.size/\s₁={s with heap:=g.push {cls:=.type "list",data:=.seq #[]}}) PySem.F.called_list (PySem.F.typeCall_list_1 _) PySem.F.entry_list_init
  (code_list_new _ ⟨rfl,rfl⟩) fun obj s₁ h₁=>?_
 obtain⟨rfl,rfl⟩:=h₁
 refine⟨⟨_,hS,rfl⟩,PySem.F.args_list_init_2 _ _,?_⟩
 show wpAny _ A.in1.in1 (do let old ←Builtin.List.listItems (.ref g.objs.size);Builtin.List.listUpdate (.ref g.objs.size) (fun _=>#[]);letGo old.toList.reverse;Builtin.List.listExtendWith (.ref g.objs.size) (.ref (s.heap.objs.size+4)) .none) _ _ _
 refine wpAny_bind ?_
 unfold Builtin.List.listItems
 refine wpAny_bind (wpAny_seqItems hS rfl (wpAny_pure ?_))
 show wpAny _ A.in1.in1 (updateSeq g.objs.size (fun _=>#[])>>=fun _=>letGo (#[]:Array Value).toList.reverse>>=fun _=>Builtin.List.listExtendWith (.ref g.objs.size) (.ref (s.heap.objs.size+4)) .none) _ _ _
 refine wpAny_bind (wpAny_updateSeq hS rfl ?_)
 have hS₂:=Heap.get?_update_self (Obj.mapSeq (fun _=>(#[]:Array Value))) hS rfl
 have oth:∀b o,g.get? b=some o->((g.push {cls:=.type "list",data:=.seq #[]}).update g.objs.size (Obj.mapSeq (fun _=>(#[]:Array Value)))).get? b=some o :=
  fun b o e=>(Heap.get?_update_other _ _ (Nat.ne_of_gt (Heap.lt_size e))).trans (Heap.get?_push_of_some _ e)
 generalize hg2:(g.push {cls:=.type "list",data:=.seq #[]}).update g.objs.size (Obj.mapSeq (fun _=>(#[]:Array Value)))=g2 at hS₂ oth⊢
 refine wpAny_bind (wpAny_letGo ?_)
 have hT2:Shared.TypeIs {s with heap:=g2} (.ref (s.heap.objs.size+4)) "zip":=⟨_,oth _ _ hz,rfl⟩
 unfold Builtin.List.listExtendWith
 refine wpAny_bind (wpAny_typeOf hT2 ?_)
 have q1:Builtin.List.listSameRef (.ref g.objs.size) (.ref (s.heap.objs.size+4))=false:=by
  simp only[Builtin.List.listSameRef,beq_eq_false_iff_ne]
  intro z
  have z':(g.objs.size:Nat)=s.heap.objs.size+4:=z
  omega
 have q2:(Value.type "zip" == Value.type "list")=false:=by decide
 have q3:(Value.type "zip" == Value.type "tuple")=false:=by decide
 simp only[q1,q2,q3,Bool.or_false,Bool.false_eq_true,if_false]
 refine wpAny_bind (wpAny_pyIter_zip (s:={s with heap:=g2}) (oth _ _ hz) ?_)
 refine wpAny_bind (wpAny_holding ?_)
 unfold Builtin.List.listLengthHint
 refine wpAny_bind (wpAny_specialOf hT2 qz ?_)
 show wpAny _ A.in1.in1 (specialOf (Value.ref (s.heap.objs.size+4)) (Str.ofString "__length_hint__")>>=_) _ _ _
 refine wpAny_bind (wpAny_specialOf hT2 oM ?_)
 refine wpAny_pure ?_
 show wpAny _ A.in1.in1 (rule "list.extend.makes-room">>=fun _=>Builtin.List.listTouch (.ref g.objs.size)>>=fun _ =>
  again (.builtin "list.extend.loop" ⟨[.ref g.objs.size,.ref (s.heap.objs.size+4),.none],[]⟩)) _ _ _
 refine wpAny_bind (wpAny_rule ?_)
 refine wpAny_bind ?_
 show wpAny _ A.in1.in1 (updateSeq g.objs.size (·.push .none)>>=fun _=>updateSeq g.objs.size (·.pop)) _ _ _
 refine wpAny_bind (wpAny_updateSeq hS₂ rfl ?_)
 have hS₃:=Heap.get?_update_self (Obj.mapSeq (·.push Value.none)) hS₂ rfl
 refine wpAny_updateSeq (hz:=by seq_fits) hS₃ rfl ?_
 have hS₄:=Heap.get?_update_self (Obj.mapSeq (·.pop)) hS₃ rfl
 have oth2:∀b o,b≠g.objs.size->g2.get? b=some o->((g2.update g.objs.size (Obj.mapSeq (·.push Value.none))).update g.objs.size (Obj.mapSeq (·.pop))).get? b=some o :=
  fun b o hb e=>(Heap.get?_update_other _ _ (Ne.symm hb)).trans ((Heap.get?_update_other _ _ (Ne.symm hb)).trans e)
 have all:∀b o,g.get? b=some o->((g2.update g.objs.size (Obj.mapSeq (·.push Value.none))).update g.objs.size (Obj.mapSeq (·.pop))).get? b=some o:=fun b o e=>oth2 b o (Nat.ne_of_lt (Heap.lt_size e)) (oth b o e)
 generalize hg3:(g2.update g.objs.size (Obj.mapSeq (·.push Value.none))).update g.objs.size (Obj.mapSeq (·.pop))=g3 at hS₄ all⊢
 have hlo:s.heap.objs.size+6<=g3.objs.size:=by
  have h5:(g.objs.size:Nat)<g3.objs.size:=Heap.lt_size hS₄
  have h6:(g.objs.size:Nat)=s.heap.objs.size+5:=hsz
  omega
 refine wpAny_pure ⟨plainId_quiet PySem.F.plain_extend_loop _,tR (n:=n) (s:=s) (lo:=s.heap.objs.size+6) (h₁:=g3) (A:=A.in1) hh D (by omega) (by omega) hnx hny hend hn .none (fun h' tk acc c as hq hS' hal hG hacc=>?_) n 0 g3 s.toks _ #[] [] (by omega) (Nat.zero_le _)
  ⟨all _ _ hTI,h1.at fun o e=>all _ o e,h2.at fun o e=>all _ o e,hl1.at fun o e=>all _ o (hk _ o e),hl2.at fun o e=>all _ o (hk _ o e),.inl ⟨rfl,all _ _ hz,_,_,all _ _ hTO⟩⟩ (fun _ _ _ _ _ _ _ e=>e) hlo hS₄ rfl rfl ⟨List.Pairwise.nil,(fun _ z=>nomatch z),fun _ _ z=>by simp at z⟩⟩
 have eg:g.objs.size=s.heap.objs.size+5:=hsz
 refine⟨rfl,?_⟩
 rw[eg]at hS' ⊢
 refine hQ h' tk acc c as (fun b o e=>?_) hS' hal hG hacc
 have hb:∀k,b≠s.heap.objs.size+k:=fun k=>Nat.ne_of_lt (Nat.lt_of_lt_of_le (Heap.lt_size e) (Nat.le_add_right _ k))
 exact hq b o (by rw[eg];exact hb 5) (hb 4) (hb 3) (hb 0) (hb 1) (all b o (hk b o e))
end
noncomputable def jn(K:PySem.W.Frag)(b:Bool)(H:Hp)(p:Addr)(xs:List V):Prop:=match b with|false=>bJ K H p xs|true=>aJ K H p xs
section
variable {X:Cx}{a b:Expr}{t:TA}{p1 p2 p3 p4:Pos}
theorem eS{c:Bool}{pins:List (Addr×Obj)}{σ:St}{H:Hp}{s:Shared}{p:Addr}{xs:List V}(I:Inv X pins σ H s)(h:jn X.K c H p xs):∃its:List Value,Vals xs its/\gx c s.heap p its.toArray/\xs.length<=sizeLine:=by
 cases c with
 |false =>
  obtain⟨its,rv,pl,hz⟩:=I.list h
  exact⟨its,rv,pl.isList,hz⟩
 |true =>
  obtain⟨its,rv,pl,hz⟩:=I.tuple h
  exact⟨its,rv,(show Heap.IsTuple _ _ _ by obtain⟨o,e,r⟩:=pl;exact⟨o,e,r⟩),hz⟩
noncomputable def CS(K:PySem.W.Frag)(t:TA):TE:=fun σ H Q=>t σ H fun vs H2=>∃b1 b2 p q xs ys,vs=[.ref p,.ref q]/\jn K b1 H2 p xs/\jn K b2 H2 q ys /\
 ∀(l:Addr) (ts:List Addr) (H':Hp),Ab xs ys ts H2 H'->H2 l=none->H' l=some (.lst (ts.map V.ref))->Q (.ref l) H'
theorem pJ(hc:X.calm=true)(hgl:Gl X "list")(hml:X.mg "list"=none)(hgz:Gl X "zip")(hmz:X.mg "zip"=none)(ha:PA X [a,b] t)
  (he:starEach [a,b] X.env=(false,eval a X.env)::starEach [b] X.env:=by rfl) (hpl:(backTo p2 (starEach [b] X.env)).any (·.1)=false:=by rfl)
  (he2:starEach [.Call (.Name "zip" p1) [a,b] [] p2] X.env=[(false,eval (.Call (.Name "zip" p1) [a,b] [] p2) X.env)]:=by rfl) :
  PE X (.Call (.Name "list" p3) [.Call (.Name "zip" p1) [a,b] [] p2] [] p4) (CS X.K t):=by
 intro pins s σ H Q I h
 refine wpAny_Call_Name_kw (gz I hgl hml boot_list ?_ (by decide) (by decide))
 refine PyProof.Rows.callWith_type1 ?_ he2 rfl
 rw[he2]
 refine Calls.spliced_cons ?_
 refine wpAny_Call_Name_kw (gz I hgz hmz boot_zip ?_ (by decide) (by decide))
 refine PyProof.Rows.callWith_type1 ?_ he hpl
 refine bR (ha p2 pins s σ H _ I h) fun us s1 ⟨vs,H1,I1,r1,q1⟩=>?_
 obtain⟨c1,c2,p,q,xs,ys,rfl,hx,hy,hq⟩:=q1
 obtain⟨u,w',rfl,r1,r2⟩:=vals2 r1
 cases r1
 cases r2
 obtain⟨its,rv,pl,hz⟩:=eS I1 hx
 obtain⟨jts,rw',pm,hz'⟩:=eS I1 hy
 have e1:=rv.length
 have e2:=rw'.length
 refine bR (kZ (n:=min xs.length ys.length) (Q:=EP X pins σ Q) (E:=X.xe) (I1.ok.hd hc) pl pm (by simp only[List.size_toArray];omega) (by simp only[List.size_toArray];omega) (by have:=xW (xs:=its) (ys:=jts);rw[←e1,←e2]at this;simpa using this) (by omega) fun h' tk acc ce as hk hS hal hG hacc=>?_) fun v s2 h2=>Calls.spliced_nil (by simpa using h2)
 have hSa:s1.heap.objs.size+5∉as:=fun hm=>by have:=hG.low _ hm;omega
 obtain⟨I2,zo,hn⟩:=xX (tk:=tk) (o:=.lst (as.map V.ref)) I1 rv rw' (Nat.le_add_right _ 6) hk hal hG (Nat.le_add_right _ 5) hSa
  (show b6 X.prog X.w _ _ _ (.lst _)from⟨by rw[List.length_map,hal];omega,as.map Value.ref,ce,mG as,by rw[←hacc];simpa using hS⟩)
 exact⟨.ref (s1.heap.objs.size+5),_,I2,rfl,hq _ as _ zo hn af⟩
end
section
variable {X:Cx}{pins:List (Addr×Obj)}{σ:St}{H:Hp}{s:Shared}{h':Heap}
theorem Inv.rV{t':Nat}{fp:List Addr}(I:Inv X pins σ H s)(hf:∀b∈fp,jT X pins H b)(k:∀b o,b∉fp->s.heap.get? b=some o->h'.get? b=some o):Inv X pins σ H {s with heap:=h',toks:=t'}:=by
 have nit:∀b u,H b=some u->b∉fp:=fun b u e z=>by rw[(hf b z).1]at e;cases e
 have hL:X.env.locals∉fp:=fun z=>(hf _ z).2.1 rfl
 refine I.step (g':=s.gens) (d':=s.drawn) (ch:=fp) (fun b hb=>?_) (fun b o _ _ hc e _=>k b o hc e) (fun b o _ _ hc e _=>⟨o.slots,k b o hc e⟩) (fun _ _ _ _ n=>n)
  (fun b o hc e=>⟨o,k b o hc e⟩) (fun _ _ e=>e) (fun _ _ _ e=>e) (fun b ps e=>⟨#[],by rw[e];simp⟩) (fun m hm=>?_) (fun b u e=>?_) I.bare
 ·obtain⟨_,f1,_,f3,f4,f5⟩:=hf b hb
  exact⟨f3,f1,f4,f5⟩
 ·obtain⟨o,es,ep,ho,r⟩:=hm
  exact⟨o,es,ep,k _ o hL ho,r⟩
 ·refine(I.hok b u e).stay (fun c v hc q=>k c v ?_ q) (fun _ q=>q) fun _ _ q=>q
  rcases hc with z|z
  ·rw[z];exact nit b u e
  ·exact nit c _ z
theorem Inv.rW{t':Nat}{fp:List Addr}{a:Addr}{o:HO}(I:Inv X pins σ H s)(hf:∀b∈fp,jT X pins H b)(k:∀b o,b∉fp->s.heap.get? b=some o->h'.get? b=some o)(ha:s.heap.objs.size<=a)(new:b6 X.prog X.w (upd H a o) h' a o) :
  Inv X pins σ (upd H a o) {s with heap:=h',toks:=t'}:=by
 have nit:∀b u,H b=some u->b∉fp:=fun b u e z=>by rw[(hf b z).1]at e;cases e
 have hL:X.env.locals∉fp:=fun z=>(hf _ z).2.1 rfl
 have hn:H a=none:=I.hok.fresh ha
 have up:∀b u,H b=some u->upd H a o b=some u:=fun b u e=>by rw[aq (aB e hn)];exact e
 refine I.step (g':=s.gens) (d':=s.drawn) (ch:=fp) (fun b hb=>?_) (fun b o _ _ hc e _=>k b o hc e) (fun b o _ _ hc e _=>⟨o.slots,k b o hc e⟩) (fun b ob _ e n=>?_)
  (fun b o hc e=>⟨o,k b o hc e⟩) (fun b _ e=>up b _ e) (fun b _ _ e=>up b _ e) (fun b ps e=>⟨#[],by rw[up b _ e];simp⟩) (fun m hm=>?_) (fun b u e=>?_) I.bare
 ·obtain⟨_,f1,_,f3,f4,f5⟩:=hf b hb
  exact⟨f3,f1,f4,f5⟩
 ·rw[aq (Nat.ne_of_lt (Nat.lt_of_lt_of_le (Heap.lt_size e) ha))];exact n
 ·obtain⟨o,es,ep,ho,r⟩:=hm
  exact⟨o,es,ep,k _ o hL ho,r⟩
 ·by_cases hb:b=a
  ·subst hb;rw[af]at e;cases e;exact new
  ·rw[aq hb]at e
   refine(I.hok b u e).stay (fun c v hc q=>k c v ?_ q) (fun c q=>up c _ q) fun c _ q=>up c _ q
   rcases hc with z|z
   ·rw[z];exact nit b u e
   ·exact nit c _ z
end
noncomputable def BE (K : PySem.W.Frag) (b1 : Bool) (l1 : Addr) (b2 : Bool) (l2 : Addr) : It :=
  ⟨fun i H => ∃ xs ys x y, jn K b1 H l1 xs ∧ jn K b2 H l2 ys ∧ xs[i]? = some x ∧ ys[i]? = some y,
   fun i H v H' => ∃ p x y, H p = none ∧ v = .ref p ∧ H' = upd H p (.tup [x, y]) ∧ (∀ xs, jn K b1 H l1 xs → xs[i]? = some x) ∧ ∀ ys, jn K b2 H l2 ys → ys[i]? = some y,
   fun i H => ∃ xs ys, jn K b1 H l1 xs ∧ jn K b2 H l2 ys ∧ (xs.length ≤ i ∨ ys.length ≤ i)⟩
theorem jn.inj{X:Cx}{pins:List (Addr×Obj)}{σ:St}{H:Hp}{s:Shared}{b:Bool}{a:Addr}{xs ys:List V}(I:Inv X pins σ H s)(h:jn X.K b H a xs)(h2:jn X.K b H a ys):xs=ys:=by
 cases b with
 |false=>exact I.om h h2
 |true=>exact I.jw h h2
theorem vP{P:Program}{w:World}{K:PySem.W.Frag}{elts:List Expr}{x1:Nat}{pos:Pos}{b1 b2:Bool}(z TI TO i1 i2 l1 l2:Addr)(D:ZipApart z TI TO i1 i2 l1 l2):Turn P w K (.Tuple elts x1 pos) (BE K b1 l1 b2 l2) [z,TI,TO,i1,i2] z
  (fun i h=>IsZip h z TI TO .none/\IsPair h TI (.ref i1) (.ref i2)/\(∃a b,IsPair h TO a b)/\fh b1 h i1 l1 i/\fh b2 h i2 l2 i) where
 mem:=by simp
 obj:=fun i h st b hb=>by
  obtain⟨hz,hTI,⟨a,c,hTO⟩,h1,h2⟩:=st
  have itc:∀{b:Bool}{i l:Addr}{k:Nat},fh b h i l k->∃o,h.get? i=some o/\∀v,o.data≠.cell v:=fun{b i l k} q=>by
   cases b with
   |false=>obtain⟨o,e,_,d⟩:=(show h.IsListIter i l k from q);exact⟨o,e,fun v z=>by rw[d]at z;cases z⟩
   |true=>obtain⟨o,e,_,d⟩:=(show h.IsTupleIter i l k from q);exact⟨o,e,fun v z=>by rw[d]at z;cases z⟩
  simp only[List.mem_cons,List.not_mem_nil,or_false]at hb
  rcases hb with rfl|rfl|rfl|rfl|rfl
  ·exact⟨_,hz,fun v z=>by cases z⟩
  ·exact⟨_,hTI,fun v z=>by cases z⟩
  ·exact⟨_,hTO,fun v z=>by cases z⟩
  ·exact itc h1
  ·exact itc h2
 keep:=fun i h h' st k=>by
  obtain⟨hz,hTI,⟨a,c,hTO⟩,h1,h2⟩:=st
  exact⟨k z (by simp) _ hz,k TI (by simp) _ hTI,⟨a,c,k TO (by simp) _ hTO⟩,h1.at fun o e=>k i1 (by simp) o e,h2.at fun o e=>k i2 (by simp) o e⟩
 item:=by
  intro X hP hw hK hc i pins s σ H E I hf st hg
  subst hP hw hK
  obtain⟨xs,ys,x,y,hq1,hq2,hx,hy⟩:=hg
  obtain⟨hz,hTI,⟨a,c,hTO⟩,h1,h2⟩:=st
  obtain⟨its,rv,p1,_⟩:=eS I hq1
  obtain⟨jts,rw',p2,_⟩:=eS I hq2
  obtain⟨u,hu,ru⟩:=rv.get hx
  obtain⟨v,hv,rv2⟩:=rw'.get hy
  refine rT D hz hTI hTO h1 h2 p1 p2 (x:=u) (y:=v) (by simpa using hu) (by simpa using hv) fun h' a1 a2 a3 a4 a5 a6 hk=>?_
  refine⟨.ref s.heap.objs.size,rfl,wpAny_letOwnedTupleGo_zip (s:={s with heap:=h'}) a1 fun h2' hz' hs'=>?_⟩
  have np:∀b∈[z,TI,TO,i1,i2],b≠s.heap.objs.size:=fun b hb e=>by
   obtain⟨o,e2⟩:∃o,s.heap.get? b=some o:=by
    simp only[List.mem_cons,List.not_mem_nil,or_false]at hb
    rcases hb with rfl|rfl|rfl|rfl|rfl
    ·exact⟨_,hz⟩
    ·exact⟨_,hTI⟩
    ·exact⟨_,hTO⟩
    ·exact h1.got
    ·exact h2.got
   have:=Heap.lt_size e2
   rw[e]at this
   exact Nat.lt_irrefl _ this
  have kk:∀b o,b∉[z,TI,TO,i1,i2]->s.heap.get? b=some o->h2'.get? b=some o:=fun b o hb e=>by
   simp only[List.mem_cons,List.not_mem_nil,or_false,not_or]at hb
   obtain⟨n1,n2,n3,n4,n5⟩:=hb
   exact hs'.extBut _ _ n1 (hk b o n1 n3 n4 n5 e)
  have a5':IsPair h2' s.heap.objs.size u v:=hs'.extBut _ _ (np z (by simp)).symm a5
  refine⟨.ref s.heap.objs.size,upd H s.heap.objs.size (.tup [x,y]),I.rW (t':=s.toks) hf kk (Nat.le_refl _) ⟨(by show 2<=sizeLine;decide),_,.cons ru (.cons rv2 .nil),⟨_,a5',rfl,_,rfl⟩,_,a5',rfl⟩,rfl,
   ⟨_,x,y,I.hok.fresh (Nat.le_refl _),rfl,rfl,fun zs hz2=>by rw[jn.inj I hz2 hq1];exact hx,fun zs hz2=>by rw[jn.inj I hz2 hq2];exact hy⟩,?_,fun b hb=>?_⟩
  ·exact⟨hz',hs'.extBut _ _ D.TIz (hk TI _ D.TIz D.TITO D.TIi1 D.TIi2 hTI),⟨u,v,hs'.extBut _ _ D.TOz a2⟩,a3.extBut hs'.extBut D.i1z,a4.extBut hs'.extBut D.i2z⟩
  ·rw[aq (np b hb)];exact(hf b hb).1
 done:=by
  intro X hP hw hK hc i pins s σ H E I hf st hg
  subst hP hw hK
  obtain⟨xs,ys,hq1,hq2,hl⟩:=hg
  obtain⟨hz,hTI,⟨a,c,hTO⟩,h1,h2⟩:=st
  obtain⟨its,rv,p1,_⟩:=eS I hq1
  obtain⟨jts,rw',p2,_⟩:=eS I hq2
  have e1:=rv.length
  have e2:=rw'.length
  refine vO (I.ok.hd hc) D hz hTI hTO h1 h2 p1 p2 ?_ fun h' hk=>⟨rfl,I.rV (t':=s.toks) hf fun b o hb e=>?_⟩
  ·rcases hl with hl|hl
   ·left;simp;omega
   ·right;simp;omega
  ·simp only[List.mem_cons,List.not_mem_nil,or_false,not_or]at hb
   exact hk b o hb.1 hb.2.2.1 hb.2.2.2.1 hb.2.2.2.2 e
 self:=fun _ _ _ _ _ st h=>wpAny_pyIter_zip st.1 h
noncomputable def CT(K:PySem.W.Frag)(t:TA):TI:=fun σ H R=>t σ H fun vs H2=>∃b1 b2 p q xs ys,vs=[.ref p,.ref q]/\jn K b1 H2 p xs/\jn K b2 H2 q ys/\R (BE K b1 p b2 q) H2
theorem Ao{X:Cx}{a b:Expr}{t:TA}{p1 p2 pos:Pos}{elts:List Expr}{x1:Nat}(K:PySem.W.Frag)(hK:X.K=K)(hg:Gl X "zip")(hm:X.mg "zip"=none)(ha:PA X [a,b] t)
  (he:starEach [a,b] X.env=(false,eval a X.env)::starEach [b] X.env:=by rfl) (hpl:(backTo p2 (starEach [b] X.env)).any (·.1)=false:=by rfl):PI X (.Tuple elts x1 pos) (.Call (.Name "zip" p1) [a,b] [] p2) (CT K t):=by
 subst hK
 intro pins s σ H R I h
 refine wpAny_Call_Name_kw (gz I hg hm boot_zip ?_ (by decide) (by decide))
 refine PyProof.Rows.callWith_type1 ?_ he hpl
 refine bR (ha p2 pins s σ H _ I h) fun us s1 ⟨vs,H1,I1,r1,q1⟩=>?_
 obtain⟨c1,c2,p,q,xs,ys,rfl,hx,hy,hq⟩:=q1
 obtain⟨u,w',rfl,r1,r2⟩:=vals2 r1
 cases r1
 cases r2
 obtain⟨its,rv,pl,_⟩:=eS I1 hx
 obtain⟨jts,rw',pm,_⟩:=eS I1 hy
 have lt1:@LT.lt Nat _ p s1.heap.objs.size:=by obtain⟨_,e⟩:=pl.got;exact Heap.lt_size e
 have lt2:@LT.lt Nat _ q s1.heap.objs.size:=by obtain⟨_,e⟩:=pm.got;exact Heap.lt_size e
 refine rS pl pm fun g hz hTI hTO h1 h2 hsz hk=>?_
 have D:ZipApart (s1.heap.objs.size+4) (s1.heap.objs.size+2) (s1.heap.objs.size+3) s1.heap.objs.size (s1.heap.objs.size+1) p q:=by
  refine⟨?_,?_,?_,?_,?_,?_,?_,?_,?_,?_,?_,?_,?_,?_,?_,?_,?_,?_⟩<;>(show @Ne Nat _ _;omega)
 refine wpAny_pyIter_zip (s:={s1 with heap:=g}) hz ?_
 refine⟨s1.heap.objs.size+4,[s1.heap.objs.size+4,s1.heap.objs.size+2,s1.heap.objs.size+3,s1.heap.objs.size,s1.heap.objs.size+1],_,_,H1,rfl,I1.kept (t':=s1.toks) hk,vP _ _ _ _ _ p q D,⟨hz,hTI,⟨_,_,hTO⟩,h1,h2⟩,fun b hb=>?_,hq⟩
 have hb':s1.heap.objs.size<=b:=by
  simp only[List.mem_cons,List.not_mem_nil,or_false]at hb
  rcases hb with rfl|rfl|rfl|rfl|rfl
  ·exact Nat.le_add_right _ 4
  ·exact Nat.le_add_right _ 2
  ·exact Nat.le_add_right _ 3
  ·exact Nat.le_refl _
  ·exact Nat.le_add_right _ 1
 exact I1.uA hb' (I1.hok.fresh hb')
theorem yl{K:PySem.W.Frag}{b1 b2:Bool}{a b:Addr}{xs ys:List V}{g:TG}{tb:TS}{D:Ends}{σ:St}{H:Hp}(Pv:Nat->St->Hp->Prop)(h0:Pv 0 σ H)(hl1:∀i σ H,i<=min xs.length ys.length->Pv i σ H->jn K b1 H a xs)(hl2:∀i σ H,i<=min xs.length ys.length->Pv i σ H->jn K b2 H b ys)
  (hs:∀i x y σ H p,xs[i]?=some x->ys[i]?=some y->Pv i σ H->H p=none->g (.ref p) σ (upd H p (.tup [x,y])) fun σ2 H2=>tb {D with nx:=Pv (i+1),ct:=Pv (i+1),bk:=D.nx} σ2 H2) (hd:∀σ H,Pv (min xs.length ys.length) σ H->D.nx σ H) :
  ∃W:Nat->Nat->St->Hp->Prop,(∃m,W 0 m σ H)/\∀i m σ H,W i m σ H ->
   ((BE K b1 a b2 b).stop i H/\D.nx σ H)\/((BE K b1 a b2 b).go i H/\∃N:St->Hp->Prop,(∀σ' H',N σ' H'->∃m',m' < m/\W (i+1) m' σ' H')/\∀x H',(BE K b1 a b2 b).yld i H x H'->g x σ H' fun σ2 H2=>tb {D with nx:=N,ct:=N,bk:=D.nx} σ2 H2):=by
 generalize hn:min xs.length ys.length=n at *
 refine⟨fun i m σ H=>m=n-i/\i<=n/\Pv i σ H,⟨n,by simp,Nat.zero_le _,h0⟩,?_⟩
 rintro i m σ H ⟨rfl,hi,p⟩
 have q1:=hl1 i σ H hi p
 have q2:=hl2 i σ H hi p
 by_cases hlt:i<n
 ·have k1:i<xs.length:=by omega
  have k2:i<ys.length:=by omega
  refine .inr ⟨⟨xs,ys,xs[i],ys[i],q1,q2,by simp[k1],by simp[k2]⟩,Pv (i+1),fun σ' H' p'=>⟨n - (i+1),by omega,rfl,hlt,p'⟩,fun x H' y=>?_⟩
  obtain⟨pp,x',y',hp,rfl,rfl,e1,e2⟩:=y
  exact hs i x' y' σ H pp (e1 xs q1) (e2 ys q2) p hp
 ·have e:i=n:=by omega
  subst e
  exact .inl ⟨⟨xs,ys,q1,q2,by omega⟩,hd σ H p⟩
section
variable {g:TG}{tt:TT}{te:TE}{Q:VK}{σ0:St}{H0:Hp}
end
end L2
namespace G04
open PySem L2
noncomputable def iG(ns:List Str):Hd->List (Int×List Str)
 |.gap n=>[(n,ns)]
 |_=>[]
mutual
noncomputable def hnd(ns:List Str):Tm->List (Int×List Str)
 |.mk h ks=>iG ns h++ie ns (bnd h ks.length) ks
noncomputable def ie(ns:List Str):List (List Str)->List Tm->List (Int×List Str)
 |b::bs,k::ks=>hnd (bE ns b) k++ie ns bs ks
 |_,_=>[]
end
noncomputable def lA(ns:List Str)(l:List (List Str×Tm)):List (Int×List Str):=l.flatMap fun q=>hnd (bE ns q.1) q.2
theorem rX(ns:List Str):∀(bs:List (List Str)) (ks:List Tm),ie ns bs ks=lA ns (bs.zip ks)
 | [],ks=>by cases ks<;>(unfold ie;rfl)
 |b::bs,[]=>by unfold ie;rfl
 |b::bs,k::ks=>by
  unfold ie
  rw[List.zip_cons_cons,rX ns bs ks]
  rfl
mutual
theorem nO:∀(tm:Tm) (ns:List Str),(hnd ns tm).length<=tm.size
 |.mk h ks,ns=>by
  unfold hnd
  rw[List.length_append,Tm.cF]
  have h1:=pK ks (bnd h ks.length) ns
  have h2:(iG ns h).length<=1:=by cases h<;>simp[iG]
  omega
theorem pK:∀(ks:List Tm) (bs:List (List Str)) (ns:List Str),(ie ns bs ks).length<=Tm.sizes ks
 | [],bs,ns=>by cases bs<;>(unfold ie;exact Nat.zero_le _)
 |k::ks,[],ns=>by unfold ie;exact Nat.zero_le _
 |k::ks,b::bs,ns=>by
  unfold ie
  rw[List.length_append,Tm.bG]
  have:=nO k (bE ns b)
  have:=pK ks bs ns
  omega
end
theorem rY(ns:List Str):∀(l:List (List Str×Tm)) (i:Nat) (q:List Str×Tm),l[i]?=some q->(lA ns (l.take i)).length+q.2.size<=Tm.sizes (l.map (·.2))
 |x::r,0,q,h=>by
  obtain rfl:x=q:=by simpa using h
  rw[List.map_cons,Tm.bG]
  show 0+_<=_
  omega
 |x::r,i+1,q,h=>by
  rw[List.getElem?_cons_succ]at h
  have ih:=rY ns r i q h
  have h1:=nO x.2 (bE ns x.1)
  rw[List.map_cons,Tm.bG,List.take_succ_cons]
  unfold lA at ih⊢
  rw[List.flatMap_cons,List.length_append]
  omega
theorem rZ:∀(os:List Str) {ns:List Str},ns.Nodup->(bE ns os).Nodup
 | [],_,h=>h
 |o::r,_,h=>rZ r (nJ (o:=o) h)
noncomputable def hT(g:Int×List Str):T:=.t [.i g.1,.t (g.2.map .s)]
noncomputable def eX(lf:Addr)(H H':Hp):Prop:=∀b o,b≠lf->H b=some o->H' b=some o
theorem eX.trans{lf:Addr}{H H1 H2:Hp}(a:eX lf H H1)(b:eX lf H1 H2):eX lf H H2:=fun c o n e=>b c o n (a c o n e)
theorem eX.same{lf:Addr}{H H1:Hp}(s:aL H H1):eX lf H H1:=fun c o _ e=>s c o e
theorem eX.kt{lf:Addr}{H H1:Hp}{xs:List V}(a:eX lf H H1)(h:H lf=some (.lst xs)):Kt H H1:=fun c ys r=>by
 rcases r with e|⟨o,e⟩
 ·exact .inl (a c _ (fun z=>by subst z;rw[h]at e;cases e) e)
 ·exact .inr ⟨o,a c _ (fun z=>by subst z;rw[h]at e;cases e) e⟩
noncomputable def jo(K:PySem.W.Frag)(n:Nat):Sp:=fun vs H Q _=>∃(v:V) (ar lf:Addr) (tm:Tm) (ns:List Str) (done:List (Int×List Str)) (xs:List V),vs=[v,.ref ar,.ref lf]/\Rp K H (enc tm) v/\Wn tm/\tm.depth<n/\H ar=some (.lst (ns.map V.str))/\ns.Nodup/\ns.length+2*tm.size<=900/\ar≠lf/\H lf=some (.lst xs)/\aM K H (done.map hT) xs/\done.length+tm.size<=900 /\
 ∀(H':Hp) (ys:List V),eX lf H H'->H' lf=some (.lst ys)->aM K H' ((done++hnd ns tm).map hT) ys->Q (.ref lf) H'
noncomputable def gr(H:Hp)(lf:Addr)(ns:List Str)(bs:List (List Str))(vs:List V):Prop:=vs.length=bs.length/\∀(i:Nat) (b:List Str),bs[i]?=some b->∃a,vs[i]?=some (.ref a)/\a≠lf/\H a=some (.lst ((bE ns b).map V.str))
section
variable {P:Program}{w:World}{K:PySem.W.Frag}{mg:Str->Option Value}{base:Heap}{gW gH gN:Addr}{wfd hfd nfd:FuncData}
theorem aN:Nm ["_law_term_here","_law_around","_law_found","_law_some","_law_inner","_law_own"] (aj b9):=by decide +kernel
theorem gh:Lm ["_law_term_here","_law_around","_law_found","_law_some","_law_inner","_law_own"] (aj b9):=by decide +kernel
theorem eT:aZ ["_law_term_here","_law_around","_law_found","_law_some","_law_inner","_law_own"] ["_law_term_here","_law_around","_law_found"] (aj b9):=⟨rfl,rfl,rfl,by decide +kernel,rfl,by decide +kernel,by decide +kernel⟩
theorem eU{n j:Nat}(hj:1<=j){f:Addr}{cdv:Value}{A:Around}{outer:List PySem.Env}{s:Shared}{H0:Hp}{E:XK}(WI:cR P w K mg base "_law_within" 1 ["_law_term_here"] (fO K) gW wfd)(HA:cR P w K mg base "_law_hands" j ["_law_term_here","_law_around","_law_found"] (jo K n) gH hfd)(z_zip:mg "zip"=none)(hr:eW j (A.deeper (PyProof.Rows.envOfC "_law_hands" (aj b9) s.heap.objs.size f cdv)))
  {D:L2.Ends}{H:Hp}{v:V}{ar lf ls:Addr}{tm:Tm}{ns:List Str}{done:List (Int×List Str)}{xs vs:List V}{o1 o2:Option V}(hv:Rp K H (enc tm) v) (wf:Wn tm) (hd:tm.depth<n+1) (hn:ns.Nodup) (hl:ns.length+2*tm.size<=900) (hf:H lf=some (.lst xs)) (rd0:aM K H (done.map hT) xs) (hdl:done.length+tm.size<=901) (hs:H ls=some (.lst vs)) (hsf:ls≠lf) (how:gr H lf ns (bnd tm.hd tm.ks.length) vs)
  (k:∀(H':Hp) (ys:List V),eX lf H H'->H' lf=some (.lst ys)->aM K H' ((done++lA ns (right tm)).map hT) ys->D.rt (.ref lf) H') :
  tI (nq gv P w K mg base ["_law_term_here","_law_around","_law_found","_law_some","_law_inner","_law_own"] "_law_hands" (aj b9) f cdv A outer s H0 E).zy ((bW b9).drop 5) D [some v,some (.ref ar),some (.ref lf),some (.ref ls),o1,o2] H:=by
 refine vq ((Z6 (@fV _ _ _ _ _ _ _ _ PassesOwn.never rfl (Ao K rfl (by show _=_;kernel_rfl) z_zip (Z1 (Z0 WI (aA (va aN 0) ah)) (aA (va aN 3) ah))) (Zc (2) (Zg (ga eT.nd gh 4) (aU (ga eT.nd gh 5) bq))) (Zh (@cS _ _ _ _ (Z0 HA (Z1 (va aN 4) (Z1 (va aN 5) (aA (va aN 2) ah)))) (by rfl))) (by intro _;rfl)) (Zh (aK (va aN 2))))) ?_
 try dsimp only[dg]
 have wf5:=wf.wf
 have hz:tm.size<=900:=by omega
 fail "R"
 intro lw H2 ws s2 hlw h2 r2
 have l2:=r2.length
 rw[List.length_map]at l2
 have hf2:=s2 _ _ hf
 have hs2:=s2 _ _ hs
 have b1:jn K false H2 lw ws:=bJ.of h2
 have b2:jn K false H2 ls vs:=bJ.of hs2
 have nlw:lw≠lf:=fun z=>by subst z;rw[hf]at hlw;cases hlw
 have rd2:=rd0.same s2
 obtain⟨hol,how⟩:=how
 have hrl:=iA tm wf5
 have hbl:(bnd tm.hd tm.ks.length).length=tm.ks.length:=by
  cases wf5 with
  |mk ar wk=>rename_i h ks;show(bnd h ks.length).length=ks.length;cases h<;>simp_all[bnd,br]
 have hmn:min ws.length vs.length=tm.ks.length:=by omega
 fail "R"
 refine yl (xs:=ws) (ys:=vs) (fun i σ H1=>(∃o1 o2,σ=[some v,some (.ref ar),some (.ref lf),some (.ref ls),o1,o2])/\eX lf H2 H1/\∃ys,H1 lf=some (.lst ys)/\aM K H1 ((done++lA ns ((right tm).take i)).map hT) ys) ⟨⟨_,_,rfl⟩,eX.same (aL.refl _),xs,hf2,by simpa[lA]using rd2⟩ ?_ ?_ ?_ ?_
 ·rintro i σ H1 hi ⟨_,ot,_⟩
  exact bJ.of (ot _ _ nlw h2)
 ·rintro i σ H1 hi ⟨_,ot,_⟩
  exact bJ.of (ot _ _ hsf hs2)
 ·rintro i x y σ H1 p hx hy ⟨⟨o1,o2,rfl⟩,ot,ys,h1,r1⟩ hp
  obtain⟨t,ht,rt⟩:=r2.get' hx
  rw[List.getElem?_map]at ht
  obtain⟨kd,hkd,rfl⟩:=Option.map_eq_some_iff.mp ht
  have hik:i<tm.ks.length:=(List.getElem?_eq_some_iff.mp hkd).1
  have hir:i<(right tm).length:=by omega
  have e2:((right tm)[i]).2=kd:=by
   have z:=congrArg (fun l=>l[i]?) (iz tm wf5)
   simp only[List.getElem?_map,List.getElem?_eq_getElem hir,hkd,Option.map_some]at z
   exact Option.some.inj z
  have eq1:(right tm)[i]?=some (right tm)[i]:=List.getElem?_eq_getElem hir
  have e1:(bnd tm.hd tm.ks.length)[i]?=some ((right tm)[i]).1:=by
   cases tm with
   |mk h ks=>exact(List.getElem?_zip_eq_some.mp (show((bnd h ks.length).zip ks)[i]?=some _ from eq1)).1
  have hqm:(right tm)[i]∈right tm:=List.getElem_mem hir
  have hq2:=mU wf _ hqm
  have hpa:=rY ns (right tm) i _ eq1
  rw[iz tm wf5]at hpa
  have hts:Tm.sizes tm.ks+1=tm.size:=by cases tm with|mk h ks=>rw[Tm.cF];rfl
  obtain⟨oa,ho,hoa,hol1⟩:=how i _ e1
  rw[hy]at ho
  obtain rfl:=Option.some.inj ho
  have hkm:kd∈tm.ks:=List.mem_of_getElem? hkd
  have hwk:Wn kd:=by
   cases wf with
   |mk a b c=>exact c kd hkm
  have hdk:kd.depth<n:=by
   cases tm with
   |mk h ks=>have:=Tm.iu (h:=h) (ks:=ks) hkm;omega
  rw[e2]at hpa
  have etk:(right tm).take (i+1)=(right tm).take i++[(right tm)[i]]:=List.take_succ_eq_append_getElem hir
  generalize(right tm)[i]=q at e1 e2 eq1 hqm hq2 hpa hol1 etk
  subst e2
  have sp:=ae hp (.tup [x,.ref oa])
  have rtd:=(rt.kt (ot.kt hf2)).same sp
  have hln:=fL q.1 ns
  have hnd2:=rZ q.1 hn
  have g3:upd H1 p (.tup [x,.ref oa]) oa=some (.lst ((bE ns q.1).map V.str)):=sp _ _ (ot _ _ hoa (s2 _ _ hol1))
  have g4:=sp _ _ h1
  have r4:=r1.same sp
  have z1:(bE ns q.1).length+2*q.2.size<=900:=by omega
  have z2:(done++lA ns ((right tm).take i)).length+q.2.size<=900:=by rw[List.length_append];omega
  fail "R"
  intro H5 ys5 o5 h5 r5
  fail "R"
  ·exact ot.trans ((eX.same sp).trans o5)
  refine⟨ys5,h5,?_⟩
  rw[etk]
  have e7:lA ns ((right tm).take i++[q])=lA ns ((right tm).take i)++hnd (bE ns q.1) q.2:=by unfold lA;rw[List.flatMap_append];simp
  rw[e7,←List.append_assoc]
  exact r5
 ·rintro σ H1 ⟨⟨o1,o2,rfl⟩,ot,ys,h1,r1⟩
  rw[hmn,←hrl,List.take_length]at r1
  fail "R"
  exact k H1 ys ((eX.same s2).trans ot) h1 r1
end
end G04
namespace G04
open PySem L2
theorem vQ{h:Hd}{ks:List Tm}(ns:List Str)(ar:br h ks.length=true):(∃n,h=.gap n/\ks=[])\/(∃(fm:Str) (r:List T),c9 h (ks.map enc)=.t (.s fm::r)/\fm≠"gap"/\fm≠"let"/\fm≠"fold"/\fm≠"match"/\bnd h ks.length=List.replicate ks.length []/\iG ns h=[])\/(∃arms,h=.mat arms)\/(∃x,h=.lt x)\/∃x y,h=.fold x y:=by
 cases h
 case gap n=>exact .inl ⟨n,rfl,by simpa[br]using ar⟩
 case mat arms=>exact .inr (.inr (.inl ⟨_,rfl⟩))
 case lt x=>exact .inr (.inr (.inr (.inl ⟨_,rfl⟩)))
 case fold x y=>exact .inr (.inr (.inr (.inr ⟨_,_,rfl⟩)))
 all_goals exact .inr (.inl ⟨_,_,rfl,by decide +kernel,by decide +kernel,by decide +kernel,by decide +kernel,rfl,rfl⟩)
theorem ym{H:Hp}{lf ar:Addr}{ns:List Str}{m:Nat}(har:H ar=some (.lst (ns.map V.str)))(haf:ar≠lf):gr H lf ns (List.replicate m []) (List.replicate m (.ref ar)):=by
 refine⟨by rw[List.length_replicate,List.length_replicate],fun i b hb=>?_⟩
 have hi:i<m:=by have:=(List.getElem?_eq_some_iff.mp hb).1;rwa [List.length_replicate]at this
 have eb:b=[]:=(List.mem_replicate.mp (List.mem_of_getElem? hb)).2
 subst eb
 exact⟨ar,by rw[List.getElem?_replicate,if_pos hi],haf,har⟩
theorem BF{H:Hp}{lf a0 a1:Addr}{ns b0 b1:List Str}(n0:a0≠lf)(h0:H a0=some (.lst ((bE ns b0).map V.str)))(n1:a1≠lf)(h1:H a1=some (.lst ((bE ns b1).map V.str))):gr H lf ns [b0,b1] [.ref a0,.ref a1]:=by
 refine⟨rfl,fun i b hb=>?_⟩
 match i,hb with
 |0,hb =>
  obtain rfl:b0=b:=by simpa using hb
  exact⟨a0,rfl,n0,h0⟩
 |1,hb =>
  obtain rfl:b1=b:=by simpa using hb
  exact⟨a1,rfl,n1,h1⟩
theorem pL{H:Hp}{lf a:Addr}{ns b:List Str}{bs:List (List Str)}{vs:List V}(n:a≠lf)(h:H a=some (.lst ((bE ns b).map V.str)))(o:gr H lf ns bs vs):gr H lf ns (b::bs) (.ref a::vs):=by
 refine⟨by rw[List.length_cons,List.length_cons,o.1],fun i c hc=>?_⟩
 cases i with
 |zero =>
  obtain rfl:b=c:=by simpa using hc
  exact⟨a,rfl,n,h⟩
 |succ i=>rw[List.getElem?_cons_succ]at hc⊢;exact o.2 i c hc
theorem gr.same{H H':Hp}{lf:Addr}{ns:List Str}{bs:List (List Str)}{vs:List V}(o:gr H lf ns bs vs)(s:aL H H'):gr H' lf ns bs vs:=⟨o.1,fun i b hb=>by
 obtain⟨a,h1,h2,h3⟩:=o.2 i b hb
 exact⟨a,h1,h2,s _ _ h3⟩⟩
theorem vR{H:Hp}{lf a:Addr}{ns b:List Str}{bs:List (List Str)}{vs:List V}(o:gr H lf ns bs vs)(n:a≠lf)(h:H a=some (.lst ((bE ns b).map V.str))):gr H lf ns (bs++[b]) (vs++[.ref a]):=by
 refine⟨by rw[List.length_append,List.length_append,o.1];rfl,fun i c hc=>?_⟩
 by_cases hi:i<bs.length
 ·rw[List.getElem?_append_left hi]at hc
  rw[List.getElem?_append_left (by rw[o.1];exact hi)]
  exact o.2 i c hc
 ·rw[List.getElem?_append_right (by omega)]at hc
  have hz:i-bs.length=0:=by
   have:=(List.getElem?_eq_some_iff.mp hc).1
   rw[List.length_singleton]at this
   omega
  rw[hz]at hc
  obtain rfl:b=c:=by simpa using hc
  refine⟨a,?_,n,h⟩
  rw[List.getElem?_append_right (by rw[o.1];omega),o.1,hz]
  rfl
theorem lB(ns:List Str)(tm:Tm):hnd ns tm=iG ns tm.hd++lA ns (right tm):=by
 cases tm with
 |mk h ks=>unfold hnd;rw[rX];rfl
section
variable {P:Program}{w:World}{K:PySem.W.Frag}{mg:Str->Option Value}{base:Heap}{gW gH gN:Addr}{wfd hfd nfd:FuncData}
theorem ig{Q:VK}{H0:Hp}{a ar:Addr}{vs:List V}(h:H0 a=some (.lst vs))(hlen:vs.length<=1000)(k:∀(p:Addr),H0 p=none->Q (.ref p) (upd H0 p (.lst (List.replicate vs.length (.ref ar))))):fF (yT K a) (cI 0) jL (dX 1) Q [none,some (.ref ar)] H0:=by
 refine cy (xs:=vs) (fun i σ us H2=>(∃x,σ=[x,some (.ref ar)])/\H2=H0/\us=List.replicate i (.ref ar)) ⟨⟨none,rfl⟩,rfl,rfl⟩ ?_ (small hlen) ?_ ?_ ?_
 ·rintro i σ us H2 hi ⟨_,_,rfl⟩
  rw[List.length_replicate];exact Nat.le_refl _
 ·rintro i σ us H2 hi ⟨_,rfl,_⟩
  exact bJ.of h
 ·rintro i x σ us H2 hx ⟨⟨x0,rfl⟩,rfl,rfl⟩
  fail "R"
  rw[List.replicate_succ']
 ·rintro σ us H2 ⟨_,rfl,rfl⟩ p hp
  exact k p hp
theorem vS{f:Addr}{fd:FuncData}{n j:Nat}(hj:1<=j)(F:iE K "_law_hands" "_law_hands" b9 f fd)(WI:cR P w K mg base "_law_within" 1 ["_law_term_here"] (fO K) gW wfd)(NR:cR P w K mg base "_law_nearer" 1 ["_law_around","_law_names_here"] (kU K) gN nfd)(HA:cR P w K mg base "_law_hands" j ["_law_term_here","_law_around","_law_found"] (jo K n) gH hfd)(z_zip:mg "zip"=none)(z_tuple:mg "tuple"=none) :
  cA P w K mg base gv (j+1) f fd ["_law_term_here","_law_around","_law_found"] (jo K (n+1)):=by
 refine F.ok eT (fun vs H Q E h=>?_) (fun cdv A outer s H vs Q E hr h=>?_)
 ·obtain⟨_,_,_,_,_,_,_,rfl,_⟩:=h
  rfl
 obtain⟨v,ar,lf,tm,ns,done,xs,rfl,hv,wf,hd,har,hn,hl,haf,hf,rd0,hdl,k⟩:=h
 refine⟨_,(Z6 (Zf (Zi cu (Z8 aD (va aN 0)) au) (Zh (@cS _ _ _ _ (Zb PySem.F.slot_list_append PySem.F.type_list_append dB (va aN 2) (Z1 (Ze (Z1 (Z8 aD (va aN 0)) (Z1 (Z5 aX z_tuple PyProof.Rows.boot_tuple (aA (va aN 1) ah)) ah))) ah)) (by rfl)))) (Z6 (@kH _ _ _ _ _ _ _ _ _ _ _ _ _ _ _ (aj b9) ["_law_term_here","_law_around","_law_found","_law_some","_law_inner","_law_own"] ["_law_inner"] [1] rfl rfl rfl (by decide +kernel) (@cO _ _ _ _ (Z0 WI (aA (va aN 0) ah))) (fun _ _ _ _=>(Z2 (i:=0) (show(["_law_inner","_law_around"]:List Str).Nodup by decide +kernel))) (fun _ _ _ _=>fE) (fun _ _ _ _=>(va (show Nm ["_law_inner","_law_around"] _ by show _=_;kernel_rfl) 1)) (ga eT.nd gh 3) (by kernel_rfl) (by intro _;rfl)) (Z6 (Zf (Zi cu (Z8 aD (va aN 0)) au) (Zh (@fT _ _ _ _ _ _ (Z0 NR (Z1 (va aN 1) (Z1 (@bj _ _ _ _ (Z1 (Z8 aD (va aN 0)) ah)) ah))) (j8 (va aN 3) ak set_list) (by rfl) (by rfl) (by rfl)))) (Z6 (Zf (Zi cu (Z8 aD (va aN 0)) au) (Zh (@fT _ _ _ _ _ _ (Z0 NR (Z1 (va aN 1) (Z1 (@bj _ _ _ _ (Z1 (Z8 aD (va aN 0)) (Z1 (Z8 aD (va aN 0)) ah))) ah))) (j8 (va aN 3) ak set_list) (by rfl) (by rfl) (by rfl)))) (Z6 (Zf (Zi cu (Z8 aD (va aN 0)) au) (Zh (Z3 eT.nd gh 3 (Zj iO (@bj _ _ _ _ (aA (va aN 1) ah)) (Z4 (aj b9) ["_law_term_here","_law_around","_law_found","_law_some","_law_inner","_law_own"] ["_law_t","_law_names_here","_law_inner"] [1] (@b7 _ _ _ _ (Z8 aD (va aN 0))) (fun _ _ _ _=>(Zc (3) (Zg (Z2 (i:=0) (show(["_law_t","_law_names_here","_law_inner","_law_around"]:List Str).Nodup by decide +kernel)) (Zg (Z2 (i:=1) (show(["_law_t","_law_names_here","_law_inner","_law_around"]:List Str).Nodup by decide +kernel)) (aU (Z2 (i:=2) (show(["_law_t","_law_names_here","_law_inner","_law_around"]:List Str).Nodup by decide +kernel)) bq))))) (fun _ _ _ _=>(Z0 NR (Z1 (va (show Nm ["_law_t","_law_names_here","_law_inner","_law_around"] _ by show _=_;kernel_rfl) 3) (aA (va (show Nm ["_law_t","_law_names_here","_law_inner","_law_around"] _ by show _=_;kernel_rfl) 1) ah))))))))) rG))))),?_⟩
 try dsimp only[dg]
 try dsimp only[dg]
 have wf5:=wf.wf
 have hk:=jO tm
 have hz:tm.size<=900:=by omega
 refine jg ?_
 intro N1 N2 N3 N4 N5 c1 c2 c3 c4 c5
 obtain⟨h,ks⟩:=tm
 have ar0:br h ks.length=true:=by cases wf5 with|mk a b=>exact a
 rcases vQ ns ar0 with⟨m,rfl,rfl⟩|⟨fm,r,he,n1,n2,n3,n4,hb,hg⟩|⟨arms,rfl⟩|⟨x,rfl⟩|⟨x,y,rfl⟩
 ·have hv0:=hv
  rw[aW]at hv0
  obtain⟨a,u1,u2,rfl,hS,g1,g2⟩:=(show Rp K H (.t [.s "gap",.i m]) v from hv0).t2
  obtain rfl:=g1.aI
  obtain rfl:=g2.cX
  have lxs:=rd0.length
  rw[List.length_map]at lxs
  fail "R"
  refine .inl ⟨bJ.of har,fun lt hlt=>?_⟩
  have s1:=ae hlt (.tup (ns.map V.str))
  have h1t:upd H lt (.tup (ns.map V.str)) lt=some (.tup (ns.map V.str)):=af
  generalize upd H lt (.tup (ns.map V.str))=H1 at s1 h1t⊢
  fail "R"
  intro p2 hp2
  have s2:=ae hp2 (.tup [.int m,.ref lt])
  have h2p:upd H1 p2 (.tup [.int m,.ref lt]) p2=some (.tup [.int m,.ref lt]):=af
  have s12:=s1.trans s2
  have h2t:=s2 _ _ h1t
  have h2f:=s12 _ _ hf
  have lz:xs.length<sizeLine:=aC (by omega)
  generalize upd H1 p2 (.tup [.int m,.ref lt])=H2 at s2 h2p s12 h2t h2f⊢
  have k3:Kt H2 (upd H2 lf (.lst (xs++[.ref p2]))):=Kt.lst h2f _
  have hS3:=(aJ.same s12 hS).kt k3
  have o3:eX lf H (upd H2 lf (.lst (xs++[.ref p2]))):=fun b o nb e=>by rw[aq nb];exact s12 _ _ e
  have h3f:upd H2 lf (.lst (xs++[.ref p2])) lf=some (.lst (xs++[.ref p2])):=af
  have hv3:Rp K (upd H2 lf (.lst (xs++[.ref p2]))) (enc (.mk (.gap m) [])) (.ref a):=(hv.same s12).kt k3
  have rd3:aM K (upd H2 lf (.lst (xs++[.ref p2]))) ((done++[(m,ns)]).map hT) (xs++[.ref p2]):=by
   rw[List.map_append]
   exact((rd0.same s12).kt k3).snoc (Rp.t ((aJ.of h2p).kt k3) (.cons .i (.one (Rp.t ((aJ.of h2t).kt k3) (aM.strs ns)))))
  have h3a:upd H2 lf (.lst (xs++[.ref p2])) ar=some (.lst (ns.map V.str)):=o3 _ _ haf har
  fail "R"
  generalize upd H2 lf (.lst (xs++[.ref p2]))=H3 at k3 hS3 o3 h3f hv3 rd3 h3a⊢
  intro lw H4 ws s4 hlw h4 r4
  have l4:=r4.length
  rw[List.length_map]at l4
  obtain rfl:=(show aM K H4 [] ws from r4).cG
  have hS4:=aJ.same s4 hS3
  fail "R"
  refine ig h4 (Nat.zero_le _) fun ls hls=>?_
  have s5:=ae hls (.lst (List.replicate ([]:List V).length (.ref ar)))
  have s45:=s4.trans s5
  have h5s:upd H4 ls (.lst (List.replicate ([]:List V).length (.ref ar))) ls=some (.lst []):=af
  have hS5:=aJ.same s45 hS3
  have nls:ls≠lf:=fun z=>by subst z;rw[s4 _ _ h3f]at hls;cases hls
  generalize upd H4 ls (.lst (List.replicate ([]:List V).length (.ref ar)))=H5 at s5 s45 h5s hS5⊢
  fail "R"
  refine eU (ns:=ns) hj WI HA z_zip hr (hv3.same s45) wf hd hn hl (s45 _ _ h3f) (rd3.same s45) (by rw[List.length_append];show done.length+1+1<=901;have:(Tm.mk (.gap m) []).size=1:=rfl;omega) h5s nls ⟨rfl,fun i b hb=>by cases(show([]:List (List Str))[i]?=some b from hb)⟩ fun H' ys ot h' r'=>?_
  refine k H' ys (o3.trans ((eX.same s45).trans ot)) h' ?_
  rw[lB]
  rw[List.append_assoc]at r'
  exact r'
 ·have hv0:=hv
  rw[aW,he]at hv0
  obtain⟨a,vs,rfl,hS,hr0⟩:=hv0.aH
  obtain⟨v0,q0,rfl,e0,hr1⟩:=hr0.inv
  obtain rfl:=e0.aI
  have a0:=Cc (V.str fm) q0
  fail "R"
  refine dh (uh n1) ?_
  fail "R"
  intro lw H2 ws s2 hlw h2 r2
  have l2:=r2.length
  rw[List.length_map]at l2
  have hS2:=aJ.same s2 hS
  fail "R"
  refine ig h2 (by rw[l2];have:(Tm.mk h ks).ks.length<(Tm.mk h ks).size:=hk;omega) fun ls hls=>?_
  have s3:=ae hls (.lst (List.replicate ws.length (.ref ar)))
  have s23:=s2.trans s3
  have h3s:upd H2 ls (.lst (List.replicate ws.length (.ref ar))) ls=some (.lst (List.replicate ws.length (.ref ar))):=af
  have hS3:=aJ.same s23 hS
  have nls:ls≠lf:=fun z=>by subst z;rw[s2 _ _ hf]at hls;cases hls
  rw[l2]at s3 s23 h3s hS3⊢
  generalize upd H2 ls (.lst (List.replicate (Tm.mk h ks).ks.length (.ref ar)))=H3 at s3 s23 h3s hS3⊢
  fail "R"
  refine dh (uh n2) ?_
  fail "R"
  refine dh (uh n3) ?_
  fail "R"
  refine dh (uh n4) ?_
  fail "R"
  refine eU hj WI HA z_zip hr (hv.same s23) wf hd hn hl (s23 _ _ hf) (rd0.same s23) (by omega) h3s nls (by show gr H3 lf ns (bnd h ks.length) _;rw[hb];exact ym (s23 _ _ har) haf) fun H' ys ot h' r'=>?_
  refine k H' ys ((eX.same s23).trans ot) h' ?_
  rw[lB]
  show aM K H' ((done++(iG ns h++_)).map hT) ys
  rw[hg]
  exact r'
 ·obtain⟨k0,kr,rfl⟩:∃k0 kr,ks=k0::kr:=by
   cases ks with
   |nil=>simp[br]at ar0
   |cons k0 kr=>exact⟨_,_,rfl⟩
  have hkr:arms.length=kr.length:=by
   have:kr.length+1=arms.length+1:=by simpa[br]using ar0
   omega
  have hv0:=hv
  rw[aW]at hv0
  obtain⟨a,u1,u2,u3,rfl,hS,g1,g2,g3⟩:=(show Rp K H (.t [.s "match",enc k0,.t (List.zipWith gU arms (kr.map enc))]) v from hv0).t3
  obtain rfl:=g1.aI
  obtain⟨aa,avs,rfl,asq,ars⟩:=g3.aH
  have lars:=ars.length
  rw[List.length_zipWith,List.length_map,hkr,Nat.min_self]at lars
  fail "R"
  intro lw H2 ws s2 hlw h2 r2
  have l2':=r2.length
  rw[List.length_map]at l2'
  have hS2:=aJ.same s2 hS
  fail "R"
  refine ig h2 (by rw[l2'];have:(Tm.mk (Hd.mat arms) (k0::kr)).ks.length<(Tm.mk (Hd.mat arms) (k0::kr)).size:=hk;omega) fun l0 hl0=>?_
  have s3:=ae hl0 (.lst (List.replicate ws.length (.ref ar)))
  have s23:=s2.trans s3
  have hS3:=aJ.same s23 hS
  generalize upd H2 l0 (.lst (List.replicate ws.length (.ref ar)))=H3 at s3 s23 hS3⊢
  fail "R"
  intro l1 hl1
  have s4:=ae hl1 (.lst [.ref ar])
  have s24:=s23.trans s4
  have h4l:upd H3 l1 (.lst [.ref ar]) l1=some (.lst [.ref ar]):=af
  have hS4:=aJ.same s24 hS
  have asq4:=aJ.same s24 asq
  have ars4:=ars.same s24
  have har4:=s24 _ _ har
  have hf4:=s24 _ _ hf
  generalize upd H3 l1 (.lst [.ref ar])=H4 at s4 s24 h4l hS4 asq4 ars4 har4 hf4⊢
  have hkz:kr.length+1<(Tm.mk (Hd.mat arms) (k0::kr)).size:=hk
  fail "R"
  refine bT (xs:=avs) (fun i σ us Hd=>(∃x y z,σ=[x,y,z,some (.ref ar)])/\aL H4 Hd/\gr Hd lf ns ((arms.map (·.2)).take i) us) ⟨⟨_,_,_,rfl⟩,aL.refl _,rfl,fun i b hb=>by rw[List.take_zero]at hb;simp at hb⟩ ?_ (Nat.le_of_lt (aC (by omega))) ?_ ?_ ?_
  ·rintro i σ us Hd hi ⟨_,_,o⟩
   rw[o.1,List.length_take];omega
  ·rintro i σ us Hd hi ⟨_,sd,_⟩
   exact aJ.same sd asq4
  ·rintro i u σ us Hd hi ⟨⟨x0,y0,z0,rfl⟩,sd,ow⟩
   obtain⟨y,hy,ry⟩:=ars4.get' hi
   have hiv:i<avs.length:=(List.getElem?_eq_some_iff.mp hi).1
   have hia:i<arms.length:=by omega
   have hik:i<(kr.map enc).length:=by rw[List.length_map];omega
   rw[List.getElem?_zipWith,List.getElem?_eq_getElem hia,List.getElem?_eq_getElem hik]at hy
   cases hy
   have ham:(arms[i]).2.length<=2:=by
    cases wf with
    |mk a b c=>exact b _ (show(arms[i]).2∈[]::arms.map (·.2)from List.mem_cons_of_mem _ (List.mem_map.mpr ⟨_,List.getElem_mem hia,rfl⟩))
   have etk:(arms.map (·.2)).take (i+1)=(arms.map (·.2)).take i++[(arms[i]).2]:=by
    rw[List.take_succ_eq_append_getElem (by rw[List.length_map];exact hia),List.getElem_map]
   generalize arms[i]=am at ry ham etk
   obtain⟨qa,w1,w2,w3,rfl,qsq,e1,e2,e3⟩:=(show Rp K H4 (.t [.s am.1,.t (am.2.map .s),_]) u from ry).t3
   obtain rfl:=e1.aI
   obtain⟨na,nvs,rfl,nsq,nrs⟩:=e2.aH
   obtain rfl:=nrs.je
   have qsqd:=aJ.same sd qsq
   have nsqd:=aJ.same sd nsq
   have hard:=sd _ _ har4
   have hlz:ns.length+am.2.length<=900:=by omega
   fail "R"
   intro ln H6 s6 hln h6
   have nln:ln≠lf:=fun z=>by subst z;rw[sd _ _ hf4]at hln;cases hln
   fail "R"
   ·exact sd.trans s6
   rw[etk]
   exact vR (ow.same s6) nln h6
  ·rintro σ us Hd ⟨_,sd,ow⟩ lc hlc
   have s7:=ae hlc (.lst us)
   have h7c:upd Hd lc (.lst us) lc=some (.lst us):=af
   have ow7:=ow.same s7
   have h7l:=s7 _ _ (sd _ _ h4l)
   have s27:=s24.trans (sd.trans s7)
   rw[lars,←hkr,←List.length_map (as:=arms) (·.2),List.take_length]at ow7
   have lus:=ow7.1
   rw[List.length_map]at lus
   have hlz:[V.ref ar].length+us.length<=sizeLine:=small (by show 1+us.length<=1000;omega)
   generalize upd Hd lc (.lst us)=H7 at s7 h7c ow7 h7l s27⊢
   fail "R"
   intro ls hls
   have s8:=ae hls (.lst ([.ref ar]++us))
   have s28:=s27.trans s8
   have h8s:upd H7 ls (.lst ([.ref ar]++us)) ls=some (.lst (.ref ar::us)):=af
   have nls:ls≠lf:=fun z=>by subst z;rw[s27 _ _ hf]at hls;cases hls
   have ow8:=ow7.same s8
   generalize upd H7 ls (.lst ([.ref ar]++us))=H8 at s8 s28 h8s ow8⊢
   fail "R"
   refine eU hj WI HA z_zip hr (hv.same s28) wf hd hn hl (s28 _ _ hf) (rd0.same s28) (by omega) h8s nls (pL (b:=[]) haf (s28 _ _ har) ow8) fun H' ys ot h' r'=>?_
   refine k H' ys ((eX.same s28).trans ot) h' ?_
   rw[lB]
   exact r'
 ·obtain⟨k0,k1,rfl⟩:=l2 (show ks.length=2 by simpa[br]using ar0)
  have hv0:=hv
  rw[aW]at hv0
  obtain⟨a,u1,u2,u3,u4,rfl,hS,g1,g2,g3,g4⟩:=(show Rp K H (.t [.s "let",.s x,enc k0,enc k1]) v from hv0).t4
  obtain rfl:=g1.aI
  obtain rfl:=g2.aI
  fail "R"
  intro lw H2 ws s2 hlw h2 r2
  have l2':=r2.length
  rw[List.length_map]at l2'
  have hS2:=aJ.same s2 hS
  fail "R"
  refine ig h2 (by rw[l2'];exact(show 2<=1000 by decide)) fun ls hls=>?_
  have s3:=ae hls (.lst (List.replicate ws.length (.ref ar)))
  have s23:=s2.trans s3
  have h3s:upd H2 ls (.lst (List.replicate ws.length (.ref ar))) ls=some (.lst (List.replicate ws.length (.ref ar))):=af
  have hS3:=aJ.same s23 hS
  have nls:ls≠lf:=fun z=>by subst z;rw[s2 _ _ hf]at hls;cases hls
  have hls0:H ls=none:=by
   cases e:H ls with
   |none=>rfl
   |some o=>rw[s2 _ _ e]at hls;cases hls
  rw[l2']at s3 s23 h3s hS3⊢
  generalize upd H2 ls (.lst (List.replicate (Tm.mk (.lt x) [k0,k1]).ks.length (.ref ar)))=H3 at s3 s23 h3s hS3⊢
  replace h3s:H3 ls=some (.lst [.ref ar,.ref ar]):=h3s
  fail "R"
  intro lx hlx
  have s4:=ae hlx (.lst [.str x])
  have h4x:upd H3 lx (.lst [.str x]) lx=some (.lst ([x].map V.str)):=af
  have h4a:=s4 _ _ (s23 _ _ har)
  have h4s:=s4 _ _ h3s
  have s24:=s23.trans s4
  have hz1:ns.length+[x].length<=900:=by show ns.length+1<=900;have:=Tm.size_pos (Tm.mk (.lt x) [k0,k1]);omega
  generalize upd H3 lx (.lst [.str x])=H4 at s4 h4x h4a h4s s24⊢
  fail "R"
  intro ln H5 s5 hln h5
  have h5s:=s5 _ _ h4s
  have s25:=s24.trans s5
  have nln:ln≠lf:=fun z=>by subst z;rw[s24 _ _ hf]at hln;cases hln
  have nls2:ls≠ln:=fun z=>by subst z;rw[h4s]at hln;cases hln
  have k6:Kt H5 (upd H5 ls (.lst [.ref ar,.ref ln])):=Kt.lst h5s _
  have hS6:aJ K (upd H5 ls (.lst ([V.ref ar,V.ref ar].set 1 (V.ref ln)))) a [.str "let",.str x,u3,u4]:=(aJ.same s25 hS).kt k6
  have s26:aL H (upd H5 ls (.lst [.ref ar,.ref ln])):=s25.qI hls0 _
  have h6:upd H5 ls (.lst [.ref ar,.ref ln]) ls=some (.lst [.ref ar,.ref ln]):=af
  have h6n:upd H5 ls (.lst [.ref ar,.ref ln]) ln=some (.lst ((bE ns [x]).map V.str)):=by rw[aq nls2.symm];exact h5
  fail "R"
  refine eU hj WI HA z_zip hr (hv.same s26) wf hd hn hl (s26 _ _ hf) (rd0.same s26) (by omega) h6 nls (BF (b0:=[]) (b1:=[x]) haf (s26 _ _ har) nln h6n) fun H' ys ot h' r'=>?_
  refine k H' ys ((eX.same s26).trans ot) h' ?_
  rw[lB]
  exact r'
 ·obtain⟨k0,k1,k2,rfl⟩:=l3 (show ks.length=3 by simpa[br]using ar0)
  have hv0:=hv
  rw[aW]at hv0
  obtain⟨a,us,rfl,hS,rs⟩:=(show Rp K H (.t [.s "fold",enc k0,.s x,.s y,enc k1,enc k2]) v from hv0).aH
  obtain⟨u1,q1,rfl,g1,rs⟩:=rs.inv
  obtain⟨u2,q2,rfl,g2,rs⟩:=rs.inv
  obtain⟨u3,q3,rfl,g3,rs⟩:=rs.inv
  obtain⟨u4,q4,rfl,g4,rs⟩:=rs.inv
  obtain⟨u5,q5,rfl,g5,rs⟩:=rs.inv
  obtain⟨u6,q6,rfl,g6,rs⟩:=rs.inv
  obtain rfl:=rs.cG
  obtain rfl:=g1.aI
  obtain rfl:=g3.aI
  obtain rfl:=g4.aI
  fail "R"
  intro lw H2 ws s2 hlw h2 r2
  have l2':=r2.length
  rw[List.length_map]at l2'
  have hS2:=aJ.same s2 hS
  fail "R"
  refine ig h2 (by rw[l2'];exact(show 3<=1000 by decide)) fun ls hls=>?_
  have s3:=ae hls (.lst (List.replicate ws.length (.ref ar)))
  have s23:=s2.trans s3
  have h3s:upd H2 ls (.lst (List.replicate ws.length (.ref ar))) ls=some (.lst (List.replicate ws.length (.ref ar))):=af
  have hS3:=aJ.same s23 hS
  have nls:ls≠lf:=fun z=>by subst z;rw[s2 _ _ hf]at hls;cases hls
  have hls0:H ls=none:=by
   cases e:H ls with
   |none=>rfl
   |some o=>rw[s2 _ _ e]at hls;cases hls
  rw[l2']at s3 s23 h3s hS3⊢
  generalize upd H2 ls (.lst (List.replicate (Tm.mk (.fold x y) [k0,k1,k2]).ks.length (.ref ar)))=H3 at s3 s23 h3s hS3⊢
  replace h3s:H3 ls=some (.lst [.ref ar,.ref ar,.ref ar]):=h3s
  fail "R"
  intro lx hlx
  have s4:=ae hlx (.lst [.str x,.str y])
  have h4x:upd H3 lx (.lst [.str x,.str y]) lx=some (.lst ([x,y].map V.str)):=af
  have h4a:=s4 _ _ (s23 _ _ har)
  have h4s:=s4 _ _ h3s
  have s24:=s23.trans s4
  have hz1:ns.length+[x,y].length<=900:=by show ns.length+2<=900;have:=Tm.size_pos (Tm.mk (.fold x y) [k0,k1,k2]);omega
  generalize upd H3 lx (.lst [.str x,.str y])=H4 at s4 h4x h4a h4s s24⊢
  fail "R"
  intro ln H5 s5 hln h5
  have h5s:=s5 _ _ h4s
  have s25:=s24.trans s5
  have nln:ln≠lf:=fun z=>by subst z;rw[s24 _ _ hf]at hln;cases hln
  have nls2:ls≠ln:=fun z=>by subst z;rw[h4s]at hln;cases hln
  have k6:Kt H5 (upd H5 ls (.lst [.ref ar,.ref ar,.ref ln])):=Kt.lst h5s _
  have hS6:aJ K (upd H5 ls (.lst ([V.ref ar,V.ref ar,V.ref ar].set 2 (V.ref ln)))) a _:=(aJ.same s25 hS).kt k6
  have s26:aL H (upd H5 ls (.lst [.ref ar,.ref ar,.ref ln])):=s25.qI hls0 _
  have h6:upd H5 ls (.lst [.ref ar,.ref ar,.ref ln]) ls=some (.lst [.ref ar,.ref ar,.ref ln]):=af
  have h6n:upd H5 ls (.lst [.ref ar,.ref ar,.ref ln]) ln=some (.lst ((bE ns [x,y]).map V.str)):=by rw[aq nls2.symm];exact h5
  fail "R"
  refine eU hj WI HA z_zip hr (hv.same s26) wf hd hn hl (s26 _ _ hf) (rd0.same s26) (by omega) h6 nls (pL (b:=[]) haf (s26 _ _ har) (BF (b0:=[]) (b1:=[x,y]) haf (s26 _ _ har) nln h6n)) fun H' ys ot h' r'=>?_
  refine k H' ys ((eX.same s26).trans ot) h' ?_
  rw[lB]
  exact r'
end
end G04
namespace L2
open PySem PySem.Spec PyProof.Rows
section
variable {X:Cx}
theorem tS(K:PySem.W.Frag)(hK:X.K=K):dO X (.builtin "isinstance") (fun xs H Q=>∃x,xs=[x,.ty "tuple"]/\((∃p ys,x=.ref p/\aJ K H p ys/\Q (.bl true) H)\/(∃z,x=.str z/\Q (.bl false) H)\/∃z,x=.int z/\Q (.bl false) H)):=by
 subst hK
 intro pins s σ H xs us Q I r h
 obtain⟨x,rfl,h⟩:=h
 obtain⟨u,w',rfl,r1,r2⟩:=vals2 r
 obtain rfl:w'=Value.type "tuple":=r2
 rcases h with⟨p,ys,rfl,hq,q⟩|⟨z,rfl,q⟩|⟨z,rfl,q⟩
 ·obtain rfl:u=Value.ref p:=r1
  obtain⟨its,rv,pl,hz⟩:=I.tuple hq
  obtain⟨o,ho,hc,n,hd⟩:=pl
  exact IsiPair.tuple_tuple ho hc ⟨.bl true,H,I,rfl,q⟩
 ·obtain⟨t,rfl⟩:=r1
  exact IsiPair.str_tuple ⟨.bl false,H,I.tok _,rfl,q⟩
 ·obtain⟨t,rfl⟩:=r1
  exact IsiPair.int_tuple ⟨.bl false,H,I.tok _,rfl,q⟩
end
end L2
namespace G04
open PySem L2
noncomputable def pN(g:Int->Int):Hd->Hd
 |.gap n=>.gap (g n)
 |h=>h
mutual
noncomputable def iH(g:Int->Int):Tm->Tm
 |.mk h ks=>.mk (pN g h) (vU g ks)
noncomputable def vU(g:Int->Int):List Tm->List Tm
 | []=>[]
 |k::r=>iH g k::vU g r
end
theorem pO(g:Int->Int):∀ks:List Tm,vU g ks=ks.map (iH g)
 | []=>by unfold vU;rfl
 |k::r=>by unfold vU;rw[pO g r];rfl
theorem dZ(g:Int->Int)(h:Hd)(ks:List Tm):iH g (.mk h ks)=.mk (pN g h) (ks.map (iH g)):=by unfold iH;rw[pO]
mutual
noncomputable def gl:Tm->List Int
 |.mk h ks=>(iG [] h).map (·.1)++gu ks
noncomputable def gu:List Tm->List Int
 | []=>[]
 |k::r=>gl k++gu r
end
theorem se:∀{ks:List Tm}{k:Tm}{m:Int},k∈ks->m∈gl k->m∈gu ks
 |x::r,k,m,h,hm=>by
  unfold gu
  cases h with
  |head=>exact List.mem_append_left _ hm
  |tail _ h=>exact List.mem_append_right _ (se h hm)
theorem Aq{h:Hd}{ks:List Tm}{k:Tm}{m:Int}(hk:k∈ks)(hm:m∈gl k):m∈gl (.mk h ks):=by
 unfold gl
 exact List.mem_append_right _ (se hk hm)
noncomputable def C3(m:Int):T:=.t [.s "gap",.i m]
noncomputable def dH(K:PySem.W.Frag)(H:Hp)(d:Addr)(g:Int->Int)(G:List Int):Prop:=∃kvs,H d=some (.dK kvs)/\∀m∈G,∃v,dY kvs (.inl m:Key)=some v/\Rp K H (C3 (g m)) v
theorem dH.same{K:PySem.W.Frag}{H H':Hp}{d:Addr}{g:Int->Int}{G:List Int}(p:dH K H d g G)(s:aL H H'):dH K H' d g G:=by
 obtain⟨kvs,h1,h2⟩:=p
 refine⟨kvs,s _ _ h1,fun m hm=>?_⟩
 obtain⟨v,h3,h4⟩:=h2 m hm
 exact⟨v,h3,h4.same s⟩
theorem dH.sub{K:PySem.W.Frag}{H:Hp}{d:Addr}{g:Int->Int}{G G':List Int}(p:dH K H d g G)(s:∀m∈G',m∈G):dH K H d g G':=by
 obtain⟨kvs,h1,h2⟩:=p
 exact⟨kvs,h1,fun m hm=>h2 m (s m hm)⟩
noncomputable def pQ(K:PySem.W.Frag)(n:Nat):Sp:=fun vs H Q _=>∃(v:V) (d:Addr) (tm:Tm) (g:Int->Int),vs=[v,.ref d]/\Rp K H (enc tm) v/\Wn tm/\tm.size<=900/\tm.depth<n/\dH K H d g (gl tm) /\
 ∀(v':V) (H':Hp),aL H H'->Rp K H' (enc (iH g tm)) v'->Q v' H'
theorem BG(tm:Tm):∃xs,enc tm=.t xs:=by
 obtain⟨h,ks⟩:=tm
 rw[aW]
 cases h<;>exact⟨_,rfl⟩
noncomputable def qO:T ⊕ Tm->T
 |.inl t=>t
 |.inr k=>enc k
noncomputable def vV(g:Int->Int):T ⊕ Tm->T ⊕ Tm
 |.inl t=>.inl t
 |.inr k=>.inr (iH g k)
noncomputable def yn:T->Prop
 |.s _=>True
 |.i _=>True
 |_=>False
noncomputable def Dm(g:Int->Int)(h:Hd)(ks:List Tm):Prop:=∃its:List (T ⊕ Tm),its.length<=6/\c9 h (ks.map enc)=.t (its.map qO)/\c9 (pN g h) ((ks.map (iH g)).map enc)=.t ((its.map (vV g)).map qO)/\∀x∈its,(∃t,x=.inl t/\yn t)\/∃k,x=.inr k/\k∈ks
theorem vW{h:Hd}{ks:List Tm}(g:Int->Int)(ar:br h ks.length=true):(∃n,h=.gap n/\ks=[])\/((∃x,h=.name x)/\ks=[]\/(∃x,h=.num x)/\ks=[])\/h=.row\/(∃t,h=.tag t)\/(∃t,h=.call t)\/(∃arms,h=.mat arms) \/
  ∃(fm:Str) (r:List T),c9 h (ks.map enc)=.t (.s fm::r)/\¬fm∈(["gap","num","name","row","tag","call","match"]:List Str)/\Dm g h ks:=by
 cases h
 case gap n=>exact .inl ⟨n,rfl,by simpa[br]using ar⟩
 case name x=>exact .inr (.inl (.inl ⟨⟨x,rfl⟩,by simpa[br]using ar⟩))
 case num x=>exact .inr (.inl (.inr ⟨⟨x,rfl⟩,by simpa[br]using ar⟩))
 case row=>exact .inr (.inr (.inl rfl))
 case tag t=>exact .inr (.inr (.inr (.inl ⟨t,rfl⟩)))
 case call t=>exact .inr (.inr (.inr (.inr (.inl ⟨t,rfl⟩))))
 case mat arms=>exact .inr (.inr (.inr (.inr (.inr (.inl ⟨arms,rfl⟩)))))
 case op s =>
  obtain⟨a,b,rfl⟩:=l2 (show ks.length=2 by simpa[br]using ar)
  exact .inr (.inr (.inr (.inr (.inr (.inr ⟨"op",_,rfl,by decide +kernel,[.inl (.s "op"),.inl (.s s),.inr a,.inr b],by simp,rfl,rfl,by simp[yn]⟩)))))
 case more =>
  obtain⟨a,b,rfl⟩:=l2 (show ks.length=2 by simpa[br]using ar)
  exact .inr (.inr (.inr (.inr (.inr (.inr ⟨"more",_,rfl,by decide +kernel,[.inl (.s "more"),.inr a,.inr b],by simp,rfl,rfl,by simp[yn]⟩)))))
 case first =>
  obtain⟨a,rfl⟩:=l1 (show ks.length=1 by simpa[br]using ar)
  exact .inr (.inr (.inr (.inr (.inr (.inr ⟨"first",_,rfl,by decide +kernel,[.inl (.s "first"),.inr a],by simp,rfl,rfl,by simp[yn]⟩)))))
 case others =>
  obtain⟨a,rfl⟩:=l1 (show ks.length=1 by simpa[br]using ar)
  exact .inr (.inr (.inr (.inr (.inr (.inr ⟨"others",_,rfl,by decide +kernel,[.inl (.s "others"),.inr a],by simp,rfl,rfl,by simp[yn]⟩)))))
 case long =>
  obtain⟨a,rfl⟩:=l1 (show ks.length=1 by simpa[br]using ar)
  exact .inr (.inr (.inr (.inr (.inr (.inr ⟨"long",_,rfl,by decide +kernel,[.inl (.s "long"),.inr a],by simp,rfl,rfl,by simp[yn]⟩)))))
 case ife =>
  obtain⟨a,b,c,rfl⟩:=l3 (show ks.length=3 by simpa[br]using ar)
  exact .inr (.inr (.inr (.inr (.inr (.inr ⟨"if",_,rfl,by decide +kernel,[.inl (.s "if"),.inr a,.inr b,.inr c],by simp,rfl,rfl,by simp[yn]⟩)))))
 case lt x =>
  obtain⟨a,b,rfl⟩:=l2 (show ks.length=2 by simpa[br]using ar)
  exact .inr (.inr (.inr (.inr (.inr (.inr ⟨"let",_,rfl,by decide +kernel,[.inl (.s "let"),.inl (.s x),.inr a,.inr b],by simp,rfl,rfl,by simp[yn]⟩)))))
 case fold x y =>
  obtain⟨a,b,c,rfl⟩:=l3 (show ks.length=3 by simpa[br]using ar)
  exact .inr (.inr (.inr (.inr (.inr (.inr ⟨"fold",_,rfl,by decide +kernel,[.inl (.s "fold"),.inr a,.inl (.s x),.inl (.s y),.inr b,.inr c],by simp,rfl,rfl,by simp[yn]⟩)))))
section
variable {P:Program}{w:World}{K:PySem.W.Frag}{mg:Str->Option Value}{base:Heap}{gP:Addr}{pfd:FuncData}
theorem lC{Q:VK}{H0:Hp}{b d:Addr}{us:List V}{ks:List Tm}{g:Int->Int}{n:Nat}(hS:aJ K H0 b us)(hr:aM K H0 (ks.map enc) us)(hw:∀k∈ks,Wn k/\k.size<=900/\k.depth<n/\dH K H0 d g (gl k))(hlen:ks.length<=900)
  (k:∀(p:Addr) (H':Hp) (ws:List V),aL H0 H'->H0 p=none->H' p=some (.lst ws)->aM K H' ((ks.map (iH g)).map enc) ws->Q (.ref p) H') :
  fF (uC K b) (cI 0) jL (qW (pQ K n) [] E0 (dQ (dX 0) (dQ (dX 1) jU))) Q [none,some (.ref d)] H0:=by
 have l:=hr.length
 rw[List.length_map]at l
 refine bT (xs:=us) (fun i σ ws Hd=>(∃x,σ=[x,some (.ref d)])/\aL H0 Hd/\aM K Hd (((ks.take i).map (iH g)).map enc) ws) ⟨⟨_,rfl⟩,aL.refl _,.nil⟩ ?_ (Nat.le_of_lt (aC (by omega))) ?_ ?_ ?_
 ·rintro i σ ws Hd hi ⟨_,_,r⟩
  rw[r.length,List.length_map,List.length_map,List.length_take];omega
 ·rintro i σ ws Hd hi ⟨_,sd,_⟩
  exact aJ.same sd hS
 ·rintro i x σ ws Hd hi ⟨⟨x0,rfl⟩,sd,r⟩
  obtain⟨y,hy,ry⟩:=hr.get' hi
  rw[List.getElem?_map]at hy
  obtain⟨q,hq,rfl⟩:=Option.map_eq_some_iff.mp hy
  have hil:i<ks.length:=(List.getElem?_eq_some_iff.mp hq).1
  have eq1:ks[i]=q:=(List.getElem?_eq_some_iff.mp hq).2
  obtain⟨w1,w2,w3,w4⟩:=hw q (by rw[←eq1];exact List.getElem_mem hil)
  have ryd:=ry.same sd
  have w4d:=w4.same sd
  fail "R"
  refine⟨g,?_⟩
  fail "R"
  intro v' H' s' r'
  fail "R"
  ·exact sd.trans s'
  rw[List.take_succ_eq_append_getElem hil,eq1,List.map_append,List.map_append]
  exact(r.same s').snoc r'
 ·rintro σ ws Hd ⟨_,sd,r⟩ p hp
  rw[l,List.take_length]at r
  refine k p _ ws (sd.trans (ae hp _)) ?_ af (r.same (ae hp _))
  cases e:H0 p with
  |none=>rfl
  |some o=>rw[sd _ _ e]at hp;cases hp
theorem fP{K:PySem.W.Frag}{H:Hp}{d:Addr}{g:Int->Int}{h:Hd}{ks:List Tm}{n:Nat}(wf:Wn (.mk h ks))(hsz:(Tm.mk h ks).size<=900)(hd:(Tm.mk h ks).depth<n+1)(hp:dH K H d g (gl (.mk h ks))):∀k∈ks,Wn k/\k.size<=900/\k.depth<n/\dH K H d g (gl k):=by
 intro k hk
 rw[Tm.cF]at hsz
 have h1:=fM hk
 have h2:=Tm.iu (h:=h) hk
 refine⟨?_,by omega,by omega,hp.sub fun m hm=>Aq hk hm⟩
 cases wf with
 |mk a b c=>exact c k hk
theorem bY:Nm ["_law_term_here","_law_put_here"] (aj fc):=by decide +kernel
theorem vX:aZ ["_law_term_here","_law_put_here"] ["_law_term_here","_law_put_here"] (aj fc):=⟨rfl,rfl,rfl,by decide +kernel,rfl,by decide +kernel,by decide +kernel⟩
theorem Ar{f:Addr}{fd:FuncData}{n j:Nat}(hj:1<=j)(F:iE K "_law_put" "_law_put" fc f fd)(PU:cR P w K mg base "_law_put" j ["_law_term_here","_law_put_here"] (pQ K n) gP pfd)(z_tuple:mg "tuple"=none)(z_isinstance:mg "isinstance"=none) :
  cA P w K mg base gv (j+1) f fd ["_law_term_here","_law_put_here"] (pQ K (n+1)):=by
 refine F.ok vX (fun vs H Q E h=>?_) (fun cdv A outer s H vs Q E hr h=>?_)
 ·obtain⟨_,_,_,_,rfl,_⟩:=h
  rfl
 obtain⟨v,d,tm,g,rfl,hv,wf,hsz,hd,hp,k⟩:=h
 refine⟨_,(Z6 (Zf (Zi cu (Z8 aD (va bY 0)) au) (Zh (@aK _ _ _ _ (@uQ _ _ _ _ _ _ _ _ _ (jK hr) (va bY 1) (Z8 aD (va bY 0)) (va bY 0) ⟨by rfl,by rfl,by rfl,by rfl⟩)))) (Z6 (Zf (@aS _ _ _ _ _ _ _ _ dz (Z8 aD (va bY 0)) (Ze (aA au (aA au ah))) (by with_unfolding_all rfl)) (Zh (aK (va bY 0)))) (Z6 (Zf (@aS _ _ _ _ _ _ _ _ dz (Z8 aD (va bY 0)) (Ze (Z1 au (aA au (aA au ah)))) (by with_unfolding_all rfl)) (Zh (@aK _ _ _ _ (Zj qY (@b8 _ _ _ _ _ _ _ _ _ _ uJ (va bY 0) cE (bV (jI gG ak))) (Ze (Z1 (Z5 aX z_tuple PyProof.Rows.boot_tuple (Z1 (Z4 (aj fc) ["_law_term_here","_law_put_here"] ["_law_one"] [1] (@b7 _ _ _ _ (iJ aD (va bY 0) (jI gG ak) (fun _ _=>rfl))) (fun _ _ _ _=>(Z2 (i:=0) (show(["_law_one","_law_put_here"]:List Str).Nodup by decide +kernel))) (fun _ _ _ _=>(Z0 PU (Z1 (va (show Nm ["_law_one","_law_put_here"] _ by show _=_;kernel_rfl) 0) (aA (va (show Nm ["_law_one","_law_put_here"] _ by show _=_;kernel_rfl) 1) ah))))) ah)) ah)))))) (Z6 (Zf (Zi cu (Z8 aD (va bY 0)) au) (Zh (@aK _ _ _ _ (Ze (Z1 au (Z1 (Z0 PU (Z1 (Z8 aD (va bY 0)) (aA (va bY 1) ah))) (Z1 (Z5 aX z_tuple PyProof.Rows.boot_tuple (Z1 (Z4 (aj fc) ["_law_term_here","_law_put_here"] ["_law_t","_law_names_here","_law_arm"] [1] (@b7 _ _ _ _ (Z8 aD (va bY 0))) (fun _ _ _ _=>(Zc (3) (Zg (Z2 (i:=0) (show(["_law_t","_law_names_here","_law_arm","_law_put_here"]:List Str).Nodup by decide +kernel)) (Zg (Z2 (i:=1) (show(["_law_t","_law_names_here","_law_arm","_law_put_here"]:List Str).Nodup by decide +kernel)) (aU (Z2 (i:=2) (show(["_law_t","_law_names_here","_law_arm","_law_put_here"]:List Str).Nodup by decide +kernel)) bq))))) (fun _ _ _ _=>(Ze (Z1 (va (show Nm ["_law_t","_law_names_here","_law_arm","_law_put_here"] _ by show _=_;kernel_rfl) 0) (Z1 (va (show Nm ["_law_t","_law_names_here","_law_arm","_law_put_here"] _ by show _=_;kernel_rfl) 1) (Z1 (Z0 PU (Z1 (va (show Nm ["_law_t","_law_names_here","_law_arm","_law_put_here"] _ by show _=_;kernel_rfl) 2) (aA (va (show Nm ["_law_t","_law_names_here","_law_arm","_law_put_here"] _ by show _=_;kernel_rfl) 3) ah))) ah)))))) ah)) ah))))))) (Zh (@aK _ _ _ _ (Z5 aX z_tuple PyProof.Rows.boot_tuple (Z1 (Z4 (aj fc) ["_law_term_here","_law_put_here"] ["_law_one"] [1] (b7 (va bY 0)) (fun _ _ _ _=>(Z2 (i:=0) (show(["_law_one","_law_put_here"]:List Str).Nodup by decide +kernel))) (fun _ _ _ _=>(@ur _ _ _ _ _ _ _ _ (@zw _ _ _ (Z7 (tS K rfl) z_isinstance PyProof.Rows.boot_isinstance (Z1 (va (show Nm ["_law_one","_law_put_here"] _ by show _=_;kernel_rfl) 0) (aA (wX (v:=.ty "tuple") (by show _=_;kernel_rfl) z_tuple (by decide +kernel) rfl) ah))) (by intro _;rfl)) (Z0 PU (Z1 (va (show Nm ["_law_one","_law_put_here"] _ by show _=_;kernel_rfl) 0) (aA (va (show Nm ["_law_one","_law_put_here"] _ by show _=_;kernel_rfl) 1) ah))) (va (show Nm ["_law_one","_law_put_here"] _ by show _=_;kernel_rfl) 0)))) ah)))))))),?_⟩
 try dsimp only[dg]
 have wf5:=wf.wf
 refine kO ?_
 intro N1 N2 N3 N4 c1 c2 c3 c4
 obtain⟨h,ks⟩:=tm
 have ar0:br h ks.length=true:=by cases wf5 with|mk a b=>exact a
 rcases vW g ar0 with⟨m,rfl,rfl⟩|(⟨⟨x,rfl⟩,rfl⟩|⟨⟨x,rfl⟩,rfl⟩)|rfl|⟨t,rfl⟩|⟨t,rfl⟩|⟨arms,rfl⟩|⟨fm,r,he,hm,hu⟩
 ·have hv0:=hv
  rw[aW]at hv0
  obtain⟨a,u1,u2,rfl,hS,g1,g2⟩:=(show Rp K H (.t [.s "gap",.i m]) v from hv0).t2
  obtain rfl:=g1.aI
  obtain rfl:=g2.cX
  obtain⟨kvs,hk,hg⟩:=hp
  obtain⟨v1,hv1,rv1⟩:=hg m (by unfold gl;exact List.mem_append_left _ (List.mem_singleton.mpr rfl))
  have hD:CH H d:=.inl ⟨kvs,.inl hk⟩
  have hG:dc H d (.int m) (some v1):=by
   have:=dc.k (k:=.inl m) hk
   rw[hv1]at this
   exact this
  fail "R"
  refine k v1 H (aL.refl _) ?_
  rw[dZ,aW]
  exact rv1
 ·have hv0:=hv
  rw[aW]at hv0
  obtain⟨a,u1,u2,rfl,hS,g1,g2⟩:=(show Rp K H (.t [.s "name",.s x]) v from hv0).t2
  obtain rfl:=g1.aI
  fail "R"
  intro p1 hp1
  fail "R"
  refine k (.ref a) _ (ae hp1 _) ?_
  rw[dZ]
  exact hv.same (ae hp1 _)
 ·have hv0:=hv
  rw[aW]at hv0
  obtain⟨a,u1,u2,rfl,hS,g1,g2⟩:=(show Rp K H (.t [.s "num",.i x]) v from hv0).t2
  obtain rfl:=g1.aI
  fail "R"
  intro p1 hp1
  fail "R"
  refine k (.ref a) _ (ae hp1 _) ?_
  rw[dZ]
  exact hv.same (ae hp1 _)
 ·have hv0:=hv
  rw[aW]at hv0
  obtain⟨a,u1,u2,rfl,hS,g1,g2⟩:=(show Rp K H (.t [.s "row",.t (ks.map enc)]) v from hv0).t2
  obtain rfl:=g1.aI
  obtain⟨b,us,rfl,hSb,hrb⟩:=g2.aH
  fail "R"
  intro p1 hp1
  have s1:=ae hp1 (.tup [.str "num",.str "name"])
  have hS1:=aJ.same s1 hS
  fail "R"
  intro p2 hp2
  have s2:=s1.trans (ae hp2 (.tup [.str "row",.str "tag",.str "call"]))
  have hS2:=aJ.same s2 hS
  have hSb2:=aJ.same s2 hSb
  have hrb2:=hrb.same s2
  have hp2':=hp.same s2
  have hor:bJ K (upd (upd H p1 (.tup [.str "num",.str "name"])) p2 (.tup [.str "row",.str "tag",.str "call"])) p2 [.str "row",.str "tag",.str "call"]\/aJ K (upd (upd H p1 (.tup [.str "num",.str "name"])) p2 (.tup [.str "row",.str "tag",.str "call"])) p2 [.str "row",.str "tag",.str "call"]:=.inr (aJ.of af)
  generalize upd (upd H p1 (.tup [.str "num",.str "name"])) p2 (.tup [.str "row",.str "tag",.str "call"])=H2 at s2 hS2 hSb2 hrb2 hp2' hor⊢
  have kf:=fP wf hsz hd hp2'
  have hkl:ks.length<=900:=by have:ks.length<(Tm.mk .row ks).size:=jO (Tm.mk .row ks);omega
  fail "R"
  intro p3 hp3
  have s3:=ae hp3 (.tup (bF [V.str "row",V.ref b] none (some (-1))))
  have s23:=s2.trans s3
  have hS3:=aJ.same s3 hS2
  have hSb3:=aJ.same s3 hSb2
  have hrb3:=hrb2.same s3
  have kf3:=fun k hk=>(⟨(kf k hk).1,(kf k hk).2.1,(kf k hk).2.2.1,(kf k hk).2.2.2.same s3⟩:_/\_/\_/\_)
  have h3p:upd H2 p3 (.tup (bF [V.str "row",V.ref b] none (some (-1)))) p3=some (.tup [.str "row"]):=af
  generalize upd H2 p3 (.tup (bF [V.str "row",V.ref b] none (some (-1))))=H3 at s3 s23 hS3 hSb3 hrb3 kf3 h3p⊢
  fail "R"
  refine lC hSb3 hrb3 kf3 hkl fun p4 H4 ws s4 hp4 h4 r4=>?_
  have lw:=r4.length
  rw[List.length_map,List.length_map]at lw
  fail "R"
  refine .inl ⟨bJ.of h4,fun p5 hp5=>?_⟩
  have s5:=ae hp5 (.tup ws)
  have h5:upd H4 p5 (.tup ws) p5=some (.tup ws):=af
  have h5p:=s5 _ _ (s4 _ _ h3p)
  have r5:=r4.same s5
  have s25:=s23.trans (s4.trans s5)
  generalize upd H4 p5 (.tup ws)=H5 at s5 h5 h5p r5 s25⊢
  fail "R"
  intro p6 hp6
  have s6:=ae hp6 (.tup [.ref p5])
  have h6:upd H5 p6 (.tup [.ref p5]) p6=some (.tup [.ref p5]):=af
  have h6p:=s6 _ _ h5p
  have h65:=s6 _ _ h5
  have r6:=r5.same s6
  have s26:=s25.trans s6
  generalize upd H5 p6 (.tup [.ref p5])=H6 at s6 h6 h6p h65 r6 s26⊢
  fail "R"
  ·intro z;cases z
  intro _ p7 hp7
  have s7:=ae hp7 (.tup [.str "row",.ref p5])
  refine k (.ref p7) _ (s26.trans s7) ?_
  rw[dZ,aW]
  exact Rp.t (aJ.of af) (.cons .s (.one (Rp.t (aJ.of (s7 _ _ h65)) (r6.same s7))))
 ·have hv0:=hv
  rw[aW]at hv0
  obtain⟨a,u1,u0,u2,rfl,hS,g1,g0,g2⟩:=(show Rp K H (.t [.s "tag",.s t,.t (ks.map enc)]) v from hv0).t3
  obtain rfl:=g1.aI
  obtain rfl:=g0.aI
  obtain⟨b,us,rfl,hSb,hrb⟩:=g2.aH
  fail "R"
  intro p1 hp1
  have s1:=ae hp1 (.tup [.str "num",.str "name"])
  have hS1:=aJ.same s1 hS
  fail "R"
  intro p2 hp2
  have s2:=s1.trans (ae hp2 (.tup [.str "row",.str "tag",.str "call"]))
  have hS2:=aJ.same s2 hS
  have hSb2:=aJ.same s2 hSb
  have hrb2:=hrb.same s2
  have hp2':=hp.same s2
  have hor:bJ K (upd (upd H p1 (.tup [.str "num",.str "name"])) p2 (.tup [.str "row",.str "tag",.str "call"])) p2 [.str "row",.str "tag",.str "call"]\/aJ K (upd (upd H p1 (.tup [.str "num",.str "name"])) p2 (.tup [.str "row",.str "tag",.str "call"])) p2 [.str "row",.str "tag",.str "call"]:=.inr (aJ.of af)
  generalize upd (upd H p1 (.tup [.str "num",.str "name"])) p2 (.tup [.str "row",.str "tag",.str "call"])=H2 at s2 hS2 hSb2 hrb2 hp2' hor⊢
  have kf:=fP wf hsz hd hp2'
  have hkl:ks.length<=900:=by have:ks.length<(Tm.mk (.tag t) ks).size:=jO (Tm.mk (.tag t) ks);omega
  fail "R"
  intro p3 hp3
  have s3:=ae hp3 (.tup (bF [V.str "tag",V.str t,V.ref b] none (some (-1))))
  have s23:=s2.trans s3
  have hS3:=aJ.same s3 hS2
  have hSb3:=aJ.same s3 hSb2
  have hrb3:=hrb2.same s3
  have kf3:=fun k hk=>(⟨(kf k hk).1,(kf k hk).2.1,(kf k hk).2.2.1,(kf k hk).2.2.2.same s3⟩:_/\_/\_/\_)
  have h3p:upd H2 p3 (.tup (bF [V.str "tag",V.str t,V.ref b] none (some (-1)))) p3=some (.tup [.str "tag",.str t]):=af
  generalize upd H2 p3 (.tup (bF [V.str "tag",V.str t,V.ref b] none (some (-1))))=H3 at s3 s23 hS3 hSb3 hrb3 kf3 h3p⊢
  fail "R"
  refine lC hSb3 hrb3 kf3 hkl fun p4 H4 ws s4 hp4 h4 r4=>?_
  have lw:=r4.length
  rw[List.length_map,List.length_map]at lw
  fail "R"
  refine .inl ⟨bJ.of h4,fun p5 hp5=>?_⟩
  have s5:=ae hp5 (.tup ws)
  have h5:upd H4 p5 (.tup ws) p5=some (.tup ws):=af
  have h5p:=s5 _ _ (s4 _ _ h3p)
  have r5:=r4.same s5
  have s25:=s23.trans (s4.trans s5)
  generalize upd H4 p5 (.tup ws)=H5 at s5 h5 h5p r5 s25⊢
  fail "R"
  intro p6 hp6
  have s6:=ae hp6 (.tup [.ref p5])
  have h6:upd H5 p6 (.tup [.ref p5]) p6=some (.tup [.ref p5]):=af
  have h6p:=s6 _ _ h5p
  have h65:=s6 _ _ h5
  have r6:=r5.same s6
  have s26:=s25.trans s6
  generalize upd H5 p6 (.tup [.ref p5])=H6 at s6 h6 h6p h65 r6 s26⊢
  have hne:[V.str "tag",V.str t]≠[]:=by simp
  have hlz:[V.str "tag",V.str t].length+[V.ref p5].length<=sizeLine:=(show 3<=sizeLine by decide)
  fail "R"
  ·intro z;cases z
  intro _ p7 hp7
  have s7:=ae hp7 (.tup [.str "tag",.str t,.ref p5])
  refine k (.ref p7) _ (s26.trans s7) ?_
  rw[dZ,aW]
  exact Rp.t (aJ.of af) (.cons .s (.cons .s (.one (Rp.t (aJ.of (s7 _ _ h65)) (r6.same s7)))))
 ·have hv0:=hv
  rw[aW]at hv0
  obtain⟨a,u1,u0,u2,rfl,hS,g1,g0,g2⟩:=(show Rp K H (.t [.s "call",.s t,.t (ks.map enc)]) v from hv0).t3
  obtain rfl:=g1.aI
  obtain rfl:=g0.aI
  obtain⟨b,us,rfl,hSb,hrb⟩:=g2.aH
  fail "R"
  intro p1 hp1
  have s1:=ae hp1 (.tup [.str "num",.str "name"])
  have hS1:=aJ.same s1 hS
  fail "R"
  intro p2 hp2
  have s2:=s1.trans (ae hp2 (.tup [.str "row",.str "tag",.str "call"]))
  have hS2:=aJ.same s2 hS
  have hSb2:=aJ.same s2 hSb
  have hrb2:=hrb.same s2
  have hp2':=hp.same s2
  have hor:bJ K (upd (upd H p1 (.tup [.str "num",.str "name"])) p2 (.tup [.str "row",.str "tag",.str "call"])) p2 [.str "row",.str "tag",.str "call"]\/aJ K (upd (upd H p1 (.tup [.str "num",.str "name"])) p2 (.tup [.str "row",.str "tag",.str "call"])) p2 [.str "row",.str "tag",.str "call"]:=.inr (aJ.of af)
  generalize upd (upd H p1 (.tup [.str "num",.str "name"])) p2 (.tup [.str "row",.str "tag",.str "call"])=H2 at s2 hS2 hSb2 hrb2 hp2' hor⊢
  have kf:=fP wf hsz hd hp2'
  have hkl:ks.length<=900:=by have:ks.length<(Tm.mk (.call t) ks).size:=jO (Tm.mk (.call t) ks);omega
  fail "R"
  intro p3 hp3
  have s3:=ae hp3 (.tup (bF [V.str "call",V.str t,V.ref b] none (some (-1))))
  have s23:=s2.trans s3
  have hS3:=aJ.same s3 hS2
  have hSb3:=aJ.same s3 hSb2
  have hrb3:=hrb2.same s3
  have kf3:=fun k hk=>(⟨(kf k hk).1,(kf k hk).2.1,(kf k hk).2.2.1,(kf k hk).2.2.2.same s3⟩:_/\_/\_/\_)
  have h3p:upd H2 p3 (.tup (bF [V.str "call",V.str t,V.ref b] none (some (-1)))) p3=some (.tup [.str "call",.str t]):=af
  generalize upd H2 p3 (.tup (bF [V.str "call",V.str t,V.ref b] none (some (-1))))=H3 at s3 s23 hS3 hSb3 hrb3 kf3 h3p⊢
  fail "R"
  refine lC hSb3 hrb3 kf3 hkl fun p4 H4 ws s4 hp4 h4 r4=>?_
  have lw:=r4.length
  rw[List.length_map,List.length_map]at lw
  fail "R"
  refine .inl ⟨bJ.of h4,fun p5 hp5=>?_⟩
  have s5:=ae hp5 (.tup ws)
  have h5:upd H4 p5 (.tup ws) p5=some (.tup ws):=af
  have h5p:=s5 _ _ (s4 _ _ h3p)
  have r5:=r4.same s5
  have s25:=s23.trans (s4.trans s5)
  generalize upd H4 p5 (.tup ws)=H5 at s5 h5 h5p r5 s25⊢
  fail "R"
  intro p6 hp6
  have s6:=ae hp6 (.tup [.ref p5])
  have h6:upd H5 p6 (.tup [.ref p5]) p6=some (.tup [.ref p5]):=af
  have h6p:=s6 _ _ h5p
  have h65:=s6 _ _ h5
  have r6:=r5.same s6
  have s26:=s25.trans s6
  generalize upd H5 p6 (.tup [.ref p5])=H6 at s6 h6 h6p h65 r6 s26⊢
  have hne:[V.str "call",V.str t]≠[]:=by simp
  have hlz:[V.str "call",V.str t].length+[V.ref p5].length<=sizeLine:=(show 3<=sizeLine by decide)
  fail "R"
  ·intro z;cases z
  intro _ p7 hp7
  have s7:=ae hp7 (.tup [.str "call",.str t,.ref p5])
  refine k (.ref p7) _ (s26.trans s7) ?_
  rw[dZ,aW]
  exact Rp.t (aJ.of af) (.cons .s (.cons .s (.one (Rp.t (aJ.of (s7 _ _ h65)) (r6.same s7)))))
 ·obtain⟨k0,kr,rfl⟩:∃k0 kr,ks=k0::kr:=by
   cases ks with
   |nil=>simp[br]at ar0
   |cons k0 kr=>exact⟨_,_,rfl⟩
  have hkr:arms.length=kr.length:=by
   have:kr.length+1=arms.length+1:=by simpa[br]using ar0
   omega
  have hv0:=hv
  rw[aW]at hv0
  obtain⟨a,u1,u2,u3,rfl,hS,g1,g2,g3⟩:=(show Rp K H (.t [.s "match",enc k0,.t (List.zipWith gU arms (kr.map enc))]) v from hv0).t3
  obtain rfl:=g1.aI
  obtain⟨aa,avs,rfl,asq,ars⟩:=g3.aH
  have lars:=ars.length
  rw[List.length_zipWith,List.length_map,hkr,Nat.min_self]at lars
  have kf:=fP wf hsz hd hp
  fail "R"
  intro p1 hp1
  have s1:=ae hp1 (.tup [.str "num",.str "name"])
  have hS1:=aJ.same s1 hS
  fail "R"
  intro p2 hp2
  have s2:=s1.trans (ae hp2 (.tup [.str "row",.str "tag",.str "call"]))
  have hS2:=aJ.same s2 hS
  have g22:=g2.same s2
  obtain⟨kw1,kw2,kw3,kw4⟩:=kf k0 (.head _)
  have kw4d:=kw4.same s2
  fail "R"
  refine⟨g,?_⟩
  fail "R"
  intro v4 H4 s4 r4
  have s24:=s2.trans s4
  have hS4:=aJ.same s24 hS
  have asq4:=aJ.same s24 asq
  have ars4:=ars.same s24
  have kf4:∀k∈kr,Wn k/\k.size<=900/\k.depth<n/\dH K H4 d g (gl k):=fun k hk=>⟨(kf k (.tail _ hk)).1,(kf k (.tail _ hk)).2.1,(kf k (.tail _ hk)).2.2.1,(kf k (.tail _ hk)).2.2.2.same s24⟩
  have hkz:kr.length+1<(Tm.mk (Hd.mat arms) (k0::kr)).size:=jO (Tm.mk (Hd.mat arms) (k0::kr))
  fail "R"
  have lzw:(List.zipWith gU arms ((kr.map (iH g)).map enc)).length=kr.length:=by rw[List.length_zipWith,List.length_map,List.length_map,hkr,Nat.min_self]
  refine bT (xs:=avs) (fun i σ us Hd=>(∃x y z,σ=[x,y,z,some (.ref d)])/\aL H4 Hd/\aM K Hd ((List.zipWith gU arms ((kr.map (iH g)).map enc)).take i) us) ⟨⟨_,_,_,rfl⟩,aL.refl _,.nil⟩ ?_ (Nat.le_of_lt (aC (by omega))) ?_ ?_ ?_
  ·rintro i σ us Hd hi ⟨_,_,r⟩
   rw[r.length,List.length_take];omega
  ·rintro i σ us Hd hi ⟨_,sd,_⟩
   exact aJ.same sd asq4
  ·rintro i u σ us Hd hi ⟨⟨x0,y0,z0,rfl⟩,sd,r⟩
   obtain⟨y,hy,ry⟩:=ars4.get' hi
   have hiv:i<avs.length:=(List.getElem?_eq_some_iff.mp hi).1
   have hia:i<arms.length:=by omega
   have hik:i<kr.length:=by omega
   have hik2:i<(kr.map enc).length:=by rw[List.length_map];omega
   rw[List.getElem?_zipWith,List.getElem?_eq_getElem hia,List.getElem?_eq_getElem hik2,List.getElem_map]at hy
   cases hy
   have etk:(List.zipWith gU arms ((kr.map (iH g)).map enc)).take (i+1)=(List.zipWith gU arms ((kr.map (iH g)).map enc)).take i++[gU arms[i] (enc (iH g kr[i]))]:=by
    rw[List.take_succ_eq_append_getElem (by omega),List.getElem_zipWith,List.getElem_map,List.getElem_map]
   obtain⟨w1,w2,w3,w4⟩:=kf4 kr[i] (List.getElem_mem hik)
   rw[etk]
   generalize arms[i]=am at ry⊢
   generalize kr[i]=kd at ry w1 w2 w3 w4⊢
   obtain⟨qa,z1,z2,z3,rfl,qsq,e1,e2,e3⟩:=(show Rp K H4 (.t [.s am.1,.t (am.2.map .s),enc kd]) u from ry).t3
   obtain rfl:=e1.aI
   have qsqd:=aJ.same sd qsq
   have e3d:=e3.same sd
   have w4d:=w4.same sd
   fail "R"
   refine⟨g,?_⟩
   fail "R"
   intro v6 H6 s6 r6
   fail "R"
   intro p7 hp7
   have s7:=ae hp7 (.tup [.str am.1,z2,v6])
   fail "R"
   ·exact sd.trans (s6.trans s7)
   exact((r.same s6).same s7).snoc (Rp.t (aJ.of af) (.cons .s (.cons (((e2.same sd).same s6).same s7) (.one (r6.same s7)))))
  ·rintro σ us Hd ⟨_,sd,r⟩ p8 hp8
   rw[lars,←lzw,List.take_length]at r
   have s8:=ae hp8 (.lst us)
   have h8:upd Hd p8 (.lst us) p8=some (.lst us):=af
   fail "R"
   refine .inl ⟨bJ.of h8,fun p9 hp9=>?_⟩
   have s9:=ae hp9 (.tup us)
   have h9:upd (upd Hd p8 (.lst us)) p9 (.tup us) p9=some (.tup us):=af
   have s49:=sd.trans (s8.trans s9)
   have r9:=(r.same s8).same s9
   generalize upd (upd Hd p8 (.lst us)) p9 (.tup us)=H9 at s9 h9 s49 r9⊢
   fail "R"
   intro p10 hp10
   have s10:=ae hp10 (.tup [.str "match",v4,.ref p9])
   refine k (.ref p10) _ (s24.trans (s49.trans s10)) ?_
   rw[dZ,aW]
   exact Rp.t (aJ.of af) (.cons .s (.cons ((r4.same s49).same s10) (.one (Rp.t (aJ.of (s10 _ _ h9)) (r9.same s10)))))
 ·have hv0:=hv
  rw[aW,he]at hv0
  obtain⟨its,hil6,he2,he3,hit⟩:=hu
  obtain⟨a,vs,rfl,hS,hr0⟩:=hv0.aH
  have ets:(T.s fm::r)=its.map qO:=by rw[he]at he2;exact T.t.inj he2
  have hr9:=hr0
  rw[ets]at hr9
  obtain⟨v0,q0,rfl,e0,hr1⟩:=hr0.inv
  obtain rfl:=e0.aI
  have a0:=Cc (V.str fm) q0
  have n1:fm≠"gap":=fun z=>hm (by rw[z];decide +kernel)
  have n2:fm≠"match":=fun z=>hm (by rw[z];decide +kernel)
  have i1:zQ (.str fm) [.str "num",.str "name"]=false:=(gZ fm ["num","name"]).trans (decide_eq_false fun z=>hm (by simp only[List.mem_cons,List.not_mem_nil,or_false]at z⊢;rcases z with z|z<;>simp[z]))
  have i2:zQ (.str fm) [.str "row",.str "tag",.str "call"]=false:=(gZ fm ["row","tag","call"]).trans (decide_eq_false fun z=>hm (by simp only[List.mem_cons,List.not_mem_nil,or_false]at z⊢;rcases z with z|z|z<;>simp[z]))
  have kf:=fP wf hsz hd hp
  fail "R"
  refine dh (uh n1) ?_
  fail "R"
  intro p1 hp1
  have s1:=ae hp1 (.tup [.str "num",.str "name"])
  have hS1:=aJ.same s1 hS
  have hf1:gk (.str fm)=true:=rfl
  fail "R"
  refine dh i1 ?_
  fail "R"
  intro p2 hp2
  have s2:=s1.trans (ae hp2 (.tup [.str "row",.str "tag",.str "call"]))
  have hS2:=aJ.same s2 hS
  fail "R"
  refine dh i2 ?_
  fail "R"
  refine dh (uh n2) ?_
  have hr2:=hr9.same s2
  have kf2:=fun k hk=>(⟨(kf k hk).1,(kf k hk).2.1,(kf k hk).2.2.1,(kf k hk).2.2.2.same s2⟩:_/\_/\_/\_)
  generalize upd (upd H p1 (.tup [.str "num",.str "name"])) p2 (.tup [.str "row",.str "tag",.str "call"])=H2 at s2 hS2 hr2 kf2⊢
  have lq:=hr2.length
  rw[List.length_map]at lq
  fail "R"
  refine bT (K:=K) (xs:=V.str fm::q0) (fun i σ us Hd=>(∃x,σ=[x,some (.ref d)])/\aL H2 Hd/\aM K Hd (((its.take i).map (vV g)).map qO) us) ⟨⟨_,rfl⟩,aL.refl _,.nil⟩ ?_ (Nat.le_of_lt (aC (by omega))) ?_ ?_ ?_
  ·rintro i σ us Hd hi ⟨_,_,r⟩
   rw[r.length,List.length_map,List.length_map,List.length_take];omega
  ·rintro i σ us Hd hi ⟨_,sd,_⟩
   exact aJ.same sd hS2
  ·rintro i x σ us Hd hi ⟨⟨x0,rfl⟩,sd,r⟩
   obtain⟨y,hy,ry⟩:=hr2.get' hi
   rw[List.getElem?_map]at hy
   obtain⟨q,hq,rfl⟩:=Option.map_eq_some_iff.mp hy
   have hil:i<its.length:=(List.getElem?_eq_some_iff.mp hq).1
   have eq1:its[i]=q:=(List.getElem?_eq_some_iff.mp hq).2
   have hqm:q∈its:=by rw[←eq1];exact List.getElem_mem hil
   have etk:((its.take (i+1)).map (vV g)).map qO=((its.take i).map (vV g)).map qO++[qO (vV g q)]:=by
    rw[List.take_succ_eq_append_getElem hil,eq1,List.map_append,List.map_append];rfl
   rw[etk]
   have ryd:=ry.same sd
   rcases hit q hqm with⟨t,rfl,hft⟩|⟨kd,rfl,hkd⟩
   ·fail "R"
    cases t with
    |s z =>
     obtain rfl:=(show Rp K Hd (.s z) x from ryd).aI
     refine .inr (.inl ⟨z,rfl,?_⟩)
     fail "R"
     exact r.snoc ryd
    |i z =>
     obtain rfl:=(show Rp K Hd (.i z) x from ryd).cX
     refine .inr (.inr ⟨z,rfl,?_⟩)
     fail "R"
     exact r.snoc ryd
    |n=>cases hft
    |t xs=>cases hft
   ·obtain⟨w1,w2,w3,w4⟩:=kf2 kd hkd
    have w4d:=w4.same sd
    obtain⟨ets2,ee⟩:=BG kd
    have ryk:Rp K Hd (enc kd) x:=ryd
    have ry2:=ryk
    rw[ee]at ry2
    obtain⟨pa,ys,rfl,sqk,_⟩:=ry2.aH
    fail "R"
    refine .inl ⟨pa,ys,rfl,sqk,?_⟩
    fail "R"
    refine⟨g,?_⟩
    fail "R"
    intro v' H' s' r'
    fail "R"
    ·exact sd.trans s'
    exact(r.same s').snoc r'
  ·rintro σ us Hd ⟨_,sd,r⟩ p3 hp3
   rw[lq,List.take_length]at r
   have s3:=ae hp3 (.lst us)
   have h3:upd Hd p3 (.lst us) p3=some (.lst us):=af
   fail "R"
   refine .inl ⟨bJ.of h3,fun p4 hp4=>?_⟩
   have s4:=ae hp4 (.tup us)
   fail "R"
   refine k (.ref p4) _ (s2.trans (sd.trans (s3.trans s4))) ?_
   rw[dZ,aW,he3]
   exact Rp.t (aJ.of af) ((r.same s3).same s4)
end
end G04
namespace G04
open PySem L2
theorem ze{d:Nat}:T.dep .n<=d:=by simp[T.dep]
theorem vY(ts:List T)(i:Nat):(ts.getD i .n).dep<=T.dR ts:=by
 rw[List.getD_eq_getElem?_getD]
 cases e:ts[i]? with
 |none=>exact ze
 |some t=>exact T.ja (List.mem_of_getElem? e)
theorem tT(ts:List T):(ts.headD .n).dep<=T.dR ts:=by
 cases ts with
 |nil=>exact ze
 |cons t r=>exact T.ja (.head _)
theorem nQ{a:List T}{d:Nat}(h:∀x∈a,x.dep<=d):T.dR a<=d:=by
 induction a with
 |nil=>exact nZ
 |cons x r ih=>exact eN (h x (.head _)) (ih fun y hy=>h y (.tail _ hy))
theorem vZ{xs:List Str}{d:Nat}:T.dR (xs.map T.s)<=d:=nQ fun x hx=>by
 obtain⟨y,_,rfl⟩:=List.mem_map.mp hx
 exact iy
theorem pR{d:Nat}:∀(arms:List (Str×List Str)) (ts:List T),T.dR ts<=d+1->T.dR (List.zipWith gU arms ts)<=d+2
 | [],ts,_=>by rw[List.zipWith_nil_left];exact nZ
 |a::r,[],_=>by rw[List.zipWith_nil_right];exact nZ
 |a::r,t::ts,h=>by
  rw[List.zipWith_cons_cons]
  rw[T.dR]at h
  have h1:=(Nat.max_le.mp h).1
  have h2:=(Nat.max_le.mp h).2
  exact eN (jD (eN iy (eN (jD vZ) (eN h1 nZ)))) (pR r ts h2)
theorem wc{h:Hd}{ts:List T}{d:Nat}(hd:T.dR ts<=d+1):(c9 h ts).dep<=d+4:=by
 have up:∀{n:Nat}{t:T},t.dep<=T.dR ts->d+1<=n->t.dep<=n:=fun a b=>Nat.le_trans (Nat.le_trans a hd) b
 have ups:∀{n:Nat},d+1<=n->T.dR ts<=n:=fun b=>Nat.le_trans hd b
 have g:∀i,(ts.getD i .n).dep<=d+3:=fun i=>up (vY ts i) (by omega)
 cases h with
 |num n=>exact jD (eN iy (eN CN nZ))
 |name x=>exact jD (eN iy (eN iy nZ))
 |gap n=>exact jD (eN iy (eN CN nZ))
 |op s=>exact jD (eN iy (eN iy (ups (by omega))))
 |row=>exact jD (eN iy (eN (jD (ups (by omega))) nZ))
 |more=>exact jD (eN iy (ups (by omega)))
 |first=>exact jD (eN iy (ups (by omega)))
 |others=>exact jD (eN iy (ups (by omega)))
 |long=>exact jD (eN iy (ups (by omega)))
 |tag t=>exact jD (eN iy (eN iy (eN (jD (ups (by omega))) nZ)))
 |call t=>exact jD (eN iy (eN iy (eN (jD (ups (by omega))) nZ)))
 |ife=>exact jD (eN iy (ups (by omega)))
 |lt x=>exact jD (eN iy (eN iy (ups (by omega))))
 |mat arms=>exact jD (eN iy (eN (up (tT ts) (by omega)) (eN (jD (pR arms ts.tail (Nat.le_trans (nQ fun x hx=>T.ja (List.mem_of_mem_tail hx)) hd))) nZ)))
 |fold x y=>exact jD (eN iy (eN (g 0) (eN iy (eN iy (eN (g 1) (eN (g 2) nZ))))))
theorem yo(tm:Tm):(enc tm).dep<=3*tm.size+1:=by
 refine Tm.induct (P:=fun tm=>(enc tm).dep<=3*tm.size+1) (fun h ks ih=>?_) tm
 rw[aW,Tm.cF]
 refine Nat.le_trans (wc (d:=3*Tm.sizes ks) (nQ fun x hx=>?_)) (by omega)
 obtain⟨k,hk,rfl⟩:=List.mem_map.mp hx
 have h1:=ih k hk
 have h2:=fM hk
 omega
mutual
theorem wd(ns:List Str):∀(tm:Tm),∀p∈n6 ns tm,p.2.size<=tm.size
 |.mk h ks,p,hp=>by
  unfold n6 at hp
  cases hp with
  |head=>exact Nat.le_refl _
  |tail _ hp=>have:=sf ns (bnd h ks.length) ks p hp;rw[Tm.cF];omega
theorem sf(ns:List Str):∀(bs:List (List Str)) (ks:List Tm),∀p∈fZ ns bs ks,p.2.size<=Tm.sizes ks
 | [],ks,p,hp=>by cases ks<;>(unfold fZ at hp;cases hp)
 |b::bs,[],p,hp=>by unfold fZ at hp;cases hp
 |b::bs,k::ks,p,hp=>by
  unfold fZ at hp
  rw[Tm.bG]
  rcases List.mem_append.mp hp with h|h
  ·have:=wd (bE ns b) k p h;omega
  ·have:=sf ns bs ks p h;omega
end
noncomputable abbrev Df:=Str×List (Str×T)×Tm
noncomputable def wQ(d:Df):T:=.t [.s d.1,pB d.2.1,enc d.2.2]
noncomputable def um(d:Df):List Pl:=n6 (bE [] (d.2.1.map (·.1))) d.2.2
noncomputable def fQ(n:Int)(p:Pl):Bool:=decide (enc p.2=.t [.s "gap",.i n])
structure BH(d:Df):Prop where
 w:Wn d.2.2
 s:d.2.2.size<=49
 l:d.2.1.length<=50
noncomputable def pS(K:PySem.W.Frag):Sp:=fun vs H Q _=>∃(v:V) (n:Int) (ks:T) (ds:List Df) (ns:List Str) (t:Tm),vs=[v,.int n]/\Rp K H (.t [ks,.t (ds.map wQ)]) v/\(∀d∈ds,BH d)/\ds.length<=100/\(ds.flatMap um).find? (fQ n)=some (ns,t) /\
 ∀(v':V) (H':Hp),aL H H'->Rp K H' (.t (ns.map .s)) v'->Q v' H'
section
variable {P:Program}{w:World}{K:PySem.W.Frag}{mg:Str->Option Value}{base:Heap}{gP:Addr}{pfd:FuncData}
theorem cU:Nm ["program","n","kinds","defs","name","params","term","names","here"] (aj fH):=by decide +kernel
theorem cV:Lm ["program","n","kinds","defs","name","params","term","names","here"] (aj fH):=by decide +kernel
theorem cM:aZ ["program","n","kinds","defs","name","params","term","names","here"] ["program","n"] (aj fH):=⟨rfl,rfl,rfl,by decide +kernel,rfl,by decide +kernel,by decide +kernel⟩
theorem qP{f:Addr}{fd:FuncData}(F:iE K "at_hand" "at_hand" fH f fd)(PL:cR P w K mg base "places" 2 ["params","term"] (pD K) gP pfd):cA P w K mg base gv 3 f fd ["program","n"] (pS K):=by
 refine F.ok cM (fun vs H Q E h=>?_) (fun cdv A outer s H vs Q E hr h=>?_)
 ·obtain⟨_,_,_,_,_,_,rfl,_⟩:=h
  rfl
 obtain⟨v,n,ks,ds,ns,t,rfl,hv,hd,hdl,hf,k⟩:=h
 refine⟨_,(Z6 (@fT _ _ _ _ _ _ (va cU 0) (Zc (2) (Zg (ga cM.nd cV 2) (aU (ga cM.nd cV 3) bq))) (by rfl) (by rfl) (by rfl)) (Z6 (@fV _ _ _ _ _ _ _ _ PassesOwn.never rfl (b7 (va cU 3)) (Zc (3) (Zg (ga cM.nd cV 4) (Zg (ga cM.nd cV 5) (aU (ga cM.nd cV 6) bq)))) (Zh (@fV _ _ _ _ _ _ _ _ PassesOwn.never rfl (@cO _ _ _ _ (Z0 PL (Z1 (va cU 5) (aA (va cU 6) ah)))) (Zc (2) (Zg (ga cM.nd cV 7) (aU (ga cM.nd cV 8) bq))) (Zh (Zf (Zi (kF hr.qA) (va cU 8) (Ze (Z1 au (aA (va cU 1) ah)))) (Zh (aK (va cU 7))))) (by intro _;rfl))) (by intro _;rfl)) (cD uu))),?_⟩
 try dsimp only[dg]
 obtain⟨pa,kv,dv,rfl,psq,rk,rd0⟩:=hv.t2
 obtain⟨da,dvs,rfl,dsq,drs⟩:=rd0.aH
 have ld:=drs.length
 rw[List.length_map]at ld
 fail "R"
 refine i3 (xs:=dvs) (fun i σ H1=>(∃o1 o2 o3 o4 o5,σ=[some (.ref pa),some (.int n),some kv,some (.ref da),o1,o2,o3,o4,o5])/\aL H H1/\((ds.drop i).flatMap um).find? (fQ n)=some (ns,t)) ⟨⟨_,_,_,_,_,rfl⟩,aL.refl _,hf⟩ ?_ ?_ ?_
 ·rintro i σ H1 hi ⟨_,sm,_⟩
  exact aJ.same sm dsq
 ·rintro i x σ H1 hi ⟨⟨o1,o2,o3,o4,o5,rfl⟩,sm,hf1⟩
  obtain⟨y,hy,ry⟩:=drs.get' hi
  rw[List.getElem?_map]at hy
  obtain⟨d,hdi,rfl⟩:=Option.map_eq_some_iff.mp hy
  have hil:i<ds.length:=(List.getElem?_eq_some_iff.mp hdi).1
  have ed:ds[i]=d:=(List.getElem?_eq_some_iff.mp hdi).2
  have hdo:=hd d (by rw[←ed];exact List.getElem_mem hil)
  have edr:ds.drop i=d::ds.drop (i+1):=by rw[List.drop_eq_getElem_cons hil,ed]
  rw[edr,List.flatMap_cons,List.find?_append]at hf1
  obtain⟨qa,u1,u2,u3,rfl,qsq,g1,g2,g3⟩:=(show Rp K H (.t [.s d.1,pB d.2.1,enc d.2.2]) x from ry).t3
  obtain rfl:=g1.aI
  have qsq1:=aJ.same sm qsq
  have g2':=g2.same sm
  have g3':=g3.same sm
  have w1:=hdo.w
  have w2:=hdo.s
  have w3:=hdo.l
  have w4:d.2.2.size<=400:=by omega
  fail "R"
  intro p2 H2 ws2 s2 hp2 h2 r2
  have l2:=r2.length
  rw[List.length_map]at l2
  have sm2:=sm.trans s2
  fail "R"
  refine kc (xs:=ws2) (fun j σ H3=>(∃o4 o5,σ=[some (.ref pa),some (.int n),some kv,some (.ref da),some (.str d.1),some u2,some u3,o4,o5])/\aL H2 H3/\Option.or (((um d).drop j).find? (fQ n)) (((ds.drop (i+1)).flatMap um).find? (fQ n))=some (ns,t)) ⟨⟨_,_,rfl⟩,aL.refl _,hf1⟩ ?_ ?_ ?_
  ·rintro j σ H3 hj ⟨_,s3,_⟩
   exact bJ.of (s3 _ _ h2)
  ·rintro j x σ H3 hj ⟨⟨o4,o5,rfl⟩,s3,hf3⟩
   obtain⟨y,hy,ry⟩:=r2.get' hj
   rw[List.getElem?_map]at hy
   obtain⟨q,hq,rfl⟩:=Option.map_eq_some_iff.mp hy
   have hjl:j<(um d).length:=(List.getElem?_eq_some_iff.mp hq).1
   have eq1:(um d)[j]=q:=(List.getElem?_eq_some_iff.mp hq).2
   have hqm:q∈um d:=by rw[←eq1];exact List.getElem_mem hjl
   have hqs:=wd _ _ q hqm
   have hqd:=yo q.2
   have hq150:(enc q.2).dep<=150:=by omega
   rw[List.drop_eq_getElem_cons hjl,eq1,List.find?_cons]at hf3
   obtain⟨ra,v1,v2,rfl,rsq,e1,e2⟩:=(show Rp K H2 (.t [.t (q.1.map .s),enc q.2]) x from ry).t2
   have rsq3:=aJ.same s3 rsq
   have e1':=e1.same s3
   have e2':=e2.same s3
   fail "R"
   intro p6 hp6
   have s6:=ae hp6 (.tup [.str "gap",.int n])
   have e2'':=e2'.same s6
   have eg:Rp K (upd H3 p6 (.tup [.str "gap",.int n])) (.t [.s "gap",.i n]) (.ref p6):=Rp.t (aJ.of af) (.cons .s (.one .i))
   have e1'':=e1'.same s6
   fail "R"
   refine cJ (fun c=>?_) (fun c=>?_)
   ·have c':fQ n q=true:=c
    rw[c']at hf3
    obtain rfl:q=(ns,t):=by simpa using hf3
    fail "R"
    exact k _ _ (sm2.trans (s3.trans s6)) e1''
   ·have c':fQ n q=false:=by
     cases z:fQ n q with
     |false=>rfl
     |true=>exact absurd z c
    rw[c']at hf3
    fail "R"
    ·exact s3.trans s6
    exact hf3
  ·rintro σ H3 ⟨⟨o4,o5,rfl⟩,s3,hf3⟩
   have e:(um d).drop ws2.length=[]:=List.drop_eq_nil_of_le (by rw[l2];exact Nat.le_refl _)
   rw[e]at hf3
   fail "R"
   ·exact sm2.trans s3
   simpa using hf3
 ·rintro σ H1 ⟨_,_,hf1⟩
  rw[ld,List.drop_length]at hf1
  simp at hf1
end
end G04
namespace G04
open PySem L2
noncomputable def wg(g:Int->Int)(d:Df):Df:=(d.1,d.2.1,iH g d.2.2)
noncomputable def sj(K:PySem.W.Frag)(n:Nat):Sp:=fun vs H Q _=>∃(v:V) (d:Addr) (ks:T) (ds:List Df) (g:Int->Int),vs=[v,.ref d]/\Rp K H (.t [ks,.t (ds.map wQ)]) v/\ds.length<=100/\(∀e∈ds,Wn e.2.2/\e.2.2.size<=900/\e.2.2.depth<n/\dH K H d g (gl e.2.2)) /\
 ∀(v':V) (H':Hp),aL H H'->Rp K H' (.t [ks,.t ((ds.map (wg g)).map wQ)]) v'->Q v' H'
section
variable {P:Program}{w:World}{K:PySem.W.Frag}{mg:Str->Option Value}{base:Heap}{gP:Addr}{pfd:FuncData}
theorem jR:Nm ["_law_program_here_here","_law_put_here"] (aj eK):=by decide +kernel
theorem pT:aZ ["_law_program_here_here","_law_put_here"] ["_law_program_here_here","_law_put_here"] (aj eK):=⟨rfl,rfl,rfl,by decide +kernel,rfl,by decide +kernel,by decide +kernel⟩
theorem tU{f:Addr}{fd:FuncData}{n j:Nat}(hj:1<=j)(F:iE K "_law_put_in" "_law_put_in" eK f fd)(PU:cR P w K mg base "_law_put" j ["_law_term_here","_law_put_here"] (pQ K n) gP pfd)(z_tuple:mg "tuple"=none) :
  cA P w K mg base gv (j+1) f fd ["_law_program_here_here","_law_put_here"] (sj K n):=by
 refine F.ok pT (fun vs H Q E h=>?_) (fun cdv A outer s H vs Q E hr h=>?_)
 ·obtain⟨_,_,_,_,_,rfl,_⟩:=h
  rfl
 obtain⟨v,d,ks,ds,g,rfl,hv,hdl,hw,k⟩:=h
 refine⟨_,(Zh (@aK _ _ _ _ (Ze (Z1 (Z8 aD (va jR 0)) (Z1 (Z5 aX z_tuple PyProof.Rows.boot_tuple (Z1 (Z4 (aj eK) ["_law_program_here_here","_law_put_here"] ["_law_f","_law_params","_law_term_here"] [1] (@b7 _ _ _ _ (Z8 aD (va jR 0))) (fun _ _ _ _=>(Zc (3) (Zg (Z2 (i:=0) (show(["_law_f","_law_params","_law_term_here","_law_put_here"]:List Str).Nodup by decide +kernel)) (Zg (Z2 (i:=1) (show(["_law_f","_law_params","_law_term_here","_law_put_here"]:List Str).Nodup by decide +kernel)) (aU (Z2 (i:=2) (show(["_law_f","_law_params","_law_term_here","_law_put_here"]:List Str).Nodup by decide +kernel)) bq))))) (fun _ _ _ _=>(Ze (Z1 (va (show Nm ["_law_f","_law_params","_law_term_here","_law_put_here"] _ by show _=_;kernel_rfl) 0) (Z1 (va (show Nm ["_law_f","_law_params","_law_term_here","_law_put_here"] _ by show _=_;kernel_rfl) 1) (Z1 (Z0 PU (Z1 (va (show Nm ["_law_f","_law_params","_law_term_here","_law_put_here"] _ by show _=_;kernel_rfl) 2) (aA (va (show Nm ["_law_f","_law_params","_law_term_here","_law_put_here"] _ by show _=_;kernel_rfl) 3) ah))) ah)))))) ah)) ah))))),?_⟩
 try dsimp only[dg]
 obtain⟨pa,kv,dv,rfl,psq,rk,rd0⟩:=hv.t2
 obtain⟨da,dvs,rfl,dsq,drs⟩:=rd0.aH
 have ld:=drs.length
 rw[List.length_map]at ld
 fail "R"
 refine bT (xs:=dvs) (fun i σ us Hd=>(∃x y z,σ=[x,y,z,some (.ref d)])/\aL H Hd/\aM K Hd (((ds.take i).map (wg g)).map wQ) us) ⟨⟨_,_,_,rfl⟩,aL.refl _,.nil⟩ ?_ (Nat.le_of_lt (aC (by omega))) ?_ ?_ ?_
 ·rintro i σ us Hd hi ⟨_,_,r⟩
  rw[r.length,List.length_map,List.length_map,List.length_take];omega
 ·rintro i σ us Hd hi ⟨_,sd,_⟩
  exact aJ.same sd dsq
 ·rintro i u σ us Hd hi ⟨⟨x0,y0,z0,rfl⟩,sd,r⟩
  obtain⟨y,hy,ry⟩:=drs.get' hi
  rw[List.getElem?_map]at hy
  obtain⟨e,he,rfl⟩:=Option.map_eq_some_iff.mp hy
  have hil:i<ds.length:=(List.getElem?_eq_some_iff.mp he).1
  have ee:ds[i]=e:=(List.getElem?_eq_some_iff.mp he).2
  obtain⟨w1,w2,w3,w4⟩:=hw e (by rw[←ee];exact List.getElem_mem hil)
  obtain⟨qa,z1,z2,z3,rfl,qsq,e1,e2,e3⟩:=(show Rp K H (.t [.s e.1,pB e.2.1,enc e.2.2]) u from ry).t3
  obtain rfl:=e1.aI
  have qsqd:=aJ.same sd qsq
  have e3d:=e3.same sd
  have w4d:=w4.same sd
  fail "R"
  refine⟨g,?_⟩
  fail "R"
  intro v6 H6 s6 r6
  fail "R"
  intro p7 hp7
  have s7:=ae hp7 (.tup [.str e.1,z2,v6])
  fail "R"
  ·exact sd.trans (s6.trans s7)
  rw[List.take_succ_eq_append_getElem hil,ee,List.map_append,List.map_append]
  exact((r.same s6).same s7).snoc (Rp.t (aJ.of af) (.cons .s (.cons (((e2.same sd).same s6).same s7) (.one (r6.same s7)))))
 ·rintro σ us Hd ⟨_,sd,r⟩ p8 hp8
  rw[ld,List.take_length]at r
  have s8:=ae hp8 (.lst us)
  have h8:upd Hd p8 (.lst us) p8=some (.lst us):=af
  fail "R"
  refine .inl ⟨bJ.of h8,fun p9 hp9=>?_⟩
  have s9:=ae hp9 (.tup us)
  have h9:upd (upd Hd p8 (.lst us)) p9 (.tup us) p9=some (.tup us):=af
  have s49:=sd.trans (s8.trans s9)
  have r9:=(r.same s8).same s9
  generalize upd (upd Hd p8 (.lst us)) p9 (.tup us)=H9 at s9 h9 s49 r9⊢
  fail "R"
  intro p10 hp10
  have s10:=ae hp10 (.tup [kv,.ref p9])
  exact k (.ref p10) _ (s49.trans s10) (Rp.t (aJ.of af) (.cons ((rk.same s49).same s10) (.one (Rp.t (aJ.of (s10 _ _ h9)) (r9.same s10)))))
end
end G04
namespace L2
open PySem PySem.Spec PyProof.Rows
section
variable {X:Cx}
theorem iD:dO X (.builtin "len") (fun xs H Q=>∃p kvs,xs=[.ref p]/\H p=some (.dK kvs)/\Q (.int (kvs.length:Int)) H):=by
 intro pins s σ H xs us Q I r h
 obtain⟨p,kvs,rfl,hq,q⟩:=h
 obtain⟨u,rfl,rx⟩:=vals1 r
 cases rx
 obtain⟨z,hd,vs,rel,dd⟩:=ko I.hok (.inl hq)
 have hl:=rel.length
 have hn:=gJ
 exact call_len_dict hd dd (by omega) ⟨.int kvs.length,H,I.tok _,⟨_,by rw[hl]⟩,q⟩
end
end L2
namespace L2
open PySem
theorem yp{X:Cx}(K:PySem.W.Frag)(hK:X.K=K)(hu:X.A.units+150<cLine):i4 X (compareOp .Eq) (Bp K):=by subst hK;exact kF hu
end L2
namespace G04
open PySem L2
inductive Kd|N|R|K|RK
noncomputable def ik(x:Str):Kd->T
 |.N=>kN
 |.R=>kR kN
 |.K=>kK x
 |.RK=>kR (kK x)
noncomputable def er(x:Str):Prop:=x.length<=20/\Lo x
inductive Tok:Tm->Prop
 |mk {h:Hd}{ks:List Tm}:br h ks.length=true->(∀b∈bnd h ks.length,b.length<=2/\∀x∈b,er x)->(∀k∈ks,Tok k)->Tok (.mk h ks)
structure Gs(f la:Addr) (H H':Hp):Prop where
 oth:∀b o,b≠f->b≠la->H b=some o->H' b=some o
 ff:bM H' f
structure n9(K:PySem.W.Frag) (H:Hp) (f d:Addr) (S:ic) (xs:List Str) (ow:List (Str×List T)) (df:V) (m:Nat) (ar:Addr) (ps:List (Str×T)):Prop where
 sc:bf K H f d S xs ow df m
 aa:iF K H ar ps
 nf:ar≠f
 lf:S.la≠f
 nd:d≠S.la
 pk:∀p∈ps,er p.1/\∃kd,p.2=ik (wf xs 0) kd
 pl:ps.length<=20
theorem nR(x:Str)(kd:Kd):(ik x kd).dep<=150:=by
 cases kd
 ·exact iy
 ·exact jD (d:=149) (eN iy (eN iy nZ))
 ·exact jD (d:=149) (eN iy (eN iy nZ))
 ·exact jD (d:=149) (eN iy (eN (jD (d:=148) (eN iy (eN iy nZ))) nZ))
noncomputable def wR:Kd->Nat
 |.K=>1
 |_=>0
noncomputable def jq(K:PySem.W.Frag)(lv:Nat):Sp:=fun vs H Q _=>∃(f d ar:Addr) (vk:V) (S:ic) (xs:List Str) (ow:List (Str×List T)) (df:V) (m:Nat) (ps:List (Str×T)) (kd:Kd),vs=[.ref f,.ref d,.ref ar,vk]/\n9 K H f d S xs ow df m ar ps/\Rp K H (ik (wf xs 0) kd) vk/\wR kd<lv /\
 ∀(v:V) (H':Hp) (tm:Tm) (m':Nat),Gs f S.la H H'->bf K H' f d S xs ow df m'->Rp K H' (enc tm) v->Tok tm->tm.depth<=wR kd->tm.size<=2*wR kd+1->m<=m'->gl tm=(List.range' m (m' - m)).map (cC S.tn)->Q v H'
theorem HO.ne{H:Hp}{a b:Addr}{u v:HO}(h1:H a=some u)(h2:H b=some v)(n:u≠v):a≠b:=fun z=>by subst z;rw[h1]at h2;exact n (Option.some.inj h2)
theorem Gs.kt{K:PySem.W.Frag}{H H':Hp}{f d:Addr}{S:ic}{xs:List Str}{ow:List (Str×List T)}{df:V}{m:Nat}(s:bf K H f d S xs ow df m)(g:∀b o,b≠f->b≠S.la->H b=some o->H' b=some o):Kt H H':=fun c ys r=>by
 obtain⟨avs,ha,_⟩:=s.la
 obtain⟨p,q,hf⟩:=s.ff
 rcases r with e|⟨o,e⟩
 ·exact .inl (g c _ (HO.ne e hf (fun z=>nomatch z)) (HO.ne e ha (fun z=>nomatch z)) e)
 ·exact .inr ⟨o,g c _ (HO.ne e hf (fun z=>nomatch z)) (HO.ne e ha (fun z=>nomatch z)) e⟩
theorem bf.go{K:PySem.W.Frag}{H H':Hp}{f d:Addr}{S:ic}{xs:List Str}{ow:List (Str×List T)}{df:V}{m m':Nat}(s:bf K H f d S xs ow df m)(g:∀b o,b≠f->b≠S.la->H b=some o->H' b=some o)(ff:bM H' f)
  (la:∃avs:List (Key×V),H' S.la=some (.dK avs)/\avs.map (·.1)=(List.range m').map fun k=>(.inl (cC S.tn k):Key)) (mm:(m':Int)<=S.mo) (nd:d≠S.la):bf K H' f d S xs ow df m':=by
 have kt:=Gs.kt s g
 obtain⟨avs,ha,_⟩:=s.la
 obtain⟨p,q,hf⟩:=s.ff
 obtain⟨gvs,hg,rg⟩:=s.lg
 have nl:=s.nl
 refine⟨g _ _ (HO.ne s.sd hf (fun z=>nomatch z)) nd s.sd,s.kd.kt kt,g _ _ nl.1 (HO.ne s.ln ha (fun z=>nomatch z)) s.ln,g _ _ nl.2.1 (HO.ne s.lp ha (fun z=>nomatch z)) s.lp,g _ _ nl.2.2.1 (HO.ne s.lc ha (fun z=>nomatch z)) s.lc,⟨gvs,g _ _ nl.2.2.2 (HO.ne hg ha (fun z=>nomatch z)) hg,rg.kt kt⟩,la,mm,s.mo,s.tn,s.lx,s.un,s.lo,s.ow,ff,nl⟩
theorem bf.same{K:PySem.W.Frag}{H H':Hp}{f d:Addr}{S:ic}{xs:List Str}{ow:List (Str×List T)}{df:V}{m:Nat}(s:bf K H f d S xs ow df m)(e:aL H H')(nd:d≠S.la):bf K H' f d S xs ow df m:=by
 obtain⟨avs,ha,hk⟩:=s.la
 exact s.go (fun b o _ _ h=>e _ _ h) ((Ext.refl s.ff).same e).2 ⟨avs,e _ _ ha,hk⟩ s.mm nd
theorem bf.ext{K:PySem.W.Frag}{H H':Hp}{f d:Addr}{S:ic}{xs:List Str}{ow:List (Str×List T)}{df:V}{m:Nat}(s:bf K H f d S xs ow df m)(e:Ext f H H')(nd:d≠S.la)(nf:S.la≠f):bf K H' f d S xs ow df m:=by
 obtain⟨avs,ha,hk⟩:=s.la
 exact s.go (fun b o n _ h=>e.1 _ _ n h) e.2 ⟨avs,e.1 _ _ nf ha,hk⟩ s.mm nd
theorem Gs.same{f la:Addr}{H H':Hp}(hf:bM H f)(e:aL H H'):Gs f la H H':=⟨fun b o _ _ h=>e _ _ h,((Ext.refl hf).same e).2⟩
theorem Gs.ext{f la:Addr}{H H':Hp}(e:Ext f H H'):Gs f la H H':=⟨fun b o n _ h=>e.1 _ _ n h,e.2⟩
theorem Gs.trans{f la:Addr}{H H1 H2:Hp}(a:Gs f la H H1)(b:Gs f la H1 H2):Gs f la H H2:=⟨fun c o n1 n2 h=>b.oth c o n1 n2 (a.oth c o n1 n2 h),b.ff⟩
theorem n9.gs{K:PySem.W.Frag}{H H':Hp}{f d:Addr}{S:ic}{xs:List Str}{ow:List (Str×List T)}{df:V}{m m':Nat}{ar:Addr}{ps:List (Str×T)}(i:n9 K H f d S xs ow df m ar ps)(g:Gs f S.la H H')(s:bf K H' f d S xs ow df m'):n9 K H' f d S xs ow df m' ar ps:=by
 obtain⟨vs,h1,r1⟩:=i.aa
 obtain⟨avs,ha,_⟩:=i.sc.la
 exact⟨s,⟨vs,g.oth _ _ i.nf (HO.ne h1 ha (fun z=>nomatch z)) h1,r1.kt (Gs.kt i.sc g.oth)⟩,i.nf,i.lf,i.nd,i.pk,i.pl⟩
theorem sr{avs:List (Key×V)}{k:Key}{v:V}(h:∀kv∈avs,kv.1≠k):putK avs k v=avs++[(k,v)]:=by
 unfold putK
 have:(avs.any fun kv=>decide (kv.1=k))=false:=by
  rw[List.any_eq_false]
  intro kv hk
  simpa using h kv hk
 rw[this]
 rfl
theorem jr{tn:Int}{i j:Nat}(h:cC tn i=cC tn j):i=j:=by
 unfold cC at h
 split at h<;>omega
theorem yq{h:Hd}(a:iG [] h=[]):gl (.mk h [])=[]:=by
 unfold gl gu
 rw[a]
 rfl
theorem As(n:Int):gl (.mk (.gap n) [])=[n]:=by
 unfold gl gu
 rfl
structure Gd(tn:Int) (m m':Nat) (ts:List Tm) (dp sz:Nat):Prop where
 ok:∀t∈ts,Tok t/\t.depth<=dp
 sz:Tm.sizes ts<=sz
 le:m<=m'
 gl:gu ts=(List.range' m (m' - m)).map (cC tn)
structure yr(tn:Int) (m m':Nat) (t:Tm) (dp sz:Nat):Prop where
 ok:Tok t
 dp:t.depth<=dp
 sz:t.size<=sz
 le:m<=m'
 gl:gl t=(List.range' m (m' - m)).map (cC tn)
theorem Gd.nil{tn:Int}{m dp:Nat}:Gd tn m m [] dp 0:=⟨fun t h=>(nomatch h),Nat.le_refl _,Nat.le_refl _,by rw[Nat.sub_self];rfl⟩
theorem su:∀(a b:List Tm),gu (a++b)=gu a++gu b
 | [],b=>by rw[show gu ([]:List Tm)=[]from by unfold gu;rfl];rfl
 |k::r,b=>by
  show gu (k::(r++b))=_
  rw[show gu (k::(r++b))=G04.gl k++gu (r++b)from by rw[gu],su r b,show gu (k::r)=G04.gl k++gu r from by rw[gu],List.append_assoc]
theorem yt{m m1 m2:Nat}(h1:m<=m1)(h2:m1<=m2):List.range' m (m2-m)=List.range' m (m1-m)++List.range' m1 (m2-m1):=by
 have:=List.range'_append_1 (s:=m) (m:=m1-m) (n:=m2-m1)
 rw[show m+(m1-m)=m1 by omega,show m1-m+(m2-m1)=m2-m by omega]at this
 exact this.symm
theorem Gd.snoc{tn:Int}{m m1 m2:Nat}{ts:List Tm}{t:Tm}{dp sz s2:Nat}(a:Gd tn m m1 ts dp sz)(b:yr tn m1 m2 t dp s2):Gd tn m m2 (ts++[t]) dp (sz+s2):=by
 refine⟨fun x hx=>?_,?_,Nat.le_trans a.le b.le,?_⟩
 ·rcases List.mem_append.mp hx with h|h
  ·exact a.ok x h
  ·rw[List.mem_singleton.mp h];exact⟨b.ok,b.dp⟩
 ·rw[Tm.jb,Tm.bG]
  have:=a.sz
  have:=b.sz
  have z:Tm.sizes []=0:=rfl
  omega
 ·rw[su,a.gl,yt a.le b.le,List.map_append,←b.gl]
  rw[show gu [t]=G04.gl t from by unfold gu;unfold gu;exact List.append_nil _]
theorem Gd.tm{tn:Int}{m m':Nat}{ks:List Tm}{dp sz dp2 sz2:Nat}(a:Gd tn m m' ks dp sz){h:Hd}(ar:br h ks.length=true)(bn:∀b∈bnd h ks.length,b.length<=2/\∀x∈b,er x)(g:iG [] h=[])(e1:dp+1<=dp2)(e2:sz+1<=sz2):yr tn m m' (.mk h ks) dp2 sz2:=by
 refine⟨.mk ar bn fun k hk=>(a.ok k hk).1,Nat.le_trans (Tm.uT fun k hk=>(a.ok k hk).2) e1,?_,a.le,?_⟩
 ·rw[Tm.cF];have:=a.sz;omega
 ·rw[←a.gl]
  rw[show G04.gl (.mk h ks)=(iG [] h).map (·.1)++gu ks from by rw[G04.gl],g]
  rfl
theorem eA{n:Nat}:∀b∈List.replicate n ([]:List Str),b.length<=2/\∀x∈b,er x:=fun b hb=>by
 rw[(List.mem_replicate.mp hb).2]
 exact⟨Nat.zero_le _,fun x hx=>nomatch hx⟩
theorem BI{x:Str}{kd:Kd}(h:ik x kd≠kN):∃(fm:Str) (sub:T),ik x kd=.t [.s fm,sub]/\(fm="row"/\(kd=.R\/kd=.RK)\/fm="kind"/\kd=.K):=by
 cases kd
 ·exact absurd rfl h
 ·exact⟨_,_,rfl,.inl ⟨rfl,.inl rfl⟩⟩
 ·exact⟨_,_,rfl,.inr ⟨rfl,rfl⟩⟩
 ·exact⟨_,_,rfl,.inl ⟨rfl,.inr rfl⟩⟩
theorem wj{x:Str}{k:T}(h:k=kN\/k=kR kN):∃kd,k=ik x kd/\wR kd=0:=by
 rcases h with rfl|rfl
 ·exact⟨.N,rfl,rfl⟩
 ·exact⟨.R,rfl,rfl⟩
section
variable {K:PySem.W.Frag}{H:Hp}{f d:Addr}{S:ic}{xs:List Str}{ow:List (Str×List T)}{df:V}{m:Nat}
theorem yu(S:ic)(df:V):dY (lT S df) (ky "kinds")=some (.ref S.kd):=by kernel_rfl
theorem bf.j4(s:bf K H f d S xs ow df m):dc H d (.str "kinds") (some (.ref S.kd)):=by
 have h:=dc.k (k:=ky "kinds") s.sd
 rw[yu]at h
 exact h
theorem yw(S:ic)(df:V):dY (lT S df) (ky "names")=some (.ref S.ln):=by kernel_rfl
theorem bf.sy(s:bf K H f d S xs ow df m):dc H d (.str "names") (some (.ref S.ln)):=by
 have h:=dc.k (k:=ky "names") s.sd
 rw[yw]at h
 exact h
theorem wm(S:ic)(df:V):dY (lT S df) (ky "params")=some (.ref S.lp):=by kernel_rfl
theorem bf.lD(s:bf K H f d S xs ow df m):dc H d (.str "params") (some (.ref S.lp)):=by
 have h:=dc.k (k:=ky "params") s.sd
 rw[wm]at h
 exact h
theorem Au(S:ic)(df:V):dY (lT S df) (ky "most")=some (.int S.mo):=by kernel_rfl
theorem bf.Av(s:bf K H f d S xs ow df m):dc H d (.str "most") (some (.int S.mo)):=by
 have h:=dc.k (k:=ky "most") s.sd
 rw[Au]at h
 exact h
theorem yx(S:ic)(df:V):dY (lT S df) (ky "asked")=some (.ref S.la):=by kernel_rfl
theorem bf.jt(s:bf K H f d S xs ow df m):dc H d (.str "asked") (some (.ref S.la)):=by
 have h:=dc.k (k:=ky "asked") s.sd
 rw[yx]at h
 exact h
theorem yy(S:ic)(df:V):dY (lT S df) (ky "goals")=some (.ref S.lg):=by kernel_rfl
theorem bf.nS(s:bf K H f d S xs ow df m):dc H d (.str "goals") (some (.ref S.lg)):=by
 have h:=dc.k (k:=ky "goals") s.sd
 rw[yy]at h
 exact h
theorem Aw(S:ic)(df:V):dY (lT S df) (ky "turn")=some (.int S.tn):=by kernel_rfl
theorem bf.Ax(s:bf K H f d S xs ow df m):dc H d (.str "turn") (some (.int S.tn)):=by
 have h:=dc.k (k:=ky "turn") s.sd
 rw[Aw]at h
 exact h
theorem wo(S:ic)(df:V):dY (lT S df) (ky "called")=some (.ref S.lc):=by kernel_rfl
theorem bf.lE(s:bf K H f d S xs ow df m):dc H d (.str "called") (some (.ref S.lc)):=by
 have h:=dc.k (k:=ky "called") s.sd
 rw[wo]at h
 exact h
theorem BJ(S:ic)(df:V):dY (lT S df) (ky "def")=some (df):=by kernel_rfl
theorem bf.zf(s:bf K H f d S xs ow df m):dc H d (.str "def") (some (df)):=by
 have h:=dc.k (k:=ky "def") s.sd
 rw[BJ]at h
 exact h
theorem Ay(S:ic)(df v:V):putK (lT S df) (ky "def") v=lT S v:=by kernel_rfl
theorem bf.ask{v:V}(s:bf K H f d S xs ow df m)(h:(m:Int)<S.mo)(nd:d≠S.la)(nlf:S.la≠f):∃H',iP H S.la (.int (cC S.tn m)) v H'/\bf K H' f d S xs ow df (m+1)/\Gs f S.la H H'/\Kt H H':=by
 obtain⟨avs,ha,hk⟩:=s.la
 have hl:avs.length=m:=by have z:=congrArg List.length hk;rw[List.length_map,List.length_map,List.length_range]at z;exact z
 have mo:=s.mo
 have pp:=iP.k (k:=(Sum.inl (cC S.tn m):Key)) (v:=v) ha (aC (by omega))
 have hn:∀kv∈avs,kv.1≠(Sum.inl (cC S.tn m):Key):=by
  intro kv hm he
  have z:kv.1∈avs.map (·.1):=List.mem_map_of_mem hm
  rw[hk,he]at z
  obtain⟨i,hi,e⟩:=List.mem_map.mp z
  have:=jr (Sum.inl.inj e)
  have:=List.mem_range.mp hi
  omega
 rw[sr hn]at pp
 have oth:∀b o,b≠f->b≠S.la->H b=some o->upd H S.la (.dK (avs++[(Sum.inl (cC S.tn m),v)])) b=some o:=fun b o _ n e=>by rw[aq n];exact e
 have ff:bM (upd H S.la (.dK (avs++[(Sum.inl (cC S.tn m),v)]))) f:=by
  obtain⟨p,q,e⟩:=s.ff
  exact⟨p,q,by rw[aq nlf.symm];exact e⟩
 refine⟨_,pp,s.go oth ff ⟨_,af,?_⟩ (by omega) nd,⟨oth,ff⟩,Kt.upd ha (fun _ z=>nomatch z) (fun _ _ z=>nomatch z) _⟩
 rw[List.map_append,hk,List.range_succ,List.map_append]
 rfl
end
structure tV(K:PySem.W.Frag) (fe d:Addr) (S:ic) (xs:List Str) (ow:List (Str×List T)) (df:V) (m:Nat) (H4:Hp) (dp sz i:Nat) (us:List V) (H5:Hp):Prop where
 x:∃(ts:List Tm) (m5:Nat),Gs fe S.la H4 H5/\bf K H5 fe d S xs ow df m5/\aM K H5 (ts.map enc) us/\Gd S.tn m m5 ts dp (i*sz)/\ts.length=i
theorem tV.nil{K:PySem.W.Frag}{H:Hp}{f d:Addr}{S:ic}{xs:List Str}{ow:List (Str×List T)}{df:V}{m dp sz:Nat}(s:bf K H f d S xs ow df m):tV K f d S xs ow df m H dp sz 0 [] H:=by
 refine⟨⟨[],m,Gs.ext (Ext.refl s.ff),s,.nil,?_,rfl⟩⟩
 rw[Nat.zero_mul]
 exact .nil
theorem tV.snoc{K:PySem.W.Frag}{H4 H5 H6:Hp}{f d:Addr}{S:ic}{xs:List Str}{ow:List (Str×List T)}{df:V}{m m5 m6 dp sz i:Nat}{ts:List Tm}{us:List V}{tm:Tm}{v:V}(g5:Gs f S.la H4 H5)(s5:bf K H5 f d S xs ow df m5)(r:aM K H5 (ts.map enc) us)(gd:Gd S.tn m m5 ts dp (i*sz))(l:ts.length=i)(g6:Gs f S.la H5 H6)(s6:bf K H6 f d S xs ow df m6)(rv:Rp K H6 (enc tm) v)(g1:yr S.tn m5 m6 tm dp sz):tV K f d S xs ow df m H4 dp sz (i+1) (us++[v]) H6:=by
 refine⟨⟨ts++[tm],m6,g5.trans g6,s6,?_,?_,by rw[List.length_append,l];rfl⟩⟩
 ·rw[List.map_append]
  exact(r.kt (Gs.kt s5 g6.oth)).snoc rv
 ·rw[Nat.succ_mul]
  exact gd.snoc g1
theorem zg{α:Type}{l:List α}(h:l.length=2):∃a b,l=[a,b]:=by
 match l,h with
 | [a,b],_=>exact⟨a,b,rfl⟩
section
variable {P:Program}{w:World}{K:PySem.W.Frag}{mg:Str->Option Value}{base:Heap}{gT gS:Addr}{tfd sfd:FuncData}
theorem aG:Nm ["_law_feed_here","_law_scene_here","_law_around","_law_kind","_law_some","_law_form","_law_n","_law_t","_law_inner"] (aj cZ):=by decide +kernel
theorem eV:Lm ["_law_feed_here","_law_scene_here","_law_around","_law_kind","_law_some","_law_form","_law_n","_law_t","_law_inner"] (aj cZ):=by decide +kernel
theorem dI:aZ ["_law_feed_here","_law_scene_here","_law_around","_law_kind","_law_some","_law_form","_law_n","_law_t","_law_inner"] ["_law_feed_here","_law_scene_here","_law_around","_law_kind"] (aj cZ):=⟨rfl,rfl,rfl,by decide +kernel,rfl,by decide +kernel,by decide +kernel⟩
theorem wq{f:Addr}{fd:FuncData}{lv j:Nat}(hj:1<=j)(F:iE K "_law_small" "_law_small" cZ f fd)(TK:cR P w K mg base "_law_take" 1 ["_law_feed_here","_law_many_here"] cT gT tfd)(SM:cR P w K mg base "_law_small" j ["_law_feed_here","_law_scene_here","_law_around","_law_kind"] (jq K lv) gS sfd)(z_len:mg "len"=none)(z_list:mg "list"=none)(z_tuple:mg "tuple"=none):cA P w K mg base gv (j+1) f fd ["_law_feed_here","_law_scene_here","_law_around","_law_kind"] (jq K (lv+1)):=by
 refine F.ok dI (fun vs H Q E h=>?_) (fun cdv A outer s H vs Q E hr h=>?_)
 ·obtain⟨_,_,_,_,_,_,_,_,_,_,_,rfl,_⟩:=h
  rfl
 obtain⟨fe,d,ar,vk,S,xs,ow,df,m,ps,kd,rfl,hi,rk,hlv,k⟩:=h
 refine⟨_,(Z6 (@kH _ _ _ _ _ _ _ _ _ _ _ _ _ _ _ (aj cZ) ["_law_feed_here","_law_scene_here","_law_around","_law_kind","_law_some","_law_form","_law_n","_law_t","_law_inner"] ["_law_x","_law_one"] [3] rfl rfl rfl (by decide +kernel) (cO (va aG 2)) (fun _ _ _ _=>(Zc (2) (Zg (Z2 (i:=0) (show(["_law_x","_law_one","_law_kind"]:List Str).Nodup by decide +kernel)) (aU (Z2 (i:=1) (show(["_law_x","_law_one","_law_kind"]:List Str).Nodup by decide +kernel)) bq)))) (fun _ _ _ _=>(@kB _ _ _ (aS (yp K rfl (by show _+150<cLine;exact hr.qA)) (va (show Nm ["_law_x","_law_one","_law_kind"] _ by show _=_;kernel_rfl) 1) (va (show Nm ["_law_x","_law_one","_law_kind"] _ by show _=_;kernel_rfl) 2) (bK _)))) (fun _ _ _ _=>(va (show Nm ["_law_x","_law_one","_law_kind"] _ by show _=_;kernel_rfl) 0)) (ga dI.nd eV 4) (by kernel_rfl) (by intro _;rfl)) (Z6 (Z3 dI.nd eV 5 (Z0 TK (aA (va aG 0) (aA ak ah)))) (Z6 (Zf (PW.pt (@gC _ _ _ _ _ _ _ (aS i5 (va aG 5) ak (bK _)) (@fR _ _ _ _ (Zi i5 (Z7 iD z_len PySem.boot_len (Z1 (Zd (va aG 1)) ah)) (Zd (va aG 1)))))) (Z6 (Z3 dI.nd eV 6 (Za aT (@bj _ _ _ _ (Z1 (Zj cQ (Zj dj ak (Z7 iD z_len PySem.boot_len (Z1 (Zd (va aG 1)) ah))) ak) (Z1 (Zj ni ak (Z7 iD z_len PySem.boot_len (Z1 (Zd (va aG 1)) ah))) ah))) (Zd (va aG 1)))) (Z6 (@ir _ _ _ _ _ _ _ _ _ (jK hr) (Zd (va aG 1)) (va aG 6) (Ze (Z1 (va aG 3) (Z1 (Z5 d9 z_list PyProof.Rows.boot_list (aA (va aG 2) ah)) (Z1 (Zd (va aG 1)) ah)))) (by rfl)) (Zh (@aK _ _ _ _ (Ze (Z1 au (aA (va aG 6) ah)))))))) (Z6 (Zf (PW.pt (@gC _ _ _ _ _ _ _ (aS i5 (va aG 5) ak (bK _)) (@fR _ _ _ _ (Zi oq (Z7 bX z_len PySem.boot_len (aA (va aG 4) ah)) ak)))) (Zh (@aK _ _ _ _ (Ze (Z1 au (Z1 (Za aT (va aG 4) (Z0 TK (Z1 (va aG 0) (Z1 (Z7 bX z_len PySem.boot_len (aA (va aG 4) ah)) ah)))) ah)))))) (Z6 (Zf (aS (kF hr.qA) (va aG 3) au (bK _)) (Zh (@aK _ _ _ _ (Ze (Z1 au (Z1 (Za aT (@bj _ _ _ _ (Z1 (Z0 TK (aA (va aG 0) (aA ak ah))) (Z1 (Z0 TK (aA (va aG 0) (aA ak ah))) ah))) (Zj eZ (Z0 TK (aA (va aG 0) (aA ak ah))) ak)) ah)))))) (Z6 (Zf (Zi cu (Z8 aD (va aG 3)) au) (Zh (@aK _ _ _ _ (Ze (Z1 au (aA (bZ ah) ah)))))) (Z6 (@fT _ _ _ _ _ _ (Za aD (Za aD (Za aD (Zd (va aG 1)) ak) ak) ak) (Zc (2) (Zg (ga dI.nd eV 7) (aU (ga dI.nd eV 8) bq))) (by rfl) (by rfl) (by rfl)) (Zh (@aK _ _ _ _ (Ze (Z1 au (Z1 (va aG 7) (Z1 (Z5 aX z_tuple PyProof.Rows.boot_tuple (Z1 (Z4 (aj cZ) ["_law_feed_here","_law_scene_here","_law_around","_law_kind","_law_some","_law_form","_law_n","_law_t","_law_inner"] ["_law_one"] [0,1,2] (b7 (va aG 8)) (fun _ _ _ _=>(Z2 (i:=0) (show(["_law_one","_law_feed_here","_law_scene_here","_law_around"]:List Str).Nodup by decide +kernel))) (fun _ _ _ _=>(Z0 SM (Z1 (va (show Nm ["_law_one","_law_feed_here","_law_scene_here","_law_around"] _ by show _=_;kernel_rfl) 1) (Z1 (va (show Nm ["_law_one","_law_feed_here","_law_scene_here","_law_around"] _ by show _=_;kernel_rfl) 2) (Z1 (va (show Nm ["_law_one","_law_feed_here","_law_scene_here","_law_around"] _ by show _=_;kernel_rfl) 3) (aA (va (show Nm ["_law_one","_law_feed_here","_law_scene_here","_law_around"] _ by show _=_;kernel_rfl) 0) ah))))))) ah)) ah))))))))))))),?_⟩
 try dsimp only[dg]
 try dsimp only[dg]
 obtain⟨pvs,har,rar⟩:=hi.aa
 have lp:=rar.length
 rw[List.length_map]at lp
 have hpl:=hi.pl
 have hnd:=hi.nd
 have hlf:=hi.lf
 have hff:=hi.sc.ff
 refine oX ?_
 intro N1 N2 N3 N4 N5 N6 c1 c2 c3 c4 c5 c6
 fail "R"
 refine cy (K:=K) (a:=ar) (xs:=pvs) (fun i σ us H2=>(∃x y,σ=[x,y,some vk])/\H2=H/\∃L:List Str,us=L.map V.str/\L.length<=i/\∀x∈L,er x) ⟨⟨_,_,rfl⟩,rfl,[],rfl,Nat.le_refl _,fun x h=>by cases h⟩ ?_ (Nat.le_of_lt (aC (by omega))) ?_ ?_ ?_
 ·rintro i σ us H2 h ⟨_,_,L,rfl,hL,_⟩
  rw[List.length_map];exact hL
 ·rintro i σ us H2 h ⟨_,rfl,_⟩
  exact bJ.of har
 ·rintro i x σ us H2 hx ⟨⟨x0,y0,rfl⟩,rfl,L,rfl,hL,hnm⟩
  obtain⟨y,hy,ry⟩:=rar.get' hx
  rw[List.getElem?_map]at hy
  obtain⟨q,hq,rfl⟩:=Option.map_eq_some_iff.mp hy
  obtain⟨hq1,kq,hq2⟩:=hi.pk q (List.mem_of_getElem? hq)
  obtain⟨qa,u1,u2,rfl,qsq,g1,g2⟩:=(show Rp K H2 (.t [.s q.1,q.2]) x from ry).t2
  obtain rfl:=g1.aI
  have hdq:q.2.dep<=150:=by rw[hq2];exact nR _ _
  fail "R"
  refine cJ (fun c=>?_) (fun c=>?_)
  ·fail "R"
   ·exact(show _=(L++[q.1]).map V.str by rw[List.map_append];rfl)
   refine⟨by rw[List.length_append];show L.length+1<=i+1;omega,fun x hx=>?_⟩
   rcases List.mem_append.mp hx with h|h
   ·exact hnm x h
   ·rw[List.mem_singleton.mp h];exact hq1
  ·fail "R"
   exact hnm
 ·rintro σ us H2 ⟨_,rfl,L,rfl,hL,hnm⟩ ls hls
  have s1:=ae hls (.lst (L.map V.str))
  have h1s:upd H2 ls (.lst (L.map V.str)) ls=some (.lst (L.map V.str)):=af
  have sc1:=hi.sc.same s1 hnd
  have hi1:=hi.gs (Gs.same hff s1) sc1
  have rk1:=rk.same s1
  have g1:Gs fe S.la H2 (upd H2 ls (.lst (L.map V.str))):=Gs.same hff s1
  have nlsf:ls≠fe:=aV hff hls
  generalize upd H2 ls (.lst (L.map V.str))=H1 at s1 h1s sc1 hi1 rk1 g1⊢
  have hf1:=sc1.ff
  fail "R"
  intro fm H3 fm0 fm1 x3
  have sc3:=sc1.ext x3 hnd hlf
  have g3:=g1.trans (Gs.ext x3)
  have hi3:=hi1.gs (Gs.ext x3) sc3
  have rk3:=rk1.kt (x3.kt hf1)
  have h3s:=x3.1 _ _ nlsf h1s
  have leaf:∀(h:Hd) (v:V) (H':Hp),br h 0=true->bnd h 0=[]->iG [] h=[]->Gs fe S.la H2 H'->bf K H' fe d S xs ow df m->Rp K H' (c9 h []) v->Q v H':=by
   intro h v H' a1 a2 a3 g' s' r'
   refine k v H' (.mk h []) m g' s' (by rw[aW];exact r') (.mk a1 (fun b hb=>?_) (fun k hk=>by cases hk)) (Nat.zero_le _) (by show 1<=_;omega) (Nat.le_refl _) ?_
   ·rw[show bnd h ([]:List Tm).length=[]from a2]at hb;cases hb
   ·rw[yq a3,Nat.sub_self];rfl
  have rest:N3 [some (.ref fe),some (.ref d),some (.ref ar),some vk,some (.ref ls),some (.int fm),none,none,none] H3:=by
   have hf3:=sc3.ff
   have ll:L.length<=20:=by omega
   have rest2:∀(H4:Hp),Ext fe H3 H4->N4 [some (.ref fe),some (.ref d),some (.ref ar),some vk,some (.ref ls),some (.int fm),none,none,none] H4:=by
    intro H4 x4
    have hf4:=x4.2
    have rk4:=rk3.kt (x4.kt hf3)
    have sc4:=sc3.ext x4 hnd hlf
    have g4:=g3.trans (Gs.ext x4)
    have hdk:=nR (wf xs 0) kd
    have rest3:ik (wf xs 0) kd≠kN->N5 [some (.ref fe),some (.ref d),some (.ref ar),some vk,some (.ref ls),some (.int fm),none,none,none] H4:=by
     intro nk
     obtain⟨fm5,sub5,e5,hk5⟩:=BI nk
     rw[e5]at rk4
     obtain⟨ka,k1,k2,rfl,ksq,g1,g2⟩:=rk4.t2
     obtain rfl:=g1.aI
     have rest4:kd=.K->N6 [some (.ref fe),some (.ref d),some (.ref ar),some (.ref ka),some (.ref ls),some (.int fm),none,none,none] H4:=by
      rintro rfl
      obtain⟨qa,q1,eq1,qsq,r1⟩:=sc4.kd.t1
      obtain⟨qb,q2,q3,rfl,bsq,r2,r3⟩:=r1.t2
      obtain⟨hw1,hw2⟩:=sc4.ow
      obtain⟨o1,o2,rfl⟩:=zg hw1
      obtain⟨qc,q4,q5,rfl,csq,r4,r5⟩:=r3.t2
      obtain⟨qd,q6,q7,rfl,dsq,r6,r7⟩:=(show Rp K H4 (.t [.s o1.1,.t o1.2]) q4 from r4).t2
      obtain rfl:=r6.aI
      obtain⟨ia,iv,rfl,isq,ris⟩:=r7.aH
      cases eq1
      have hg:=sc4.j4
      have li:=ris.length
      obtain⟨_,hl2,hkk⟩:=hw2 o1 (.head _)
      have hi4:=hi3.gs (Gs.ext x4) sc4
      fail "R"
      refine bT (K:=K) (xs:=iv) (fun i σ us H5=>(∃x,σ=[x,some (.ref fe),some (.ref d),some (.ref ar)])/\tV K fe d S xs [o1,o2] df m H4 0 1 i us H5) ⟨⟨_,rfl⟩,tV.nil sc4⟩ ?_ (small (by omega)) ?_ ?_ ?_
      ·rintro i σ us H5 h ⟨_,⟨ts,m5,_,_,r,_,e⟩⟩
       rw[r.length,List.length_map,e];exact Nat.le_refl _
      ·rintro i σ us H5 h ⟨_,⟨ts,m5,g,_,_⟩⟩
       exact isq.kt (Gs.kt sc4 g.oth)
      ·rintro i x σ us H5 hx ⟨⟨x0,rfl⟩,⟨ts,m5,g5,cH,rts,gd,lts⟩⟩
       obtain⟨y,hy,ry⟩:=ris.get' hx
       obtain⟨kd5,rfl,hl0⟩:=wj (x:=wf xs 0) (hkk y (List.mem_of_getElem? hy))
       have hi5:=hi4.gs g5 cH
       have ry5:=ry.kt (Gs.kt sc4 g5.oth)
       have hl5:wR kd5<lv:=by rw[hl0];have:wR Kd.K=1:=rfl;omega
       fail "R"
       intro v6 H6 tm m6 g6 sc6 rv6 tok d6 z6 le6 gl6
       rw[hl0]at d6 z6
       fail "R"
       exact tV.snoc g5 cH rts gd lts g6 sc6 rv6 ⟨tok,d6,z6,le6,gl6⟩
      ·rintro σ us H5 ⟨_,⟨ts,m5,g5,cH,rts,gd,lts⟩⟩ p5 hp5
       have lus:=rts.length
       rw[List.length_map]at lus
       have s6:=ae hp5 (.lst us)
       have h6:upd H5 p5 (.lst us) p5=some (.lst us):=af
       have g6:=g5.trans (Gs.same cH.ff s6)
       have sc6:=cH.same s6 hnd
       have rt6:=rts.same s6
       generalize upd H5 p5 (.lst us)=H6 at s6 h6 g6 sc6 rt6⊢
       fail "R"
       refine .inl ⟨bJ.of h6,?_⟩
       intro p7 hp7
       have s7:=ae hp7 (.tup us)
       have r7:=Rp.new (K:=K) hp7 rt6
       have g7:=g6.trans (Gs.same sc6.ff s7)
       have sc7:=sc6.same s7 hnd
       generalize upd H6 p7 (.tup us)=H7 at s7 r7 g7 sc7⊢
       fail "R"
       intro p8 hp8
       have s8:=ae hp8 (.tup [.str "tag",.str o1.1,.ref p7])
       have gd2:=gd.tm (h:=.tag o1.1) rfl eA rfl (dp2:=1) (sz2:=3) (Nat.le_refl _) (by omega)
       refine k _ _ (.mk (.tag o1.1) ts) m5 ((g4.trans g7).trans (Gs.same sc7.ff s8)) (sc7.same s8 hnd) ?_ gd2.ok gd2.dp gd2.sz gd2.le gd2.gl
       rw[aW]
       exact Rp.new (K:=K) hp8 (.cons .s (.cons .s (.one r7)))
     clear c6
     fail "R"
     refine cJ (fun c=>?_) (fun c=>?_)
     ·fail "R"
      intro p9 hp9
      have s9:=ae hp9 (.tup [])
      have r9:=Rp.new (K:=K) hp9 .nil
      generalize upd H4 p9 (.tup [])=H9 at s9 r9⊢
      fail "R"
      intro p10 hp10
      have s10:=ae hp10 (.tup [.str "row",.ref p9])
      have x10:=((Ext.refl hf4).same s9).same s10
      exact leaf .row _ _ rfl rfl rfl (g4.trans (Gs.ext x10)) (sc4.ext x10 hnd hlf) (Rp.new (K:=K) hp10 (.cons .s (.one r9)))
     ·fail "R"
      refine rest4 ?_
      rcases hk5 with⟨rfl,_⟩|h
      ·exact absurd rfl c
      ·exact h.2
    clear c5
    have rN:Rp K H4 kN (.str "num"):=.s
    fail "R"
    refine cJ (fun c=>?_) (fun c=>?_)
    ·fail "R"
     intro r5 H5 r50 r51 x5
     have hf5:=x5.2
     fail "R"
     intro r6 H6 r60 r61 x6
     have hf6:=x6.2
     fail "R"
     intro lq hlq
     have s7:=ae hlq (.lst [.int r5,.int r6])
     have h7q:upd H6 lq (.lst [.int r5,.int r6]) lq=some (.lst [.int r5,.int r6]):=af
     have x7:Ext fe H4 (upd H6 lq (.lst [.int r5,.int r6])):=(x5.trans x6).same s7
     have nqf:lq≠fe:=aV hf6 hlq
     generalize upd H6 lq (.lst [.int r5,.int r6])=H7 at s7 h7q x7⊢
     have hf7:=x7.2
     fail "R"
     intro r8 H8 r80 r81 x8
     have h8q:=x8.1 _ _ nqf h7q
     have hix:∃n:Int,iI [V.int r5,V.int r6] (r8 / 3)=some (.int n):=by
      obtain⟨v,hv,hm⟩:=jB (xs:=[V.int r5,V.int r6]) (k:=r8 / 3) (by omega) (by show r8 / 3<2;omega)
      simp only[List.mem_cons,List.not_mem_nil,or_false]at hm
      rcases hm with rfl|rfl<;>exact⟨_,hv⟩
     obtain⟨n,hix⟩:=hix
     fail "R"
     intro p9 hp9
     have s9:=ae hp9 (.tup [.str "num",.int n])
     have x9:=(x7.trans x8).same s9
     exact leaf (.num n) _ _ rfl rfl rfl (g4.trans (Gs.ext x9)) (sc4.ext x9 hnd hlf) (Rp.t (aJ.of af) (.cons .s (.one .i)))
    ·fail "R"
     exact rest3 fun z=>c (decide_eq_true z)
   clear c4
   fail "R"
   refine cJ (fun c=>?_) (fun c=>?_)
   ·fail "R"
    refine cJ (fun c2=>?_) (fun c2=>?_)
    ·have c2':(0:Int)<((L.map V.str).length:Int):=of_decide_eq_true c2
     have ll2:((L.map V.str).length:Int)<1073741824:=by rw[List.length_map];omega
     fail "R"
     intro r5 H5 r50 r51 x5
     have h5s:=x5.1 _ _ nlsf h3s
     obtain⟨v5,hv5,hm5⟩:=jB (xs:=L.map V.str) r50 r51
     obtain⟨y5,hy5,rfl⟩:=List.mem_map.mp hm5
     fail "R"
     intro p6 hp6
     have s6:=ae hp6 (.tup [.str "name",.str y5])
     have x6:=x5.same s6
     exact leaf (.name y5) _ _ rfl rfl rfl (g3.trans (Gs.ext x6)) (sc3.ext x6 hnd hlf) (Rp.t (aJ.of af) (.cons .s (.one .s)))
    ·fail "R"
     exact rest2 H3 (Ext.refl hf3)
   ·fail "R"
    exact rest2 H3 (Ext.refl hf3)
  have hg:=sc3.jt
  have hg2:=sc3.Av
  obtain⟨avs,hav,hak⟩:=sc3.la
  clear c3
  fail "R"
  have lav:avs.length=m:=by have z:=congrArg List.length hak;rw[List.length_map,List.length_map,List.length_range]at z;exact z
  have mo5:=sc3.mo
  refine cJ (fun c=>?_) (fun c=>?_)
  ·fail "R"
   refine cJ (fun c2=>?_) (fun c2=>?_)
   ·have c3:(avs.length:Int)<S.mo:=of_decide_eq_true c2
    rw[lav]at c3
    fail "R"
    intro lq hlq
    have s5:=ae hlq (.lst [.int (7*(avs.length:Int)+3),.int (99 - (avs.length:Int))])
    have h5:upd H3 lq (.lst [.int (7*(avs.length:Int)+3),.int (99 - (avs.length:Int))]) lq=some (.lst [.int (7*(avs.length:Int)+3),.int (99 - (avs.length:Int))]):=af
    generalize upd H3 lq (.lst [.int (7*(avs.length:Int)+3),.int (99 - (avs.length:Int))])=H5 at s5 h5⊢
    have cH:=sc3.same s5 hnd
    have g35:Gs fe S.la H3 H5:=Gs.same sc3.ff s5
    have g5:=g3.trans g35
    obtain⟨pv5,ha5,_⟩:=(hi3.gs g35 cH).aa
    have hl5:bJ K H5 ar pv5\/aJ K H5 ar pv5:=.inl (bJ.of ha5)
    have rk5:=rk3.same s5
    have hgt:=cH.Ax
    have hga:=cH.jt
    have hgd:=cH.zf
    have hat:iI [V.int (7*(avs.length:Int)+3),.int (99 - (avs.length:Int))] S.tn=some (.int (cC S.tn m)):=by
     rw[lav]
     rcases cH.tn with e|e
     ·rw[e];exact bC (j:=0) rfl
     ·rw[e];exact bC (j:=1) rfl
    fail "R"
    intro l6 hl6
    have s6:=ae hl6 (.lst pv5)
    generalize upd H5 l6 (.lst pv5)=H6 at s6⊢
    have sc6:=cH.same s6 hnd
    have g6:=g5.trans (Gs.same cH.ff s6)
    have hgd:=sc6.zf
    fail "R"
    intro l7 hl7
    have s7:=ae hl7 (.tup [vk,.ref l6,df])
    generalize upd H6 l7 (.tup [vk,.ref l6,df])=H7 at s7⊢
    have sc7:=sc6.same s7 hnd
    have g7:=g6.trans (Gs.same sc6.ff s7)
    have hga:=sc7.jt
    obtain⟨H8,p8,sc8,g8,k8⟩:=sc7.ask (v:=.ref l7) c3 hnd hlf
    fail "R"
    intro l9 hl9
    have s9:=ae hl9 (.tup [.str "gap",.int (cC S.tn m)])
    refine k _ _ (.mk (.gap (cC S.tn m)) []) (m+1) ((g7.trans g8).trans (Gs.same sc8.ff s9)) (sc8.same s9 hnd) ?_ (.mk rfl (fun b hb=>nomatch hb) (fun k hk=>nomatch hk)) (Nat.zero_le _) (by show 1<=_;omega) (Nat.le_succ _) ?_
    ·rw[aW]
     exact Rp.new (K:=K) hl9 (.cons .s (.one .i))
    ·rw[As,Nat.add_sub_cancel_left]
     rfl
   ·fail "R"
    exact rest
  ·fail "R"
   exact rest
end
theorem tX{K:PySem.W.Frag}{H H':Hp}{xs:List Str}{ns:List T}{tvs:List V}{ts:List Addr}(hl:xs.length=ns.length)(z:Ab (xs.map V.str) tvs ts H H')(r:aM K H ns tvs):aM K H' ((xs.zip ns).map AW) (ts.map V.ref):=by
 obtain⟨sm,len,at_⟩:=z
 have lr:=r.length
 rw[List.length_map]at len
 have key:∀(n:Nat),n<=xs.length->aM K H' (((xs.zip ns).take n).map AW) ((ts.take n).map V.ref):=by
  intro n
  induction n with
  |zero=>intro _;exact .nil
  |succ n ih =>
   intro hn
   have hx:n<xs.length:=hn
   have hnn:n<ns.length:=by omega
   have ht:n<ts.length:=by omega
   have hz:n<(xs.zip ns).length:=by rw[List.length_zip];omega
   rw[List.take_succ_eq_append_getElem hz,List.take_succ_eq_append_getElem ht,List.map_append,List.map_append]
   refine(ih (by omega)).append (.one ?_)
   obtain⟨x,y,e1,e2,e3⟩:=at_ n _ (List.getElem?_eq_getElem ht)
   obtain⟨t,et,rt⟩:=r.get' e2
   rw[List.getElem?_map,List.getElem?_eq_getElem hx]at e1
   rw[List.getElem?_eq_getElem hnn]at et
   simp at e1 et
   subst e1 et
   rw[List.getElem_zip]
   exact Rp.t (aJ.of e3) (.cons .s (.one (rt.same sm)))
 have:=key xs.length (Nat.le_refl _)
 rwa [List.take_of_length_le (by rw[List.length_zip];omega),List.take_of_length_le (by omega)]at this
noncomputable def lim:Nat->Int
 |0=>1
 |1=>4
 |2=>6
 |3=>9
 |4=>14
 |5=>21
 |_=>32
theorem wu(n:Nat):lim n<=32:=by
 match n with
 |0=>decide
 |1=>decide
 |2=>decide
 |3=>decide
 |4=>decide
 |5=>decide
 |n+6=>exact Int.le_refl _
theorem nT{n:Nat}{r:Int}(h:4<=r)(l:r<lim (n+1)):r*2 / 3<lim n:=by
 match n with
 |0=>have:r<4:=l;omega
 |1=>have:r<6:=l;show _<(4:Int);omega
 |2=>have:r<9:=l;show _<(6:Int);omega
 |3=>have:r<14:=l;show _<(9:Int);omega
 |4=>have:r<21:=l;show _<(14:Int);omega
 |5=>have:r<32:=l;show _<(21:Int);omega
 |n+6=>have:r<32:=l;show _<(32:Int);omega
theorem wz{n:Nat}{r:Int}(h:4<=r)(l:r<lim (n+1)):(r-1) / 2<lim n:=by have:=nT h l;omega
theorem tY{n:Nat}{r:Int}(h:4<=r)(l:r<lim (n+1)):(r-1) / 3<lim n:=by have:=nT h l;omega
noncomputable def lF(K:PySem.W.Frag)(n:Nat):Sp:=fun vs H Q _=>∃(f d ar:Addr) (vk:V) (room:Int) (S:ic) (xs:List Str) (ow:List (Str×List T)) (df:V) (m:Nat) (ps:List (Str×T)) (kd:Kd),vs=[.ref f,.ref d,.ref ar,vk,.int room]/\n9 K H f d S xs ow df m ar ps/\Rp K H (ik (wf xs 0) kd) vk/\1<=room/\room<lim n/\ps.length+2*n<=18 /\
 ∀(v:V) (H':Hp) (tm:Tm) (m':Nat),Gs f S.la H H'->bf K H' f d S xs ow df m'->Rp K H' (enc tm) v->yr S.tn m m' tm (n+1) (3*room).toNat->Q v H'
noncomputable def pU(K:PySem.W.Frag)(n:Nat):Sp:=fun vs H Q _=>∃(f d ar:Addr) (vk:V) (room form:Int) (S:ic) (xs:List Str) (ow:List (Str×List T)) (df:V) (m:Nat) (ps:List (Str×T)) (kd:Kd),vs=[.ref f,.ref d,.ref ar,vk,.int room,.int form]/\n9 K H f d S xs ow df m ar ps/\Rp K H (ik (wf xs 0) kd) vk/\4<=room/\room<lim n/\0<=form/\form<4/\ps.length+2*n<=18 /\
 ∀(v:V) (H':Hp) (tm:Tm) (m':Nat),Gs f S.la H H'->bf K H' f d S xs ow df m'->Rp K H' (enc tm) v->yr S.tn m m' tm (n+1) (3*room).toNat->Q v H'
structure Wk(K:PySem.W.Frag) (fe d:Addr) (S:ic) (xs:List Str) (ow:List (Str×List T)) (df:V) (m:Nat) (H:Hp) (dp sz:Nat) (ts:List Tm) (us:List V) (m5:Nat) (H5:Hp):Prop where
 g:Gs fe S.la H H5
 s:bf K H5 fe d S xs ow df m5
 r:aM K H5 (ts.map enc) us
 d:Gd S.tn m m5 ts dp sz
section
variable {K:PySem.W.Frag}{H H5 H6:Hp}{f d ar:Addr}{S:ic}{xs:List Str}{ow:List (Str×List T)}{df:V}{m m5 m6 dp sz:Nat}{ts:List Tm}{us:List V}{ps:List (Str×T)}
theorem Wk.nil(i:n9 K H f d S xs ow df m ar ps):Wk K f d S xs ow df m H dp 0 [] [] m H:=⟨Gs.ext (Ext.refl i.sc.ff),i.sc,.nil,.nil⟩
theorem Wk.same(w:Wk K f d S xs ow df m H dp sz ts us m5 H5)(i:n9 K H f d S xs ow df m ar ps)(e:aL H5 H6):Wk K f d S xs ow df m H dp sz ts us m5 H6:=⟨w.g.trans (Gs.same w.s.ff e),w.s.same e i.nd,w.r.same e,w.d⟩
theorem Wk.ext(w:Wk K f d S xs ow df m H dp sz ts us m5 H5)(i:n9 K H f d S xs ow df m ar ps)(e:Ext f H5 H6):Wk K f d S xs ow df m H dp sz ts us m5 H6:=⟨w.g.trans (Gs.ext e),w.s.ext e i.nd i.lf,w.r.kt (e.kt w.s.ff),w.d⟩
theorem Wk.snoc{s2:Nat}{tm:Tm}{v:V}(w:Wk K f d S xs ow df m H dp sz ts us m5 H5)(g6:Gs f S.la H5 H6)(s6:bf K H6 f d S xs ow df m6)(rv:Rp K H6 (enc tm) v)(g1:yr S.tn m5 m6 tm dp s2):Wk K f d S xs ow df m H dp (sz+s2) (ts++[tm]) (us++[v]) m6 H6:=by
 refine⟨w.g.trans g6,s6,?_,w.d.snoc g1⟩
 rw[List.map_append]
 exact(w.r.kt (Gs.kt w.s g6.oth)).snoc rv
theorem Wk.nU(w:Wk K f d S xs ow df m H dp sz ts us m5 H5)(i:n9 K H f d S xs ow df m ar ps):n9 K H5 f d S xs ow df m5 ar ps:=i.gs w.g w.s
theorem Wk.rp(w:Wk K f d S xs ow df m H dp sz ts us m5 H5)(i:n9 K H f d S xs ow df m ar ps){x:T}{v:V}(r:Rp K H x v):Rp K H5 x v:=r.kt (Gs.kt i.sc w.g.oth)
theorem n9.near{p:Addr}{qs:List (Str×T)}(i:n9 K H f d S xs ow df m ar ps)(hq:∀q∈qs,er q.1/\∃kd,q.2=ik (wf xs 0) kd)(hl:ps.length+qs.length<=20)(s:aL H H6)(hp:H p=none)(a:iF K H6 p (iM ps qs)):n9 K H6 f d S xs ow df m p (iM ps qs):=by
 refine⟨i.sc.same s i.nd,a,aV i.sc.ff hp,i.lf,i.nd,fun q hm=>?_,?_⟩
 ·rcases List.mem_append.mp hm with h|h
  ·exact i.pk q (List.mem_filter.mp h).1
  ·exact hq q h
 ·unfold iM
  rw[List.length_append]
  have:=List.length_filter_le (fun p=>!decide (p.1∈qs.map (·.1))) ps
  omega
theorem lG(ps qs:List (Str×T)):(iM ps qs).length<=ps.length+qs.length:=by
 unfold iM
 rw[List.length_append]
 have:=List.length_filter_le (fun p=>!decide (p.1∈qs.map (·.1))) ps
 omega
theorem bf.goal(s:bf K H f d S xs ow df m){r:Int}(h0:0<=r)(h1:r<4):∃gvs v kd,bJ K H S.lg gvs/\iI gvs r=some v/\Rp K H (ik (wf xs 0) kd) v:=by
 obtain⟨gvs,hg,rg⟩:=s.lg
 obtain⟨j,rfl⟩:∃j:Nat,r=(j:Int):=⟨r.toNat,by omega⟩
 have hk:∃kd,(qM (wf xs 0))[j]?=some (ik (wf xs 0) kd):=by
  match j,h1 with
  |0,_=>exact⟨.N,rfl⟩
  |1,_=>exact⟨.R,rfl⟩
  |2,_=>exact⟨.K,rfl⟩
  |3,_=>exact⟨.RK,rfl⟩
  |j+4,h=>omega
 obtain⟨kd,hk⟩:=hk
 obtain⟨v,hv,rv⟩:=rg.get hk
 exact⟨gvs,v,kd,bJ.of hg,bC hv,rv⟩
theorem bf.nm(s:bf K H f d S xs ow df m){x:Str}(h:x∈xs):er x:=s.lo x h
theorem bf.name(s:bf K H f d S xs ow df m){r:Int}(h0:0<=r)(h1:r<4):∃x,er x/\iI (((xs.drop 3).take 4).map V.str) r=some (.str x):=by
 have l:=s.lx
 obtain⟨v,hv,hm⟩:=jB (xs:=((xs.drop 3).take 4).map V.str) (k:=r) h0 (by rw[List.length_map,List.length_take,List.length_drop,l];exact h1)
 obtain⟨x,hx,rfl⟩:=List.mem_map.mp hm
 exact⟨x,s.lo x (List.mem_of_mem_drop (List.mem_of_mem_take hx)),hv⟩
end
section
variable {K:PySem.W.Frag}{H H4 H5 H6:Hp}{f d ar:Addr}{S:ic}{xs:List Str}{ow:List (Str×List T)}{df:V}{m m5 m6 dp sz:Nat}{ts:List Tm}{us:List V}{ps:List (Str×T)}
theorem Wk.nn(w:Wk K f d S xs ow df m H dp sz ts us m5 H5){p:Addr}(hp:H5 p=none):H p=none:=by
 obtain⟨a,b,hf⟩:=w.s.ff
 obtain⟨avs,ha,_⟩:=w.s.la
 cases e:H p with
 |none=>rfl
 |some o =>
  have n1:p≠f:=fun z=>by subst z;rw[hf]at hp;cases hp
  have n2:p≠S.la:=fun z=>by rw[z,ha]at hp;cases hp
  rw[w.g.oth p o n1 n2 e]at hp
  cases hp
theorem Wk.put(w:Wk K f d S xs ow df m H dp sz ts us m5 H5)(i:n9 K H f d S xs ow df m ar ps){p:Addr}(hp:H p=none){vs ws:List V}(h:H5 p=some (.lst vs)):Wk K f d S xs ow df m H dp sz ts us m5 (upd H5 p (.lst ws)):=by
 have oth:∀b o,b≠f->b≠S.la->H b=some o->upd H5 p (.lst ws) b=some o:=fun b o n1 n2 e=>by
  rw[aq (aB e hp)];exact w.g.oth b o n1 n2 e
 have ff:bM (upd H5 p (.lst ws)) f:=by
  obtain⟨a,b,e⟩:=w.s.ff
  obtain⟨a',b',e'⟩:=i.sc.ff
  exact⟨a,b,by rw[aq (aB e' hp)];exact e⟩
 obtain⟨avs,ha,hk⟩:=w.s.la
 obtain⟨avs',ha',_⟩:=i.sc.la
 exact⟨⟨oth,ff⟩,i.sc.go oth ff ⟨avs,by rw[aq (aB ha' hp)];exact ha,hk⟩ w.s.mm i.nd,w.r.kt (Kt.upd h (fun _ z=>nomatch z) (fun _ _ z=>nomatch z) _),w.d⟩
theorem Az{x y:Str}{k:Nat}(h:k<=2):bF [V.str x,.str y] none (some (k:Int))=([x,y].take k).map V.str:=by
 match k,h with
 |0,_=>rfl
 |1,_=>rfl
 |2,_=>rfl
structure MI(K:PySem.W.Frag) (fe d:Addr) (S:ic) (xs:List Str) (ow:List (Str×List T)) (df:V) (m:Nat) (H H4:Hp) (dp sz:Nat) (tm3:Tm) (v3:V) (p4:Addr) (j:Nat) (H5:Hp):Prop where
 x:∃(arms:List (Str×List Str)) (ts:List Tm) (us avs:List V) (m5:Nat),Wk K fe d S xs ow df m H dp ((1+j)*sz) (tm3::ts) (v3::us) m5 H5/\Kt H4 H5/\H5 p4=some (.lst avs)/\aM K H5 (List.zipWith gU arms (ts.map enc)) avs/\arms.length=j/\ts.length=j/\∀a∈arms,a.2.length<=2/\∀z∈a.2,er z
theorem pV:∀{arms:List (Str×List Str)}{ts:List T}(a:Str×List Str) (t:T),arms.length=ts.length->List.zipWith gU (arms++[a]) (ts++[t])=List.zipWith gU arms ts++[gU a t]
 | [],[],_,_,_=>rfl
 |b::r,u::q,a,t,h=>by
  show gU b u::List.zipWith gU (r++[a]) (q++[t])=_
  rw[pV a t (Nat.succ.inj h)]
  rfl
end
theorem AA{x:Str}{kd:Kd}(h:ik x kd≠kN):(∃kd',ik x kd=.t [.s "row",ik x kd'])\/(kd=.K/\ik x kd=.t [.s "kind",.s x]):=by
 cases kd
 ·exact absurd rfl h
 ·exact .inl ⟨.N,rfl⟩
 ·exact .inr ⟨rfl,rfl⟩
 ·exact .inl ⟨.K,rfl⟩
theorem AB(kd:Kd):wR kd<=1:=by cases kd<;>decide
section
variable {P:Program}{w:World}{K:PySem.W.Frag}{mg:Str->Option Value}{base:Heap}{gT gE gN:Addr}{tfd efd nfd:FuncData}
theorem ai:Nm ["_law_feed_here","_law_scene_here","_law_around","_law_kind","_law_room","_law_form","_law_share","_law_x","_law_y","_law_goal","_law_one","_law_first","_law_arms","_law_t","_law_inner","_law_names_here","_law_more"] (aj dF):=by decide +kernel
theorem bN:Lm ["_law_feed_here","_law_scene_here","_law_around","_law_kind","_law_room","_law_form","_law_share","_law_x","_law_y","_law_goal","_law_one","_law_first","_law_arms","_law_t","_law_inner","_law_names_here","_law_more"] (aj dF):=by decide +kernel
theorem bg:aZ ["_law_feed_here","_law_scene_here","_law_around","_law_kind","_law_room","_law_form","_law_share","_law_x","_law_y","_law_goal","_law_one","_law_first","_law_arms","_law_t","_law_inner","_law_names_here","_law_more"] ["_law_feed_here","_law_scene_here","_law_around","_law_kind","_law_room","_law_form"] (aj dF):=⟨rfl,rfl,rfl,by decide +kernel,rfl,by decide +kernel,by decide +kernel⟩
theorem tZ{f:Addr}{fd:FuncData}{n j:Nat}(hj:1<=j)(F:iE K "_law_looked" "_law_looked" dF f fd)(TK:cR P w K mg base "_law_take" 1 ["_law_feed_here","_law_many_here"] cT gT tfd)(NE:cR P w K mg base "_law_near" 1 ["_law_around","_law_more"] (qJ K) gN nfd)(TE:cR P w K mg base "_law_term" j ["_law_feed_here","_law_scene_here","_law_around","_law_kind","_law_room"] (lF K n) gE efd)(z_len:mg "len"=none)(z_list:mg "list"=none)(z_tuple:mg "tuple"=none)(z_zip:mg "zip"=none):cA P w K mg base gv (j+1) f fd ["_law_feed_here","_law_scene_here","_law_around","_law_kind","_law_room","_law_form"] (pU K (n+1)):=by
 refine F.ok bg (fun vs H Q E h=>?_) (fun cdv A outer s H vs Q E hr h=>?_)
 ·obtain⟨_,_,_,_,_,_,_,_,_,_,_,_,_,rfl,_⟩:=h
  rfl
 obtain⟨fe,d,ar,vk,room,form,S,xs,ow,df,m,ps,kd,rfl,hi,rk,r4,rl,fm0,fm4,hpl,k⟩:=h
 refine⟨_,(Z6 (Z3 bg.nd bN 6 (Zj eZ (bw ni (va ai 4) ak) ak)) (Z6 (@uw _ _ (7) (8) _ _ _ _ _ _ _ _ _ _ _ rfl bg.nd rfl rfl (by decide) rfl rfl (Z1 (Za aT (Zd (va ai 1)) (Z0 TK (aA (va ai 0) (aA ak ah)))) (Z1 (Za aT (Zd (va ai 1)) ak) ah)) (by rfl) (by rfl)) (Z6 (Zf (aS cu (va ai 5) ak (bK _)) (Z6 (Z3 bg.nd bN 9 (Za aT (Zd (va ai 1)) (Z0 TK (aA (va ai 0) (aA ak ah))))) (Z6 (Z3 bg.nd bN 10 (Z0 TE (Z1 (va ai 0) (Z1 (va ai 1) (Z1 (va ai 2) (Z1 (va ai 9) (aA (va ai 6) ah))))))) (Zh (@aK _ _ _ _ (Ze (Z1 au (Z1 (va ai 7) (Z1 (va ai 10) (Z1 (Z0 TE (Z1 (va ai 0) (Z1 (va ai 1) (Z1 (Z0 NE (Z1 (va ai 2) (Z1 (@bj _ _ _ _ (Z1 (Ze (Z1 (va ai 7) (aA (va ai 9) ah))) ah)) ah))) (Z1 (va ai 3) (aA (va ai 6) ah)))))) ah)))))))))) (Z6 (Z3 bg.nd bN 11 (Z0 TE (Z1 (va ai 0) (Z1 (va ai 1) (Z1 (va ai 2) (Z1 (Za aT (Zd (va ai 1)) (Za aT (@bj _ _ _ _ (Z1 ak (Z1 ak (aA ak (aA ak ah))))) (va ai 5))) (aA (va ai 6) ah))))))) (Z6 (Zf (aS cu (va ai 5) ak (bK _)) (Z6 (sa bg.nd bN 12 (bj ah)) (Z6 (@fV _ _ _ _ _ _ _ _ PassesOwn.never rfl (@b7 _ _ _ _ (Za aD (Za aD (Zd (va ai 1)) ak) ak)) (Zc (2) (Zg (ga bg.nd bN 13) (aU (ga bg.nd bN 14) bq))) (Z6 (Z3 bg.nd bN 15 (@b8 _ _ _ _ _ _ _ _ _ _ d8 (@bj _ _ _ _ (Z1 (va ai 7) (aA (va ai 8) ah))) cE (@bV _ _ _ (Z7 bX z_len PySem.boot_len (aA (va ai 14) ah))))) (Z6 (Z3 bg.nd bN 16 (Z0 NE (Z1 (va ai 2) (Z1 (pJ rfl (by show _=_;kernel_rfl) z_list (by show _=_;kernel_rfl) z_zip (Z1 (va ai 15) (aA (va ai 14) ah))) ah)))) (Zh (@cS _ _ _ _ (Zb PySem.F.slot_list_append PySem.F.type_list_append dB (va ai 12) (Z1 (Ze (Z1 (va ai 13) (Z1 (Z5 aX z_tuple PyProof.Rows.boot_tuple (aA (va ai 15) ah)) (Z1 (Z0 TE (Z1 (va ai 0) (Z1 (va ai 1) (Z1 (va ai 16) (Z1 (va ai 3) (aA (va ai 6) ah)))))) ah)))) ah)) (by rfl))))) (by intro _;rfl)) (Zh (@aK _ _ _ _ (Ze (Z1 au (Z1 (va ai 11) (Z1 (Z5 aX z_tuple PyProof.Rows.boot_tuple (aA (va ai 12) ah)) ah))))))))) (Z6 (Z3 bg.nd bN 10 (Z0 TE (Z1 (va ai 0) (Z1 (va ai 1) (Z1 (va ai 2) (Z1 (va ai 3) (aA (va ai 6) ah))))))) (Z6 (Zf (aS cu (va ai 5) ak (bK _)) (Zh (@aK _ _ _ _ (Ze (Z1 au (Z1 (va ai 11) (Z1 (va ai 10) (Z1 (Z0 TE (Z1 (va ai 0) (Z1 (va ai 1) (Z1 (va ai 2) (Z1 (va ai 3) (aA (va ai 6) ah)))))) ah)))))))) (Z6 (Z3 bg.nd bN 16 (Z0 NE (Z1 (va ai 2) (Z1 (@bj _ _ _ _ (Z1 (Ze (aA (va ai 7) (aA au ah))) (Z1 (Ze (Z1 (va ai 8) (aA (va ai 3) ah))) ah))) ah)))) (Zh (@aK _ _ _ _ (Ze (Z1 au (Z1 (va ai 11) (Z1 (va ai 7) (Z1 (va ai 8) (Z1 (va ai 10) (Z1 (Z0 TE (Z1 (va ai 0) (Z1 (va ai 1) (Z1 (va ai 16) (Z1 (va ai 3) (aA (va ai 6) ah)))))) ah))))))))))))))))),?_⟩
 try dsimp only[dg]
 try dsimp only[dg]
 have hls:=tY r4 rl
 have hll:=wu (n+1)
 have hpn:ps.length+2*n<=18:=by omega
 have hp20:ps.length<=20:=hi.pl
 have hg0:=hi.sc.sy
 have hff:=hi.sc.ff
 fail "R"
 intro r1 H1 r10 r11 x1
 have w1:=(Wk.nil (dp:=n+1) hi).ext hi x1
 obtain⟨x,hx,ax⟩:=w1.s.name r10 (by omega)
 obtain⟨y,hy,ay⟩:=w1.s.name (r:=3) (by decide) (by decide)
 have hg1:=w1.s.sy
 have hl1:=bJ.of (K:=K) w1.s.ln
 have hG1:=w1.s.nS
 have hi1:=w1.nU hi
 have rk1:=w1.rp hi rk
 have hf1:=w1.s.ff
 fail "R"
 refine cJ (fun c=>?_) (fun c=>?_)
 ·fail "R"
  intro r2 H2 r20 r21 x2
  have w2:=w1.ext hi x2
  obtain⟨gvs,vg,kg,hgv,ag,rg⟩:=w2.s.goal r20 (by omega)
  have hi2:=w2.nU hi
  fail "R"
  intro v3 H3 tm3 m3 g3 s3 rv3 gd3
  have w3:=w2.snoc g3 s3 rv3 gd3
  have rg3:=rg.kt (Gs.kt w2.s g3.oth)
  fail "R"
  intro p4 hp4
  have s4:=ae hp4 (.tup [.str x,vg])
  have h4:=Rp.new (K:=K) (xs:=[.s x,_]) hp4 (.cons .s (.one rg3))
  generalize upd H3 p4 (.tup [.str x,vg])=H4 at s4 h4⊢
  have w4:=w3.same hi s4
  fail "R"
  intro p5 hp5
  have s5:=ae hp5 (.lst [.ref p4])
  have h5:iF K (upd H4 p5 (.lst [.ref p4])) p5 [(x,ik (wf xs 0) kg)]:=⟨_,af,.one (h4.same s5)⟩
  generalize upd H4 p5 (.lst [.ref p4])=H5 at s5 h5⊢
  have w5:=w4.same hi s5
  have hi5:=w5.nU hi
  have ha5:=hi5.aa
  fail "R"
  ·show ps.length+1<=900
   omega
  intro p6 H6 s6 hp6 a6
  have w6:=w5.same hi s6
  have hi6:=hi5.near (fun q hq=>by rw[List.mem_singleton.mp hq];exact⟨hx,_,rfl⟩) (by show ps.length+1<=20;omega) s6 hp6 a6
  have rk6:=w6.rp hi rk
  have hn6:=lG ps [(x,ik (wf xs 0) kg)]
  have hn7:(iM ps [(x,ik (wf xs 0) kg)]).length+2*n<=18:=by have:[(x,ik (wf xs 0) kg)].length=1:=rfl;omega
  fail "R"
  intro v7 H7 tm7 m7 g7 s7 rv7 gd7
  have w7:=w6.snoc g7 s7 rv7 gd7
  fail "R"
  intro p8 hp8
  have s8:=ae hp8 (.tup [.str "let",.str x,v3,v7])
  have w8:=w7.same hi s8
  refine k _ _ (.mk (.lt x) [tm3,tm7]) m7 w8.g w8.s ?_ (w7.d.tm rfl ?_ rfl (Nat.le_refl _) (by omega))
  ·rw[aW]
   exact Rp.new (K:=K) hp8 (.cons .s (.cons .s w7.r))
  ·intro b hb
   rcases List.mem_cons.mp hb with rfl|hb
   ·exact⟨Nat.zero_le _,fun z hz=>nomatch hz⟩
   ·rw[List.mem_singleton.mp hb]
    exact⟨by show 1<=2;omega,fun z hz=>by rw[List.mem_singleton.mp hz];exact hx⟩
 fail "R"
 intro p2 hp2
 have s2:=ae hp2 (.lst [.int 0,.int 0,.int 2,.int 1])
 have h2:upd H1 p2 (.lst [.int 0,.int 0,.int 2,.int 1]) p2=some (.lst [.int 0,.int 0,.int 2,.int 1]):=af
 generalize upd H1 p2 (.lst [.int 0,.int 0,.int 2,.int 1])=H2 at s2 h2⊢
 have w2:=w1.same hi s2
 have hf:∃e:Int,iI [V.int 0,.int 0,.int 2,.int 1] form=some (.int e)/\0<=e/\e<4:=by
  have:form=0\/form=1\/form=2\/form=3:=by omega
  rcases this with rfl|rfl|rfl|rfl
  ·exact⟨0,bC (j:=0) rfl,by omega,by omega⟩
  ·exact⟨0,bC (j:=1) rfl,by omega,by omega⟩
  ·exact⟨2,bC (j:=2) rfl,by omega,by omega⟩
  ·exact⟨1,bC (j:=3) rfl,by omega,by omega⟩
 obtain⟨e,he,e0,e4⟩:=hf
 obtain⟨gvs,vg,kg,hgv,ag,rg⟩:=w2.s.goal e0 e4
 have hi2:=w2.nU hi
 fail "R"
 intro v3 H3 tm3 m3 g3 s3 rv3 gd3
 have w3:=w2.snoc g3 s3 rv3 gd3
 fail "R"
 refine cJ (fun c2=>?_) (fun c2=>?_)
 ·fail "R"
  intro p4 hp4
  have s4:=ae hp4 (.lst [])
  have h4:upd H3 p4 (.lst []) p4=some (.lst []):=af
  generalize upd H3 p4 (.lst [])=H4 at s4 h4⊢
  have w4:=w3.same hi s4
  obtain⟨qa,q1,eq1,qsq,r1⟩:=w4.s.kd.t1
  obtain⟨qb,q2,q3,rfl,bsq,r2,r3⟩:=r1.t2
  obtain⟨hw1,hw2⟩:=w4.s.ow
  obtain⟨qc,q4,rfl,csq,rcs⟩:=r3.aH
  cases eq1
  have hg4:=w4.s.j4
  have l4:=rcs.length
  rw[List.length_map,hw1]at l4
  have np4:=w3.nn hp4
  fail "R"
  refine i3 (K:=K) (xs:=q4) (fun j σ H5=>(∃a b c e,σ=[some (.ref fe),some (.ref d),some (.ref ar),some vk,some (.int room),some (.int form),some (.int ((room-1) / 3)),some (.str x),some (.str y),none,none,some v3,some (.ref p4),a,b,c,e])/\MI K fe d S xs ow df m H H4 (n+1) (3*((room-1) / 3)).toNat tm3 v3 p4 j H5) ⟨⟨_,_,_,_,rfl⟩,⟨[],[],[],[],m3,?_,fun _ _ h=>h,h4,.nil,rfl,rfl,fun a ha=>nomatch ha⟩⟩ ?_ ?_ ?_
  ·have e1:(1+0)*(3*((room-1) / 3)).toNat=0+(3*((room-1) / 3)).toNat:=by omega
   rw[e1]
   exact w4
  ·rintro j σ H5 hj ⟨_,⟨arms,ts,us,avs,m5,w5,kt,_⟩⟩
   exact csq.kt kt
  ·rintro j xv σ H5 hxv ⟨⟨_,_,_,_,rfl⟩,⟨arms,ts,us,avs,m5,w5,kt,hav,rav,la,lt,hna⟩⟩
   obtain⟨yv,hyv,ryv⟩:=rcs.get' hxv
   rw[List.getElem?_map]at hyv
   obtain⟨o,ho,rfl⟩:=Option.map_eq_some_iff.mp hyv
   obtain⟨_,ol,ok⟩:=hw2 o (List.mem_of_getElem? ho)
   obtain⟨oa,o1,o2,rfl,osq,ro1,ro2⟩:=(show Rp K H5 (.t [.s o.1,.t o.2]) xv from ryv.kt kt).t2
   obtain rfl:=ro1.aI
   obtain⟨ob,ovs,rfl,bsq2,rovs⟩:=ro2.aH
   have lo:=rovs.length
   fail "R"
   intro p6 hp6
   have s6:=ae hp6 (.lst [.str x,.str y])
   have h6:upd H5 p6 (.lst [.str x,.str y]) p6=some (.lst [.str x,.str y]):=af
   generalize upd H5 p6 (.lst [.str x,.str y])=H6 at s6 h6⊢
   have hlo:bJ K H6 ob ovs\/aJ K H6 ob ovs:=.inr (bsq2.same s6)
   fail "R"
   intro p7 hp7
   have ecut:bF [V.str x,.str y] none (some (ovs.length:Int))=([x,y].take o.2.length).map V.str:=by rw[lo];exact Az ol
   rw[ecut]
   have s7:=ae hp7 (.lst (([x,y].take o.2.length).map V.str))
   have h7:upd H6 p7 (.lst (([x,y].take o.2.length).map V.str)) p7=some (.lst (([x,y].take o.2.length).map V.str)):=af
   generalize upd H6 p7 (.lst (([x,y].take o.2.length).map V.str))=H7 at s7 h7⊢
   have s57:=s6.trans s7
   have hb1:jn K false H7 p7 (([x,y].take o.2.length).map V.str):=bJ.of h7
   have hb2:jn K true H7 ob ovs:=bsq2.same s57
   have lns:([x,y].take o.2.length).length=o.2.length:=by rw[List.length_take];have:[x,y].length=2:=rfl;omega
   have hns:∀z∈[x,y].take o.2.length,er z:=fun z hz=>by
    rcases List.mem_cons.mp (List.mem_of_mem_take hz)with rfl|hz
    ·exact hx
    ·rw[List.mem_singleton.mp hz];exact hy
   generalize [x,y].take o.2.length=ns at *
   fail "R"
   intro l8 ts8 H8 z8 hl8 h8
   have s8:aL H7 H8:=z8.1
   have w8:=w5.same hi (s57.trans s8)
   have hi8:=w8.nU hi
   have ha8:=hi8.aa
   have hz8:iF K H8 l8 (ns.zip o.2):=⟨_,h8,tX lns z8 (rovs.same s57)⟩
   have lz:(ns.zip o.2).length<=2:=by rw[List.length_zip];omega
   fail "R"
   intro p9 H9 s9 hp9 a9
   have w9:=w8.same hi s9
   have hi9:=hi8.near (fun q hq=>by
    obtain⟨q1,q2⟩:=List.of_mem_zip (show(q.1,q.2)∈ns.zip o.2 from hq)
    obtain⟨kd5,e5,_⟩:=wj (x:=wf xs 0) (ok _ q2)
    exact⟨hns _ q1,kd5,e5⟩) (by omega) s9 hp9 a9
   have rk9:=w9.rp hi rk
   have hn9:=lG ps (ns.zip o.2)
   have hn10:(iM ps (ns.zip o.2)).length+2*n<=18:=by omega
   have h9:=s9 _ _ (s8 _ _ h7)
   have hav9:=s9 _ _ (s8 _ _ (s57 _ _ hav))
   fail "R"
   refine .inl ⟨bJ.of h9,fun p10 hp10=>?_⟩
   have s10:=ae hp10 (.tup (ns.map V.str))
   have r10:=Rp.new (K:=K) hp10 (aM.strs ns)
   generalize upd H9 p10 (.tup (ns.map V.str))=H10 at s10 r10⊢
   have w10:=w9.same hi s10
   have hi10:=hi9.gs (Gs.same w9.s.ff s10) w10.s
   have rk10:=w10.rp hi rk
   have hav10:=s10 _ _ hav9
   fail "R"
   intro v11 H11 tm11 m11 g11 s11 rv11 gd11
   have w11:=w10.snoc g11 s11 rv11 gd11
   have k11:=Gs.kt w10.s g11.oth
   have hav11:=g11.oth _ _ (aV w3.s.ff hp4) (fun z=>by obtain⟨avq,haq,_⟩:=w3.s.la;rw[z,haq]at hp4;cases hp4) hav10
   fail "R"
   intro p12 hp12
   have s12:=ae hp12 (.tup [.str o.1,.ref p10,v11])
   have r12:=Rp.new (K:=K) (xs:=[.s o.1,.t (ns.map .s),enc tm11]) hp12 (.cons .s (.cons (r10.kt k11) (.one rv11)))
   generalize upd H11 p12 (.tup [.str o.1,.ref p10,v11])=H12 at s12 r12⊢
   have w12:=w11.same hi s12
   have hav12:=s12 _ _ hav11
   have k12:Kt H5 H12:=fun c ys h=>Kt.same s12 _ _ (k11 _ _ (Kt.same s10 _ _ (Kt.same s9 _ _ (Kt.same s8 _ _ (Kt.same s57 _ _ h)))))
   have lav:=rav.length
   rw[List.length_zipWith,List.length_map]at lav
   have hj2:=(List.getElem?_eq_some_iff.mp hxv).1
   have lav2:avs.length<sizeLine:=aC (by omega)
   fail "R"
   have k13:Kt H12 (upd H12 p4 (.lst (avs++[.ref p12]))):=Kt.upd hav12 (fun _ z=>nomatch z) (fun _ _ z=>nomatch z) _
   refine⟨arms++[(o.1,ns)],ts++[tm11],us++[v11],avs++[.ref p12],m11,?_,fun c ys h=>k13 _ _ (k12 _ _ (kt _ _ h)),af,?_,by rw[List.length_append,la];rfl,by rw[List.length_append,lt];rfl,?_⟩
   ·rw[show(1+(j+1))*(3*((room-1) / 3)).toNat=(1+j)*(3*((room-1) / 3)).toNat+(3*((room-1) / 3)).toNat by rw[←Nat.add_assoc,Nat.succ_mul]]
    exact w12.put hi np4 hav12
   ·rw[List.map_append]
    rw[show List.map enc [tm11]=[enc tm11]from rfl,pV _ _ (by rw[List.length_map,la,lt])]
    exact((rav.kt k12).kt k13).snoc (r12.kt k13)
   ·intro a ha
    rcases List.mem_append.mp ha with h|h
    ·exact hna a h
    ·rw[List.mem_singleton.mp h];exact⟨by show ns.length<=2;omega,hns⟩
  ·rintro σ H5 ⟨⟨_,_,_,_,rfl⟩,⟨arms,ts,us,avs,m5,w5,kt,hav,rav,la,lt,hna⟩⟩
   fail "R"
   refine .inl ⟨bJ.of hav,fun p6 hp6=>?_⟩
   have s6:=ae hp6 (.tup avs)
   have r6:=Rp.new (K:=K) hp6 rav
   generalize upd H5 p6 (.tup avs)=H6 at s6 r6⊢
   have w6:=w5.same hi s6
   fail "R"
   intro p7 hp7
   have s7:=ae hp7 (.tup [.str "match",v3,.ref p6])
   have w7:=w6.same hi s7
   have e2:(1+q4.length)*(3*((room-1) / 3)).toNat=3*(3*((room-1) / 3)).toNat:=by rw[l4]
   refine k _ _ (.mk (.mat arms) (tm3::ts)) m5 w7.g w7.s ?_ (w6.d.tm ?_ ?_ rfl (Nat.le_refl _) (by rw[e2];omega))
   ·rw[aW]
    obtain⟨_,_,ez,q1,q2⟩:=aM.inv (K:=K) (x:=enc tm3) w6.r
    cases ez
    exact Rp.new (K:=K) hp7 (.cons .s (.cons q1 (.one r6)))
   ·show(ts.length+1 == arms.length+1)=true
    rw[la,lt]
    exact beq_self_eq_true _
   ·intro b hb
    rcases List.mem_cons.mp hb with rfl|hb
    ·exact⟨Nat.zero_le _,fun z hz=>nomatch hz⟩
    ·obtain⟨a,ha,rfl⟩:=List.mem_map.mp hb
     exact hna a ha
 have hi3:=w3.nU hi
 have rk3:=w3.rp hi rk
 fail "R"
 intro v4 H4 tm4 m4 g4 s4 rv4 gd4
 have w4:=w3.snoc g4 s4 rv4 gd4
 have hi4:=w4.nU hi
 have rk4:=w4.rp hi rk
 fail "R"
 refine cJ (fun c3=>?_) (fun c3=>?_)
 ·fail "R"
  intro v5 H5 tm5 m5 g5 s5 rv5 gd5
  have w5:=w4.snoc g5 s5 rv5 gd5
  fail "R"
  intro p8 hp8
  have s8:=ae hp8 (.tup [.str "if",v3,v4,v5])
  have w8:=w5.same hi s8
  refine k _ _ (.mk .ife [tm3,tm4,tm5]) m5 w8.g w8.s ?_ (w5.d.tm rfl eA rfl (Nat.le_refl _) (by omega))
  rw[aW]
  exact Rp.new (K:=K) hp8 (.cons .s w5.r)
 fail "R"
 intro p5 hp5
 have s5:=ae hp5 (.tup [.str x,.str "num"])
 have h5:=Rp.new (K:=K) (xs:=[.s x,kN]) hp5 (.cons .s (.one .s))
 generalize upd H4 p5 (.tup [.str x,.str "num"])=H5 at s5 h5⊢
 have w5:=w4.same hi s5
 fail "R"
 intro p6 hp6
 have s6:=ae hp6 (.tup [.str y,vk])
 have h6:=Rp.new (K:=K) (xs:=[.s y,_]) hp6 (.cons .s (.one (w5.rp hi rk)))
 have h56:=h5.same s6
 generalize upd H5 p6 (.tup [.str y,vk])=H6 at s6 h6 h56⊢
 have w6:=w5.same hi s6
 fail "R"
 intro p7 hp7
 have s7:=ae hp7 (.lst [.ref p5,.ref p6])
 have h7:iF K (upd H6 p7 (.lst [.ref p5,.ref p6])) p7 [(x,kN),(y,ik (wf xs 0) kd)]:=⟨_,af,.cons (h56.same s7) (.one (h6.same s7))⟩
 generalize upd H6 p7 (.lst [.ref p5,.ref p6])=H7 at s7 h7⊢
 have w7:=w6.same hi s7
 have hi7:=w7.nU hi
 have ha7:=hi7.aa
 fail "R"
 ·show ps.length+2<=900
  omega
 intro p8 H8 s8 hp8 a8
 have w8:=w7.same hi s8
 have hi8:=hi7.near (fun q hq=>by
  rcases List.mem_cons.mp hq with rfl|hq
  ·exact⟨hx,.N,rfl⟩
  ·rw[List.mem_singleton.mp hq];exact⟨hy,_,rfl⟩) (by show ps.length+2<=20;omega) s8 hp8 a8
 have rk8:=w8.rp hi rk
 have hn8:=lG ps [(x,kN),(y,ik (wf xs 0) kd)]
 have hn9:(iM ps [(x,kN),(y,ik (wf xs 0) kd)]).length+2*n<=18:=by have:[(x,kN),(y,ik (wf xs 0) kd)].length=2:=rfl;omega
 fail "R"
 intro v9 H9 tm9 m9 g9 s9 rv9 gd9
 have w9:=w8.snoc g9 s9 rv9 gd9
 fail "R"
 intro p10 hp10
 have s10:=ae hp10 (.tup [.str "fold",v3,.str x,.str y,v4,v9])
 have w10:=w9.same hi s10
 refine k _ _ (.mk (.fold x y) [tm3,tm4,tm9]) m9 w10.g w10.s ?_ (w9.d.tm rfl ?_ rfl (Nat.le_refl _) (by omega))
 ·rw[aW]
  obtain⟨_,_,ez,q1,q2⟩:=aM.inv (K:=K) (x:=enc tm3) w9.r
  cases ez
  exact Rp.new (K:=K) hp10 (.cons .s (.cons q1 (.cons .s (.cons .s q2))))
 ·intro b hb
  rcases List.mem_cons.mp hb with rfl|hb
  ·exact⟨Nat.zero_le _,fun z hz=>nomatch hz⟩
  rcases List.mem_cons.mp hb with rfl|hb
  ·exact⟨Nat.zero_le _,fun z hz=>nomatch hz⟩
  rw[List.mem_singleton.mp hb]
  refine⟨by show 2<=2;omega,fun z hz=>?_⟩
  rcases List.mem_cons.mp hz with rfl|hz
  ·exact hx
  ·rw[List.mem_singleton.mp hz];exact hy
end
section
variable {P:Program}{w:World}{K:PySem.W.Frag}{mg:Str->Option Value}{base:Heap}{gT gE gL gS:Addr}{tfd efd lfd sfd:FuncData}
theorem ao:Nm ["_law_feed_here","_law_scene_here","_law_around","_law_kind","_law_room","_law_form","_law_half","_law_one","_law_t","_law_inner"] (aj dU):=by decide +kernel
theorem eE:Lm ["_law_feed_here","_law_scene_here","_law_around","_law_kind","_law_room","_law_form","_law_half","_law_one","_law_t","_law_inner"] (aj dU):=by decide +kernel
theorem dJ:aZ ["_law_feed_here","_law_scene_here","_law_around","_law_kind","_law_room","_law_form","_law_half","_law_one","_law_t","_law_inner"] ["_law_feed_here","_law_scene_here","_law_around","_law_kind","_law_room"] (aj dU):=⟨rfl,rfl,rfl,by decide +kernel,rfl,by decide +kernel,by decide +kernel⟩
theorem Dn(i:Int)(h0:0<=i)(h6:i<8):∃c,iI (Str.ofString "++--*:<=").cps.toList i=some c:=by
 obtain⟨c,hc,_⟩:=jB (xs:=(Str.ofString "++--*:<=").cps.toList) (k:=i) h0 (by rw[show(Str.ofString "++--*:<=").cps.toList.length=8 by decide +kernel];exact h6)
 exact⟨c,hc⟩
theorem yz{f:Addr}{fd:FuncData}{n j js:Nat}(hj:js<=j+1)(hj1:1<=j)(F:iE K "_law_term" "_law_term" dU f fd)(TK:cR P w K mg base "_law_take" 1 ["_law_feed_here","_law_many_here"] cT gT tfd)(SM:cR P w K mg base "_law_small" js ["_law_feed_here","_law_scene_here","_law_around","_law_kind"] (jq K 2) gS sfd)(LK:cR P w K mg base "_law_looked" (j+1) ["_law_feed_here","_law_scene_here","_law_around","_law_kind","_law_room","_law_form"] (pU K (n+1)) gL lfd)(TE:cR P w K mg base "_law_term" j ["_law_feed_here","_law_scene_here","_law_around","_law_kind","_law_room"] (lF K n) gE efd)(z_range:mg "range"=none)(z_tuple:mg "tuple"=none):cA P w K mg base gv (j+2) f fd ["_law_feed_here","_law_scene_here","_law_around","_law_kind","_law_room"] (lF K (n+1)):=by
 refine F.ok dJ (fun vs H Q E h=>?_) (fun cdv A outer s H vs Q E hr h=>?_)
 ·obtain⟨_,_,_,_,_,_,_,_,_,_,_,_,rfl,_⟩:=h
  rfl
 obtain⟨fe,d,ar,vk,room,S,xs,ow,df,m,ps,kd,rfl,hi,rk,r1,rl,hpl,k⟩:=h
 refine⟨_,(Z6 (Z3 dJ.nd eE 5 (Z0 TK (aA (va ao 0) (aA ak ah)))) (Z6 (Z3 dJ.nd eE 6 (Zj eZ (bw ni (va ao 4) ak) ak)) (Z6 (Zf (PW.pt (@A0 _ _ _ _ _ _ _ (aS i5 (va ao 4) ak (bK _)) (@zx _ _ _ _ (aS cu (va ao 5) ak (bK _))))) (Zh (@aK _ _ _ _ (Z0 SM (Z1 (va ao 0) (Z1 (va ao 1) (Z1 (va ao 2) (aA (va ao 3) ah)))))))) (Z6 (Zf (PW.pt (@gC _ _ _ _ _ _ _ (aS i5 (va ao 5) ak (bK _)) (@fR _ _ _ _ (Zi cu (Z0 TK (aA (va ao 0) (aA ak ah))) ak)))) (Zh (@aK _ _ _ _ (Z0 LK (Z1 (va ao 0) (Z1 (va ao 1) (Z1 (va ao 2) (Z1 (va ao 3) (Z1 (va ao 4) (aA (va ao 5) ah)))))))))) (Z6 (Zf (PW.pt (@gC _ _ _ _ _ _ _ (aS (kF hr.qA) (va ao 3) au (bK _)) (@fR _ _ _ _ (aS i5 (va ao 5) ak (bK _))))) (Z6 (Z3 dJ.nd eE 7 (Z0 TE (Z1 (va ao 0) (Z1 (va ao 1) (Z1 (va ao 2) (Z1 (va ao 3) (aA (va ao 6) ah))))))) (Zh (@aK _ _ _ _ (Ze (Z1 au (Z1 (Za qp au (Z0 TK (aA (va ao 0) (aA ak ah)))) (Z1 (va ao 7) (Z1 (Z0 TE (Z1 (va ao 0) (Z1 (va ao 1) (Z1 (va ao 2) (Z1 (va ao 3) (aA (va ao 6) ah)))))) ah))))))))) (Z6 (Zf (aS (kF hr.qA) (va ao 3) au (bK _)) (Zh (@aK _ _ _ _ (Ze (Z1 (Za aT (@bj _ _ _ _ (aA au (aA au ah))) (bw ni (va ao 5) ak)) (Z1 (Z0 TE (Z1 (va ao 0) (Z1 (va ao 1) (Z1 (va ao 2) (Z1 (Ze (aA au (aA au ah))) (Z1 (Zj eZ (bw dj (va ao 4) ak) ak) ah)))))) ah)))))) (Z6 (Zf (PW.pt (@gC _ _ _ _ _ _ _ (Zi cu (Z8 aD (va ao 3)) au) (@fR _ _ _ _ (aS i5 (va ao 5) ak (bK _))))) (Z6 (Z3 dJ.nd eE 7 (Z0 TE (Z1 (va ao 0) (Z1 (va ao 1) (Z1 (va ao 2) (Z1 (Z8 aD (va ao 3)) (aA (va ao 6) ah))))))) (Zh (@aK _ _ _ _ (Ze (Z1 au (Z1 (va ao 7) (Z1 (Z0 TE (Z1 (va ao 0) (Z1 (va ao 1) (Z1 (va ao 2) (Z1 (va ao 3) (aA (va ao 6) ah)))))) ah)))))))) (Z6 (Zf (PW.pt (@gC _ _ _ _ _ _ _ (Zi cu (Z8 aD (va ao 3)) au) (@fR _ _ _ _ (aS cu (va ao 5) ak (bK _))))) (Zh (@aK _ _ _ _ (Ze (Z1 au (Z1 (Z0 TE (Z1 (va ao 0) (Z1 (va ao 1) (Z1 (va ao 2) (Z1 (va ao 3) (Z1 (Zj eZ (bw dj (va ao 4) ak) ak) ah)))))) ah)))))) (Z6 (Zf (Zi cu (Z8 aD (va ao 3)) au) (Zh (@aK _ _ _ _ (Ze (Z1 au (Z1 (Z5 aX z_tuple PyProof.Rows.boot_tuple (Z1 (Z4 (aj dU) ["_law_feed_here","_law_scene_here","_law_around","_law_kind","_law_room","_law_form","_law_half","_law_one","_law_t","_law_inner"] ["_law_k"] [0,1,2,3,6] (@fD _ _ _ _ _ _ (by show _=_;kernel_rfl) z_range (Z1 (Z0 TK (aA (va ao 0) (aA ak ah))) ah) (by rfl)) (fun _ _ _ _=>(Z2 (i:=0) (show(["_law_k","_law_feed_here","_law_scene_here","_law_around","_law_kind","_law_half"]:List Str).Nodup by decide +kernel))) (fun _ _ _ _=>(Z0 TE (Z1 (va (show Nm ["_law_k","_law_feed_here","_law_scene_here","_law_around","_law_kind","_law_half"] _ by show _=_;kernel_rfl) 1) (Z1 (va (show Nm ["_law_k","_law_feed_here","_law_scene_here","_law_around","_law_kind","_law_half"] _ by show _=_;kernel_rfl) 2) (Z1 (va (show Nm ["_law_k","_law_feed_here","_law_scene_here","_law_around","_law_kind","_law_half"] _ by show _=_;kernel_rfl) 3) (Z1 (Z8 (j3 K rfl) (va (show Nm ["_law_k","_law_feed_here","_law_scene_here","_law_around","_law_kind","_law_half"] _ by show _=_;kernel_rfl) 4)) (aA (va (show Nm ["_law_k","_law_feed_here","_law_scene_here","_law_around","_law_kind","_law_half"] _ by show _=_;kernel_rfl) 5) ah)))))))) ah)) ah)))))) (Z6 (@fT _ _ _ _ _ _ (Za aD (Za aD (Za aD (Zd (va ao 1)) ak) ak) (Z0 TK (aA (va ao 0) (aA ak ah)))) (Zc (2) (Zg (ga dJ.nd eE 8) (aU (ga dJ.nd eE 9) bq))) (by rfl) (by rfl) (by rfl)) (Zh (@aK _ _ _ _ (Ze (Z1 au (Z1 (va ao 8) (Z1 (Z5 aX z_tuple PyProof.Rows.boot_tuple (Z1 (Z4 (aj dU) ["_law_feed_here","_law_scene_here","_law_around","_law_kind","_law_room","_law_form","_law_half","_law_one","_law_t","_law_inner"] ["_law_one"] [0,1,2,6] (b7 (va ao 9)) (fun _ _ _ _=>(Z2 (i:=0) (show(["_law_one","_law_feed_here","_law_scene_here","_law_around","_law_half"]:List Str).Nodup by decide +kernel))) (fun _ _ _ _=>(Z0 TE (Z1 (va (show Nm ["_law_one","_law_feed_here","_law_scene_here","_law_around","_law_half"] _ by show _=_;kernel_rfl) 1) (Z1 (va (show Nm ["_law_one","_law_feed_here","_law_scene_here","_law_around","_law_half"] _ by show _=_;kernel_rfl) 2) (Z1 (va (show Nm ["_law_one","_law_feed_here","_law_scene_here","_law_around","_law_half"] _ by show _=_;kernel_rfl) 3) (Z1 (va (show Nm ["_law_one","_law_feed_here","_law_scene_here","_law_around","_law_half"] _ by show _=_;kernel_rfl) 0) (aA (va (show Nm ["_law_one","_law_feed_here","_law_scene_here","_law_around","_law_half"] _ by show _=_;kernel_rfl) 4) ah)))))))) ah)) ah)))))))))))))))),?_⟩
 try dsimp only[dg]
 try dsimp only[dg]
 have hpn:ps.length+2*n<=18:=by omega
 have hff:=hi.sc.ff
 have hll:=wu (n+1)
 refine oY ?_
 intro N1 N2 N3 N4 N5 N6 N7 N8 c1 c2 c3 c4 c5 c6 c7 c8
 fail "R"
 intro fm H1 fm0 fm1 x1
 have w1:=(Wk.nil (dp:=n+1) hi).ext hi x1
 have hi1:=w1.nU hi
 have rk1:=w1.rp hi rk
 have hf1:=w1.s.ff
 have hlk:=AB kd
 have small:∀(v:V) (H':Hp) (tm:Tm) (m':Nat),Gs fe S.la H1 H'->bf K H' fe d S xs ow df m'->Rp K H' (enc tm) v->Tok tm->tm.depth<=wR kd->tm.size<=2*wR kd+1->m<=m'->gl tm=(List.range' m (m' - m)).map (cC S.tn)->Q v H':=by
  intro v H' tm m' g1 s1 rv t1 t2 t3 t4 t5
  exact k v H' tm m' (w1.g.trans g1) s1 rv ⟨t1,by omega,by omega,t4,t5⟩
 have hl2:wR kd<2:=by omega
 have rest:4<=room->fm≠9->∀H2,Ext fe H1 H2->N4 [some (.ref fe),some (.ref d),some (.ref ar),some vk,some (.int room),some (.int fm),some (.int ((room-1) / 2)),none,none,none] H2:=by
  intro r4 f9 H2 x2
  have w2:=w1.ext hi x2
  have hi2:=w2.nU hi
  have rk2:=w2.rp hi rk
  have hf2:=w2.s.ff
  have hdk:=nR (wf xs 0) kd
  have hh:=wz r4 rl
  have ht:=nT r4 rl
  have h1:1<=(room-1) / 2:=by omega
  have h2:1<=room*2 / 3:=by omega
  have rest2:ik (wf xs 0) kd≠kN->N6 [some (.ref fe),some (.ref d),some (.ref ar),some vk,some (.int room),some (.int fm),some (.int ((room-1) / 2)),none,none,none] H2:=by
   intro nk
   have rk2':=rk2
   rcases AA nk with⟨kd',e⟩|⟨rfl,e⟩
   ·rw[e]at rk2'
    obtain⟨ka,k1,k2,rfl,ksq,g1,g2⟩:=rk2'.t2
    obtain rfl:=g1.aI
    fail "R"
    refine cJ (fun c=>?_) (fun c=>?_)
    ·fail "R"
     intro v3 H3 tm3 m3 g3 s3 rv3 gd3
     have w3:=w2.snoc g3 s3 rv3 gd3
     have hi3:=w3.nU hi
     have rk3:=w3.rp hi rk
     fail "R"
     intro v5 H5 tm5 m5 g5 s5 rv5 gd5
     have w5:=w3.snoc g5 s5 rv5 gd5
     fail "R"
     intro p6 hp6
     have s6:=ae hp6 (.tup [.str "more",v3,v5])
     have w6:=w5.same hi s6
     refine k _ _ (.mk .more [tm3,tm5]) m5 w6.g w6.s ?_ (w5.d.tm rfl eA rfl (Nat.le_refl _) (by omega))
     rw[aW]
     exact Rp.new (K:=K) hp6 (.cons .s w5.r)
    fail "R"
    refine cJ (fun c'=>?_) (fun c'=>?_)
    ·fail "R"
     intro v5 H5 tm5 m5 g5 s5 rv5 gd5
     have w5:=w2.snoc g5 s5 rv5 gd5
     fail "R"
     intro p6 hp6
     have s6:=ae hp6 (.tup [.str "others",v5])
     have w6:=w5.same hi s6
     refine k _ _ (.mk .others [tm5]) m5 w6.g w6.s ?_ (w5.d.tm rfl eA rfl (Nat.le_refl _) (by omega))
     rw[aW]
     exact Rp.new (K:=K) hp6 (.cons .s w5.r)
    fail "R"
    intro r3 H3 r30 r31 x3
    have w3:=w2.ext hi x3
    have hr2:r3.toNat<=2:=by omega
    have hi3:=w3.nU hi
    have ksq3:=ksq.kt (x3.kt hf2)
    have g23:=g2.kt (x3.kt hf2)
    fail "R"
    refine iR (n:=r3.toNat) (fun i σ us H5=>(∃x,σ=[x,some (.ref fe),some (.ref d),some (.ref ar),some (.ref ka),some (.int ((room-1) / 2))])/\tV K fe d S xs ow df m H3 (n+1) (3*((room-1) / 2)).toNat i us H5) ⟨⟨_,rfl⟩,tV.nil w3.s⟩ ?_ (Nat.le_of_lt (aC (by omega))) ?_ ?_
    ·rintro i σ us H5 h ⟨_,⟨ts,m5,_,_,r,_,e⟩⟩
     rw[r.length,List.length_map,e];exact Nat.le_refl _
    ·rintro i σ us H5 hx ⟨⟨x0,rfl⟩,⟨ts,m5,g5,cH,rts,gd,lts⟩⟩
     have hi5:=hi3.gs g5 cH
     have ksq5:=ksq3.kt (Gs.kt w3.s g5.oth)
     have g25:=g23.kt (Gs.kt w3.s g5.oth)
     fail "R"
     intro v6 H6 tm m6 g6 sc6 rv6 gd6
     fail "R"
     exact tV.snoc g5 cH rts gd lts g6 sc6 rv6 gd6
    ·rintro σ us H5 ⟨_,⟨ts,m5,g5,cH,rts,gd,lts⟩⟩ p5 hp5
     have lus:=rts.length
     rw[List.length_map]at lus
     have s6:=ae hp5 (.lst us)
     have h6:upd H5 p5 (.lst us) p5=some (.lst us):=af
     have w5:Wk K fe d S xs ow df m H (n+1) (r3.toNat*(3*((room-1) / 2)).toNat) ts us m5 H5:=⟨w3.g.trans g5,cH,rts,gd⟩
     generalize upd H5 p5 (.lst us)=H6 at s6 h6⊢
     have w6:=w5.same hi s6
     fail "R"
     refine .inl ⟨bJ.of h6,?_⟩
     intro p7 hp7
     have s7:=ae hp7 (.tup us)
     have r7:=Rp.new (K:=K) hp7 w6.r
     generalize upd H6 p7 (.tup us)=H7 at s7 r7⊢
     have w7:=w6.same hi s7
     fail "R"
     intro p8 hp8
     have s8:=ae hp8 (.tup [.str "row",.ref p7])
     have w8:=w7.same hi s8
     have hz:r3.toNat*(3*((room-1) / 2)).toNat<=2*(3*((room-1) / 2)).toNat:=Nat.mul_le_mul_right _ (by omega)
     refine k _ _ (.mk .row ts) m5 w8.g w8.s ?_ (w7.d.tm rfl eA rfl (Nat.le_refl _) (by omega))
     rw[aW]
     exact Rp.new (K:=K) hp8 (.cons .s (.one r7))
   ·rw[e]at rk2'
    obtain⟨ka,k1,k2,rfl,ksq,g1,g2⟩:=rk2'.t2
    obtain rfl:=g1.aI
    have hg2:=w2.s.j4
    obtain⟨qa,q1,eq1,qsq,r1⟩:=w2.s.kd.t1
    obtain⟨qb,q2,q3,rfl,bsq,r2,r3⟩:=r1.t2
    obtain⟨hw1,hw2⟩:=w2.s.ow
    obtain⟨qc,q4,rfl,csq,rcs⟩:=r3.aH
    cases eq1
    fail "R"
    intro r3 H3 r30 r31 x3
    have w3:=w2.ext hi x3
    have k3:=x3.kt hf2
    have csq3:=csq.kt k3
    obtain⟨rn,rfl⟩:∃rn:Nat,r3=(rn:Int):=⟨r3.toNat,by omega⟩
    have l4:=rcs.length
    rw[List.length_map,hw1]at l4
    obtain⟨xv,hxv⟩:∃xv,q4[rn]?=some xv:=⟨_,List.getElem?_eq_getElem (by omega)⟩
    have hat:=bC hxv
    obtain⟨yv,hyv,ryv⟩:=rcs.get' hxv
    rw[List.getElem?_map]at hyv
    obtain⟨o,ho,rfl⟩:=Option.map_eq_some_iff.mp hyv
    obtain⟨_,ol,ok⟩:=hw2 o (List.mem_of_getElem? ho)
    obtain⟨oa,o1,o2,rfl,osq,ro1,ro2⟩:=(show Rp K H3 (.t [.s o.1,.t o.2]) xv from ryv.kt k3).t2
    obtain rfl:=ro1.aI
    obtain⟨ob,ovs,rfl,bsq2,rovs⟩:=ro2.aH
    have lo:=rovs.length
    have hi3:=w3.nU hi
    fail "R"
    refine bT (K:=K) (xs:=ovs) (fun i σ us H5=>(∃x,σ=[x,some (.ref fe),some (.ref d),some (.ref ar),some (.int ((room-1) / 2))])/\tV K fe d S xs ow df m H3 (n+1) (3*((room-1) / 2)).toNat i us H5) ⟨⟨_,rfl⟩,tV.nil w3.s⟩ ?_ (Nat.le_of_lt (aC (by omega))) ?_ ?_ ?_
    ·rintro i σ us H5 h ⟨_,⟨ts,m5,_,_,r,_,e⟩⟩
     rw[r.length,List.length_map,e];exact Nat.le_refl _
    ·rintro i σ us H5 h ⟨_,⟨ts,m5,g,_,_⟩⟩
     exact bsq2.kt (Gs.kt w3.s g.oth)
    ·rintro i x σ us H5 hx ⟨⟨x0,rfl⟩,⟨ts,m5,g5,cH,rts,gd,lts⟩⟩
     obtain⟨y,hy,ry⟩:=rovs.get' hx
     obtain⟨kd5,rfl,hl0⟩:=wj (x:=wf xs 0) (ok y (List.mem_of_getElem? hy))
     have hi5:=hi3.gs g5 cH
     have ry5:=ry.kt (Gs.kt w3.s g5.oth)
     fail "R"
     intro v6 H6 tm m6 g6 sc6 rv6 gd6
     fail "R"
     exact tV.snoc g5 cH rts gd lts g6 sc6 rv6 gd6
    ·rintro σ us H5 ⟨_,⟨ts,m5,g5,cH,rts,gd,lts⟩⟩ p5 hp5
     have lus:=rts.length
     rw[List.length_map]at lus
     have s6:=ae hp5 (.lst us)
     have h6:upd H5 p5 (.lst us) p5=some (.lst us):=af
     have w5:Wk K fe d S xs ow df m H (n+1) (ovs.length*(3*((room-1) / 2)).toNat) ts us m5 H5:=⟨w3.g.trans g5,cH,rts,gd⟩
     generalize upd H5 p5 (.lst us)=H6 at s6 h6⊢
     have w6:=w5.same hi s6
     fail "R"
     refine .inl ⟨bJ.of h6,?_⟩
     intro p7 hp7
     have s7:=ae hp7 (.tup us)
     have r7:=Rp.new (K:=K) hp7 w6.r
     generalize upd H6 p7 (.tup us)=H7 at s7 r7⊢
     have w7:=w6.same hi s7
     fail "R"
     intro p8 hp8
     have s8:=ae hp8 (.tup [.str "tag",.str o.1,.ref p7])
     have w8:=w7.same hi s8
     have hz:ovs.length*(3*((room-1) / 2)).toNat<=2*(3*((room-1) / 2)).toNat:=Nat.mul_le_mul_right _ (by omega)
     refine k _ _ (.mk (.tag o.1) ts) m5 w8.g w8.s ?_ (w7.d.tm rfl eA rfl (Nat.le_refl _) (by omega))
     rw[aW]
     exact Rp.new (K:=K) hp8 (.cons .s (.cons .s (.one r7)))
  clear c6 c7 c8
  have rest1:(ik (wf xs 0) kd=kN->7<=fm)->N5 [some (.ref fe),some (.ref d),some (.ref ar),some vk,some (.int room),some (.int fm),some (.int ((room-1) / 2)),none,none,none] H2:=by
   intro f7
   have rN:Rp K H2 kN (.str "num"):=.s
   fail "R"
   refine cJ (fun c=>?_) (fun c=>?_)
   ·have f7':=f7 (of_decide_eq_true c)
    fail "R"
    intro p3 hp3
    have s3:=ae hp3 (.lst [.str "first",.str "long"])
    have h3:upd H2 p3 (.lst [.str "first",.str "long"]) p3=some (.lst [.str "first",.str "long"]):=af
    generalize upd H2 p3 (.lst [.str "first",.str "long"])=H3 at s3 h3⊢
    have w3:=w2.same hi s3
    have hhd:∃(h:Hd) (fs:Str),iI [V.str "first",.str "long"] (fm-7)=some (.str fs)/\br h 1=true/\bnd h 1=List.replicate 1 []/\iG [] h=[]/\∀k,c9 h k=.t (.s fs::k):=by
     have:fm=7\/fm=8:=by omega
     rcases this with rfl|rfl
     ·exact⟨.first,"first",bC (j:=0) rfl,rfl,rfl,rfl,fun _=>rfl⟩
     ·exact⟨.long,"long",bC (j:=1) rfl,rfl,rfl,rfl,fun _=>rfl⟩
    obtain⟨hd,fs,hat,e1,e2,e3,e4⟩:=hhd
    fail "R"
    intro p4 hp4
    have s4:=ae hp4 (.tup [.str "row",.str "num"])
    have r4':Rp K (upd H3 p4 (.tup [.str "row",.str "num"])) (ik (wf xs 0) .R) (.ref p4):=Rp.new (K:=K) hp4 (.cons .s (.one .s))
    generalize upd H3 p4 (.tup [.str "row",.str "num"])=H4 at s4 r4' ⊢
    have w4:=w3.same hi s4
    have hi4:=w4.nU hi
    fail "R"
    intro v5 H5 tm5 m5 g5 s5 rv5 gd5
    have w5:=w4.snoc g5 s5 rv5 gd5
    fail "R"
    intro p6 hp6
    have s6:=ae hp6 (.tup [.str fs,v5])
    have w6:=w5.same hi s6
    refine k _ _ (.mk hd [tm5]) m5 w6.g w6.s ?_ (w5.d.tm e1 ?_ e3 (Nat.le_refl _) (by omega))
    ·rw[aW,e4]
     exact Rp.new (K:=K) hp6 (.cons .s (.one rv5))
    ·refine(?_:∀b∈bnd hd 1,b.length<=2/\∀x∈b,er x)
     rw[e2]
     exact eA
   ·fail "R"
    exact rest2 fun z=>c (decide_eq_true z)
  clear c5
  have rN:Rp K H2 kN (.str "num"):=.s
  fail "R"
  refine cJ (fun c=>?_) (fun c=>?_)
  ·fail "R"
   refine cJ (fun c'=>?_) (fun c'=>?_)
   ·fail "R"
    intro v3 H3 tm3 m3 g3 s3 rv3 gd3
    have w3:=w2.snoc g3 s3 rv3 gd3
    have hf3:=w3.s.ff
    fail "R"
    intro r4' H4 r40 r41 x4
    have w4:=w3.ext hi x4
    have hi4:=w4.nU hi
    have rk4:=w4.rp hi rk
    obtain⟨cc,hc⟩:=Dn r4' r40 r41
    fail "R"
    intro v5 H5 tm5 m5 g5 s5 rv5 gd5
    have w5:=w4.snoc g5 s5 rv5 gd5
    fail "R"
    intro p6 hp6
    have s6:=ae hp6 (.tup [.str "op",.str ⟨#[cc]⟩,v3,v5])
    have w6:=w5.same hi s6
    refine k _ _ (.mk (.op ⟨#[cc]⟩) [tm3,tm5]) m5 w6.g w6.s ?_ (w5.d.tm rfl eA rfl (Nat.le_refl _) (by omega))
    rw[aW]
    exact Rp.new (K:=K) hp6 (.cons .s (.cons .s w5.r))
   ·fail "R"
    exact rest1 fun _=>by have:=of_decide_eq_false (eq_false_of_ne_true c');omega
  ·fail "R"
   exact rest1 fun z=>absurd (decide_eq_true z) c
 clear c4 c5 c6 c7 c8
 fail "R"
 refine cJ (fun c=>?_) (fun c=>?_)
 ·fail "R"
  exact small
 ·fail "R"
  refine cJ (fun c'=>?_) (fun c'=>?_)
  ·fail "R"
   exact small
  ·have r4:4<=room:=by have:=of_decide_eq_false (eq_false_of_ne_true c);omega
   have f9:fm≠9:=by rintro rfl;exact c' rfl
   fail "R"
   refine cJ (fun c2=>?_) (fun c2=>?_)
   ·have f4:fm<4:=of_decide_eq_true c2
    fail "R"
    intro r2 H2 r20 r21 x2
    have w2:=w1.ext hi x2
    have hi2:=w2.nU hi
    have rk2:=w2.rp hi rk
    fail "R"
    refine cJ (fun c3=>?_) (fun c3=>?_)
    ·fail "R"
     intro v3 H3 tm3 m3 g3 s3 rv3 gd3
     exact k v3 H3 tm3 m3 (w2.g.trans g3) s3 rv3 gd3
    ·fail "R"
     exact rest r4 f9 H2 x2
   ·fail "R"
    exact rest r4 f9 H1 (Ext.refl hf1)
end
theorem ju(xs:List V)(n:Nat):bF xs none (some (n:Int))=xs.take n:=by
 unfold bF
 rw[HT.nt,HT.oA,List.drop_zero,Nat.sub_zero]
 rcases Nat.le_total n xs.length with h|h
 ·rw[Nat.min_eq_left h]
 ·rw[Nat.min_eq_right h,List.take_of_length_le (Nat.le_refl _),List.take_of_length_le h]
theorem Un.nodup{xs:List Str}(h:Un xs):xs.Nodup:=by
 refine List.pairwise_iff_getElem.mpr fun i j hi hj lt e=>?_
 have:=h i j xs[i] (List.getElem?_eq_getElem hi) (by rw[e];exact List.getElem?_eq_getElem hj)
 omega
structure PI(K:PySem.W.Frag) (fe:Addr) (x0:Str) (pn:List Str) (H1:Hp) (i:Nat) (us:List V) (H5:Hp):Prop where
 x:∃ps:List (Str×T),Ext fe H1 H5/\aM K H5 (ps.map AW) us/\ps.map (·.1)=pn.take i/\∀p∈ps,∃kd,p.2=ik x0 kd
structure uc(tn:Int) (ds:List Df) (m' sz:Nat):Prop where
 len:1<=ds.length/\ds.length<=2
 ok:∀e∈ds,Tok e.2.2/\e.2.2.depth<=8/\e.2.2.size<=sz/\e.2.1.length<=3/\(e.2.1.map (·.1)).Nodup/\∀x∈e.2.1.map (·.1),er x
 gn:(ds.flatMap fun e=>gl e.2.2).Nodup
 gm:∀g∈ds.flatMap (fun e=>gl e.2.2),∃i,i<m'/\g=cC tn i
noncomputable def mX(K:PySem.W.Frag):Sp:=fun vs H Q _=>∃(f d:Addr) (room:Int) (S:ic) (xs:List Str) (ow:List (Str×List T)),vs=[.ref f,.ref d,.int room]/\bf K H f d S xs ow .cW 0/\S.la≠f/\d≠S.la/\2<=room/\room<32 /\
 ∀(a:Addr) (pv v2 v3:V) (H':Hp) (ks:T) (ds:List Df) (df:V) (m':Nat),(∀b o,b≠f->b≠S.la->b≠d->H b=some o->H' b=some o)->bf K H' f d S xs ow df m'->aJ K H' a [pv,v2,v3]->Rp K H' (.t [ks,.t (ds.map wQ)]) pv->uc S.tn ds m' (3*room+1).toNat->Q (.ref a) H'
section
variable {K:PySem.W.Frag}{H:Hp}{f d:Addr}{S:ic}{xs:List Str}{ow:List (Str×List T)}{df:V}{m:Nat}
theorem bf.CU{v:V}(s:bf K H f d S xs ow df m)(nd:d≠S.la):∃H',iP H d (.str "def") v H'/\bf K H' f d S xs ow v m/\(∀b o,b≠d->H b=some o->H' b=some o)/\Kt H H':=by
 have pp:=iP.k (k:=ky "def") (v:=v) s.sd (aC (by show 9<=1000;decide))
 rw[Ay]at pp
 have kt:Kt H (upd H d (.dK (lT S v))):=Kt.upd s.sd (fun _ z=>nomatch z) (fun _ _ z=>nomatch z) _
 have oth:∀b o,b≠d->H b=some o->upd H d (.dK (lT S v)) b=some o:=fun b o n e=>by rw[aq n];exact e
 obtain⟨avs,ha,hk⟩:=s.la
 obtain⟨p,q,hf⟩:=s.ff
 obtain⟨gvs,hg,rg⟩:=s.lg
 have nl:=s.nl
 exact⟨_,pp,⟨af,s.kd.kt kt,oth _ _ (HO.ne s.ln s.sd (fun z=>nomatch z)) s.ln,oth _ _ (HO.ne s.lp s.sd (fun z=>nomatch z)) s.lp,oth _ _ (HO.ne s.lc s.sd (fun z=>nomatch z)) s.lc,⟨gvs,oth _ _ (HO.ne hg s.sd (fun z=>nomatch z)) hg,rg.kt kt⟩,⟨avs,oth _ _ nd.symm ha,hk⟩,s.mm,s.mo,s.tn,s.lx,s.un,s.lo,s.ow,⟨p,q,oth _ _ (HO.ne hf s.sd (fun z=>nomatch z)) hf⟩,nl⟩,oth,kt⟩
theorem bf.BK{H0:Hp}{df0:V}{m0:Nat}{p:Addr}{vs ws:List V}(s0:bf K H0 f d S xs ow df0 m0)(s:bf K H f d S xs ow df m)(hp:H0 p=none)(h:H p=some (.lst vs)):bf K (upd H p (.lst ws)) f d S xs ow df m:=by
 have kt:Kt H (upd H p (.lst ws)):=Kt.upd h (fun _ z=>nomatch z) (fun _ _ z=>nomatch z) _
 have oth:∀{b o u},H0 b=some u->H b=some o->upd H p (.lst ws) b=some o:=fun e1 e=>by rw[aq (aB e1 hp)];exact e
 obtain⟨avs,ha,hk⟩:=s.la
 obtain⟨a,b,hf⟩:=s.ff
 obtain⟨gvs,hg,rg⟩:=s.lg
 obtain⟨avs0,ha0,_⟩:=s0.la
 obtain⟨_,_,hf0⟩:=s0.ff
 obtain⟨gvs0,hg0,_⟩:=s0.lg
 exact⟨oth s0.sd s.sd,s.kd.kt kt,oth s0.ln s.ln,oth s0.lp s.lp,oth s0.lc s.lc,⟨gvs,oth hg0 hg,rg.kt kt⟩,⟨avs,oth ha0 ha,hk⟩,s.mm,s.mo,s.tn,s.lx,s.un,s.lo,s.ow,⟨a,b,oth hf0 hf⟩,s.nl⟩
theorem nV(tn:Int)(a n:Nat):((List.range' a n).map (cC tn)).Nodup:=(List.nodup_range' (s:=a) (n:=n)).map (cC tn) fun i j h e=>h (jr e)
theorem AD{tn:Int}{m sz sz2:Nat}{c:Str}{ps:List (Str×T)}{tm:Tm}(g:yr tn 0 m tm 7 sz)(h:sz<=sz2)(l:ps.length<=3)(n:(ps.map (·.1)).Nodup)(o:∀x∈ps.map (·.1),er x):uc tn [(c,ps,tm)] m sz2:=by
 have g4:=g.gl
 rw[Nat.sub_zero]at g4
 have e:[(c,ps,tm)].flatMap (fun e=>G04.gl e.2.2)=(List.range' 0 m).map (cC tn):=by
  rw[←g4];exact List.append_nil _
 refine⟨⟨Nat.le_refl _,by show 1<=2;decide⟩,fun e he=>?_,?_,?_⟩
 ·rw[List.mem_singleton.mp he]
  exact⟨g.ok,Nat.le_trans g.dp (by decide),Nat.le_trans g.sz h,l,n,o⟩
 ·rw[e];exact nV _ _ _
 ·rw[e]
  intro x hx
  obtain⟨i,hi,rfl⟩:=List.mem_map.mp hx
  exact⟨i,by have:=List.mem_range'_1.mp hi;omega,rfl⟩
theorem AE{tn:Int}{m m2 sz s1 s2:Nat}{c c':Str}{ps qs:List (Str×T)}{tm tm2:Tm}(g:yr tn 0 m tm 7 s1)(g2:yr tn m m2 tm2 7 s2)(h:s1+1<=sz)(h2:s2<=sz)(l:ps.length<=3)(n:(ps.map (·.1)).Nodup)(o:∀x∈ps.map (·.1),er x)(l':qs.length<=3)(n':(qs.map (·.1)).Nodup)(o':∀x∈qs.map (·.1),er x):uc tn [(c,qs,tm2),(c',ps,.mk (.call c) [tm])] m2 sz:=by
 have d1:Gd tn 0 m [tm] 7 (0+s1):=Gd.nil.snoc g
 have d2:=d1.tm (h:=.call c) rfl eA rfl (dp2:=8) (sz2:=sz) (Nat.le_refl _) (by omega)
 have g4:=d2.gl
 rw[Nat.sub_zero]at g4
 have e:[(c,qs,tm2),(c',ps,Tm.mk (.call c) [tm])].flatMap (fun e=>G04.gl e.2.2)=(List.range' m (m2-m)).map (cC tn)++(List.range' 0 m).map (cC tn):=by
  rw[←g2.gl,←g4]
  show G04.gl tm2++(G04.gl _++[])=_
  rw[List.append_nil]
 have hle:=g2.le
 refine⟨⟨by show 1<=2;decide,Nat.le_refl _⟩,fun e he=>?_,?_,?_⟩
 ·rcases List.mem_cons.mp he with rfl|he
  ·exact⟨g2.ok,Nat.le_trans g2.dp (by decide),Nat.le_trans g2.sz h2,l',n',o'⟩
  ·rw[List.mem_singleton.mp he]
   exact⟨d2.ok,d2.dp,d2.sz,l,n,o⟩
 ·rw[e,List.nodup_append]
  refine⟨nV _ _ _,nV _ _ _,fun a ha b hb z=>?_⟩
  obtain⟨i,hi,rfl⟩:=List.mem_map.mp ha
  obtain⟨j,hj,rfl⟩:=List.mem_map.mp hb
  have:=jr z
  have:=List.mem_range'_1.mp hi
  have:=List.mem_range'_1.mp hj
  omega
 ·rw[e]
  intro x hx
  rcases List.mem_append.mp hx with hx|hx
  ·obtain⟨i,hi,rfl⟩:=List.mem_map.mp hx
   exact⟨i,by have:=List.mem_range'_1.mp hi;omega,rfl⟩
  ·obtain⟨i,hi,rfl⟩:=List.mem_map.mp hx
   exact⟨i,by have:=List.mem_range'_1.mp hi;omega,rfl⟩
end
section
variable {P:Program}{w:World}{K:PySem.W.Frag}{mg:Str->Option Value}{base:Heap}{gT gE:Addr}{tfd efd:FuncData}
theorem av:Nm ["_law_feed_here","_law_scene_here","_law_room","_law_params","_law_goal","_law_defs","_law_term_here","_law_ahead"] (aj cK):=by decide +kernel
theorem cP:Lm ["_law_feed_here","_law_scene_here","_law_room","_law_params","_law_goal","_law_defs","_law_term_here","_law_ahead"] (aj cK):=by decide +kernel
theorem ck:aZ ["_law_feed_here","_law_scene_here","_law_room","_law_params","_law_goal","_law_defs","_law_term_here","_law_ahead"] ["_law_feed_here","_law_scene_here","_law_room"] (aj cK):=⟨rfl,rfl,rfl,by decide +kernel,rfl,by decide +kernel,by decide +kernel⟩
theorem qQ{f:Addr}{fd:FuncData}{j:Nat}(hj:1<=j)(F:iE K "_law_program" "_law_program" cK f fd)(TK:cR P w K mg base "_law_take" 1 ["_law_feed_here","_law_many_here"] cT gT tfd)(TE:cR P w K mg base "_law_term" j ["_law_feed_here","_law_scene_here","_law_around","_law_kind","_law_room"] (lF K 6) gE efd)(z_tuple:mg "tuple"=none):cA P w K mg base gv (j+1) f fd ["_law_feed_here","_law_scene_here","_law_room"] (mX K):=by
 refine F.ok ck (fun vs H Q E h=>?_) (fun cdv A outer s H vs Q E hr h=>?_)
 ·obtain⟨_,_,_,_,_,_,rfl,_⟩:=h
  rfl
 obtain⟨fe,d,room,S,xs,ow,rfl,sc,hlf,hnd,r2,r32,k⟩:=h
 refine⟨_,(Z6 (@kH _ _ _ _ _ _ _ _ _ _ _ _ _ _ _ (aj cK) ["_law_feed_here","_law_scene_here","_law_room","_law_params","_law_goal","_law_defs","_law_term_here","_law_ahead"] ["_law_x"] [0,1] rfl rfl rfl (by decide +kernel) (@cO _ _ _ _ (@b8 _ _ _ _ _ _ _ _ _ _ d8 (Zd (va av 1)) cE (@bV _ _ _ (Z0 TK (aA (va av 0) (aA ak ah)))))) (fun _ _ _ _=>(Z2 (i:=0) (show(["_law_x","_law_feed_here","_law_scene_here"]:List Str).Nodup by decide +kernel))) (fun _ _ _ _=>fE) (fun _ _ _ _=>(Ze (Z1 (va (show Nm ["_law_x","_law_feed_here","_law_scene_here"] _ by show _=_;kernel_rfl) 0) (Z1 (Za (uY K rfl) (Zd (va (show Nm ["_law_x","_law_feed_here","_law_scene_here"] _ by show _=_;kernel_rfl) 2)) (Z0 TK (aA (va (show Nm ["_law_x","_law_feed_here","_law_scene_here"] _ by show _=_;kernel_rfl) 1) (aA ak ah)))) ah)))) (ga ck.nd cP 3) (by kernel_rfl) (by intro _;rfl)) (Z6 (Z3 ck.nd cP 4 (Za aT (Zd (va av 1)) (Z0 TK (aA (va av 0) (aA ak ah))))) (Z6 (sa ck.nd cP 5 (bj ah)) (Z6 (Z3 ck.nd cP 6 (Z0 TE (Z1 (va av 0) (Z1 (va av 1) (Z1 (va av 3) (Z1 (va av 4) (aA (va av 2) ah))))))) (Z6 (Zf (Zi cu (Z0 TK (aA (va av 0) (aA ak ah))) ak) (Z6 (ir (jK hr) (va av 1) au ak (by rfl)) (Z6 (Z3 ck.nd cP 7 (Z0 TE (Z1 (va av 0) (Z1 (va av 1) (Z1 (@bj _ _ _ _ (Z1 (Ze (Z1 (Za aT (Zd (va av 1)) ak) (aA (va av 4) ah))) ah)) (Z1 (va av 4) (Z1 (bw eZ (va av 2) ak) ah))))))) (Z6 (@cS _ _ _ _ (Zb PySem.F.slot_list_append PySem.F.type_list_append dB (va av 5) (Z1 (Ze (Z1 (Za aT (Zd (va av 1)) ak) (Z1 (Ze (Z1 (Ze (Z1 (Za aT (Zd (va av 1)) ak) (aA (va av 4) ah))) ah)) (aA (va av 7) ah)))) ah)) (by rfl)) (Zh (Z3 ck.nd cP 6 (Ze (Z1 au (Z1 (Za aT (Zd (va av 1)) ak) (Z1 (Ze (aA (va av 6) ah)) ah)))))))))) (Z6 (@cS _ _ _ _ (Zb PySem.F.slot_list_append PySem.F.type_list_append dB (va av 5) (Z1 (Ze (Z1 (Za aT (Zd (va av 1)) ak) (Z1 (Z5 aX z_tuple PyProof.Rows.boot_tuple (aA (va av 3) ah)) (aA (va av 6) ah)))) ah)) (by rfl)) (Zh (@aK _ _ _ _ (Ze (Z1 (Ze (Z1 (Zd (va av 1)) (Z1 (Z5 aX z_tuple PyProof.Rows.boot_tuple (aA (va av 5) ah)) ah))) (Z1 (Z4 (aj cK) ["_law_feed_here","_law_scene_here","_law_room","_law_params","_law_goal","_law_defs","_law_term_here","_law_ahead"] ["_law_x","_law_kind"] [] (cO (va av 3)) (fun _ _ _ _=>(Zc (2) (Zg (Z2 (i:=0) (show(["_law_x","_law_kind"]:List Str).Nodup by decide +kernel)) (aU (Z2 (i:=1) (show(["_law_x","_law_kind"]:List Str).Nodup by decide +kernel)) bq)))) (fun _ _ _ _=>(va (show Nm ["_law_x","_law_kind"] _ by show _=_;kernel_rfl) 1))) (aA (va av 4) ah)))))))))))),?_⟩
 try dsimp only[dg]
 try dsimp only[dg]
 have hg0:=sc.lD
 have hff:=sc.ff
 refine jg ?_
 intro N1 N2 N3 N4 N5 c1 c2 c3 c4 c5
 fail "R"
 intro r1 H1 r10 r11 x1
 have sc1:=sc.ext x1 hnd hlf
 have hl1:=bJ.of (K:=K) sc1.lp
 obtain⟨rn,rfl⟩:∃rn:Nat,r1=(rn:Int):=⟨r1.toNat,by omega⟩
 fail "R"
 intro p2 hp2
 rw[ju,←List.map_take]
 have hpn:∀z∈((xs.drop 7).take 3).take rn,er z:=fun z hz=>sc.lo z (List.mem_of_mem_drop (List.mem_of_mem_take (List.mem_of_mem_take hz)))
 have hpd:(((xs.drop 7).take 3).take rn).Nodup:=((sc.un.nodup.sublist (List.drop_sublist _ _)).sublist (List.take_sublist _ _)).sublist (List.take_sublist _ _)
 have hp3:(((xs.drop 7).take 3).take rn).length<=3:=by rw[List.length_take,List.length_take];omega
 generalize((xs.drop 7).take 3).take rn=pn at *
 have s2:=ae hp2 (.lst (pn.map V.str))
 have h2:upd H1 p2 (.lst (pn.map V.str)) p2=some (.lst (pn.map V.str)):=af
 generalize upd H1 p2 (.lst (pn.map V.str))=H2 at s2 h2⊢
 have x2:=x1.same s2
 have sc2:=sc1.same s2 hnd
 have nf2:=aV x1.2 hp2
 fail "R"
 refine cy (K:=K) (xs:=pn.map V.str) (fun i σ us H5=>(∃x,σ=[x,some (.ref fe),some (.ref d)])/\PI K fe (wf xs 0) pn H2 i us H5) ⟨⟨_,rfl⟩,⟨[],Ext.refl x2.2,.nil,rfl,fun p hp=>nomatch hp⟩⟩ ?_ (Nat.le_of_lt (aC (by rw[List.length_map];omega))) ?_ ?_ ?_
 ·rintro i σ us H5 h ⟨_,⟨ps,_,r,e,_⟩⟩
  have l:=congrArg List.length e
  rw[List.length_map,List.length_take]at l
  rw[r.length,List.length_map];omega
 ·rintro i σ us H5 h ⟨_,⟨ps,x5,_⟩⟩
  exact bJ.of (x5.1 _ _ nf2 h2)
 ·rintro i x σ us H5 hx ⟨⟨x0,rfl⟩,⟨ps,x5,rps,eps,hkd⟩⟩
  rw[List.getElem?_map]at hx
  obtain⟨q,hq,rfl⟩:=Option.map_eq_some_iff.mp hx
  have cH:=sc2.ext x5 hnd hlf
  have hg5:=cH.nS
  have hf5:=cH.ff
  fail "R"
  intro r6 H6 r60 r61 x6
  have sc6:=cH.ext x6 hnd hlf
  obtain⟨gvs,vg,kg,hgv,ag,rg⟩:=sc6.goal r60 r61
  fail "R"
  intro p7 hp7
  have s7:=ae hp7 (.tup [.str q,vg])
  have r7:=Rp.new (K:=K) (xs:=[.s q,_]) hp7 (.cons .s (.one rg))
  fail "R"
  refine⟨ps++[(q,ik (wf xs 0) kg)],(x5.trans x6).same s7,?_,?_,?_⟩
  ·rw[List.map_append]
   exact((rps.kt (x6.kt hf5)).same s7).snoc r7
  ·rw[List.map_append,eps,List.take_add_one,hq]
   rfl
  ·intro p hp
   rcases List.mem_append.mp hp with h|h
   ·exact hkd p h
   ·rw[List.mem_singleton.mp h];exact⟨kg,rfl⟩
 rintro σ us H3 ⟨_,⟨ps,x3,rps,eps,hkd⟩⟩ pa hpa
 rw[List.length_map,List.take_length]at eps
 have s4:=ae hpa (.lst us)
 have ha4:iF K (upd H3 pa (.lst us)) pa ps:=⟨us,af,rps.same s4⟩
 generalize upd H3 pa (.lst us)=H4 at s4 ha4⊢
 have x4:=(x2.trans x3).same s4
 have sc4:=sc.ext x4 hnd hlf
 have npf:pa≠fe:=aV x3.2 hpa
 have lps:ps.length<=3:=by rw[←List.length_map (f:=(·.1)),eps];exact hp3
 have hi4:n9 K H4 fe d S xs ow .cW 0 pa ps:=⟨sc4,ha4,npf,hlf,hnd,fun p hp=>⟨hpn _ (by rw[←eps];exact List.mem_map_of_mem hp),hkd p hp⟩,by omega⟩
 have hg4:=sc4.nS
 have hf4:=sc4.ff
 have lpa:H pa=none:=by
  cases e:H pa with
  |none=>rfl
  |some o =>
   have:=(x2.trans x3).1 _ _ npf e
   rw[this]at hpa;cases hpa
 fail "R"
 intro r5 H5 r50 r51 x5
 have w5:=(Wk.nil (dp:=7) hi4).ext hi4 x5
 obtain⟨gvs,vg,kg,hgv,ag,rg⟩:=w5.s.goal r50 r51
 fail "R"
 intro p6 hp6
 have s6:=ae hp6 (.lst [])
 have h6:upd H5 p6 (.lst []) p6=some (.lst []):=af
 generalize upd H5 p6 (.lst [])=H6 at s6 h6⊢
 have w6:=w5.same hi4 s6
 have hi6:=w6.nU hi4
 have rg6:=rg.same s6
 have l6:room<lim 6:=r32
 have l7:ps.length+2*6<=18:=by omega
 fail "R"
 intro v7 H7 tm7 m7 g7 s7 rv7 gd7
 have w7:=w6.snoc g7 s7 rv7 gd7
 have hf7:=w7.s.ff
 have fr4:∀b o,b≠fe->b≠S.la->b≠d->H b=some o->H4 b=some o:=fun b o n _ _ e=>x4.1 b o n e
 have fr7:∀b o,b≠fe->b≠S.la->b≠d->H b=some o->H7 b=some o:=fun b o n n2 n3 e=>w7.g.oth _ _ n n2 (fr4 b o n n2 n3 e)
 have lp6:H p6=none:=by
  cases e:H p6 with
  |none=>rfl
  |some o =>
   have n1:p6≠fe:=aV w5.s.ff hp6
   have:=x5.1 _ _ n1 (x4.1 _ _ n1 e)
   rw[this]at hp6;cases hp6
 have n6f:p6≠fe:=aV w5.s.ff hp6
 have n6l:p6≠S.la:=fun z=>by obtain⟨avq,haq,_⟩:=w5.s.la;rw[z,haq]at hp6;cases hp6
 have n6d:p6≠d:=fun z=>by rw[z,w5.s.sd]at hp6;cases hp6
 have n6p:p6≠pa:=fun z=>by obtain⟨avq,haq,_⟩:=hi4.aa;rw[z,x5.1 _ _ npf haq]at hp6;cases hp6
 obtain⟨c0,c1,ecl⟩:=zg (l:=xs.drop 10) (by rw[List.length_drop,sc.lx])
 have acl0:iI ((xs.drop 10).map V.str) 0=some (.str c0):=by rw[ecl];exact bC (j:=0) rfl
 have acl1:iI ((xs.drop 10).map V.str) 1=some (.str c1):=by rw[ecl];exact bC (j:=1) rfl
 have fin:∀(Hc:Hp) (df:V) (mc:Nat) (ds0:List Df) (dvs:List V) (tm:Tm) (tv:V) (o7:Option V),(∀b o,b≠fe->b≠S.la->b≠d->H b=some o->Hc b=some o)->bf K Hc fe d S xs ow df mc->Hc p6=some (.lst dvs)->aM K Hc (ds0.map wQ) dvs->ds0.length<=1->Rp K Hc (enc tm) tv->iF K Hc pa ps->uc S.tn (ds0++[(c1,ps,tm)]) mc (3*room+1).toNat->N5 [some (.ref fe),some (.ref d),some (.int room),some (.ref pa),some vg,some (.ref p6),some tv,o7] Hc:=by
  intro Hc df mc ds0 dvs tm tv o7 fr scc h6c rds ld rtm hac pg
  have hgc:=scc.lE
  have hlc:=bJ.of (K:=K) scc.lc
  obtain⟨pvs,hpvs,rpvs⟩:=hac
  have lpv:=rpvs.length
  rw[List.length_map]at lpv
  have ldv:=rds.length
  rw[List.length_map]at ldv
  fail "R"
  refine .inl ⟨bJ.of hpvs,fun p8 hp8=>?_⟩
  have s8:=ae hp8 (.tup pvs)
  have r8:=Rp.new (K:=K) hp8 rpvs
  generalize upd Hc p8 (.tup pvs)=H8 at s8 r8⊢
  fail "R"
  intro p9 hp9
  have s9:=ae hp9 (.tup [.str c1,.ref p8,tv])
  have r9:=Rp.new (K:=K) (xs:=[.s c1,pB ps,enc tm]) hp9 (.cons .s (.cons r8 (.one (rtm.same s8))))
  generalize upd H8 p9 (.tup [.str c1,.ref p8,tv])=H9 at s9 r9⊢
  have s89:=s8.trans s9
  have h69:=s89 _ _ h6c
  have l9:dvs.length<sizeLine:=aC (by omega)
  have k10:Kt H9 (upd H9 p6 (.lst (dvs++[.ref p9]))):=Kt.lst h69 _
  have sc10:=sc.BK (ws:=dvs++[.ref p9]) (scc.same s89 hnd) lp6 h69
  have h10:upd H9 p6 (.lst (dvs++[.ref p9])) p6=some (.lst (dvs++[.ref p9])):=af
  have rd10:aM K (upd H9 p6 (.lst (dvs++[.ref p9]))) ((ds0++[(c1,ps,tm)]).map wQ) (dvs++[.ref p9]):=by
   rw[List.map_append]
   exact((rds.same s89).kt k10).snoc (r9.kt k10)
  have fr10:∀b o,b≠fe->b≠S.la->b≠d->H b=some o->upd H9 p6 (.lst (dvs++[.ref p9])) b=some o:=fun b o n1 n2 n3 e=>by
   rw[aq (aB e lp6)];exact s89 _ _ (fr b o n1 n2 n3 e)
  have hp10:upd H9 p6 (.lst (dvs++[.ref p9])) pa=some (.lst pvs):=by rw[aq n6p.symm];exact s89 _ _ hpvs
  have rp10:=(rpvs.same s89).kt k10
  have hg10:=sc10.j4
  fail "R"
  refine .inl ⟨bJ.of h10,fun p11 hp11=>?_⟩
  generalize upd H9 p6 (.lst (dvs++[.ref p9]))=H10 at k10 sc10 h10 rd10 fr10 hp10 rp10 hp11⊢
  have s11:=ae hp11 (.tup (dvs++[.ref p9]))
  have r11:=Rp.new (K:=K) hp11 rd10
  generalize upd H10 p11 (.tup (dvs++[.ref p9]))=H11 at s11 r11⊢
  fail "R"
  intro p12 hp12
  have s12:=ae hp12 (.tup [.ref S.kd,.ref p11])
  have r12:=Rp.new (K:=K) (xs:=[_,_]) hp12 (.cons (sc10.kd.same s11) (.one r11))
  generalize upd H11 p12 (.tup [.ref S.kd,.ref p11])=H12 at s12 r12⊢
  have s1012:=s11.trans s12
  have hp12:=s1012 _ _ hp10
  have rp12:=rp10.same s1012
  fail "R"
  refine cy (K:=K) (xs:=pvs) (fun i σ us H13=>(∃x y,σ=[x,y])/\H13=H12/\us.length<=i) ⟨⟨_,_,rfl⟩,rfl,Nat.le_refl _⟩ ?_ (Nat.le_of_lt (aC (by omega))) ?_ ?_ ?_
  ·rintro i σ us H13 h ⟨_,_,e⟩
   exact e
  ·rintro i σ us H13 h ⟨_,rfl,_⟩
   exact bJ.of hp12
  ·rintro i x σ us H13 hx ⟨⟨x0,y0,rfl⟩,rfl,hu⟩
   obtain⟨y,hy,ry⟩:=rp12.get' hx
   rw[List.getElem?_map]at hy
   obtain⟨q,hq,rfl⟩:=Option.map_eq_some_iff.mp hy
   obtain⟨qa,u1,u2,rfl,qsq,g1,g2⟩:=(show Rp K H13 (.t [.s q.1,q.2]) x from ry).t2
   fail "R"
   rw[List.length_append]
   show us.length+1<=i+1
   omega
  ·rintro σ us H13 ⟨_,rfl,hu⟩ p14 hp14
   have s14:=ae hp14 (.lst us)
   generalize upd H13 p14 (.lst us)=H14 at s14⊢
   fail "R"
   intro p15 hp15
   have s15:=ae hp15 (.tup [.ref p12,.ref p14,vg])
   have s1015:=(s1012.trans s14).trans s15
   exact k p15 (.ref p12) (.ref p14) vg _ _ _ df mc (fun b o n1 n2 n3 e=>s1015 _ _ (fr10 b o n1 n2 n3 e)) (sc10.same s1015 hnd) (aJ.of af) (r12.same (s14.trans s15)) pg
 clear c5
 fail "R"
 intro r8 H8 r80 r81 x8
 have w8:=w7.ext hi4 x8
 have h68:=x8.1 _ _ n6f (g7.oth _ _ n6f n6l h6)
 have fr8:∀b o,b≠fe->b≠S.la->b≠d->H b=some o->H8 b=some o:=fun b o n n2 n3 e=>x8.1 _ _ n (fr7 b o n n2 n3 e)
 have r78:=rv7.kt (x8.kt hf7)
 have hw8:Rp K H8 (ik (wf xs 0) kg) vg:=(rg6.kt (Gs.kt w6.s g7.oth)).kt (x8.kt hf7)
 have nmx:∀x∈ps.map (·.1),er x:=by rw[eps];exact hpn
 have ndx:(ps.map (·.1)).Nodup:=by rw[eps];exact hpd
 fail "R"
 refine cJ (fun c=>?_) (fun c=>?_)
 ·obtain⟨H9,pp9,sc9,fr9,k9⟩:=w8.s.CU (v:=.int 0) hnd
  have hgp9:=sc9.lD
  have hlp9:=bJ.of (K:=K) sc9.lp
  have hap:∃z,er z/\iI (((xs.drop 7).take 3).map V.str) 0=some (.str z):=by
   obtain⟨v,hv,hm⟩:=jB (xs:=((xs.drop 7).take 3).map V.str) (k:=0) (by omega) (by rw[List.length_map,List.length_take,List.length_drop,sc.lx];decide)
   obtain⟨z,hz,rfl⟩:=List.mem_map.mp hm
   exact⟨z,sc.lo z (List.mem_of_mem_drop (List.mem_of_mem_take hz)),hv⟩
  obtain⟨z,hz,az⟩:=hap
  fail "R"
  intro p10 hp10
  have s10:=ae hp10 (.tup [.str z,vg])
  have r10:=Rp.new (K:=K) (xs:=[.s z,_]) hp10 (.cons .s (.one (hw8.kt k9)))
  generalize upd H9 p10 (.tup [.str z,vg])=H10 at s10 r10⊢
  fail "R"
  intro p11 hp11
  have s11:=ae hp11 (.lst [.ref p10])
  have a11:iF K (upd H10 p11 (.lst [.ref p10])) p11 [(z,ik (wf xs 0) kg)]:=⟨_,af,.one (r10.same s11)⟩
  generalize upd H10 p11 (.lst [.ref p10])=H11 at s11 a11⊢
  have s911:=s10.trans s11
  have sc11:=sc9.same s911 hnd
  have hi11:n9 K H11 fe d S xs ow (.int 0) m7 p11 [(z,ik (wf xs 0) kg)]:=⟨sc11,a11,aV (sc9.same s10 hnd).ff hp11,hlf,hnd,fun p hp=>by rw[List.mem_singleton.mp hp];exact⟨hz,kg,rfl⟩,by show 1<=20;decide⟩
  have rg11:=(hw8.kt k9).same s911
  have l11:room / 2<lim 6:=by have:lim 6=32:=rfl;omega
  have C2:[(z,ik (wf xs 0) kg)].length+2*6<=18:=by show 13<=18;decide
  fail "R"
  intro v12 H12 tm12 m12 g12 s12 rv12 gd12
  have hgc:=s12.lE
  have hlc:=bJ.of (K:=K) s12.lc
  have hgp12:=s12.lD
  have hlp12:=bJ.of (K:=K) s12.lp
  have k12:=Gs.kt sc11 g12.oth
  have rg12:=rg11.kt k12
  have h69:=fr9 _ _ n6d h68
  have h612:=g12.oth _ _ n6f n6l (s911 _ _ h69)
  have r712:=((r78.kt k9).same s911).kt k12
  have fr12:∀b o,b≠fe->b≠S.la->b≠d->H b=some o->H12 b=some o:=fun b o n n2 n3 e=>g12.oth _ _ n n2 (s911 _ _ (fr9 _ _ n3 (fr8 b o n n2 n3 e)))
  obtain⟨pv8,ha8,ra8⟩:=(w8.nU hi4).aa
  have npd:pa≠d:=HO.ne ha8 w8.s.sd (fun z=>nomatch z)
  have npl:pa≠S.la:=by obtain⟨avq,haq,_⟩:=w8.s.la;exact HO.ne ha8 haq (fun z=>nomatch z)
  have ha12:iF K H12 pa ps:=⟨pv8,g12.oth _ _ npf npl (s911 _ _ (fr9 _ _ npd ha8)),((ra8.kt k9).same s911).kt k12⟩
  fail "R"
  intro p13 hp13
  have s13:=ae hp13 (.tup [.str z,vg])
  have r13:=Rp.new (K:=K) (xs:=[.s z,_]) hp13 (.cons .s (.one rg12))
  generalize upd H12 p13 (.tup [.str z,vg])=H13 at s13 r13⊢
  fail "R"
  intro p14 hp14
  have s14:=ae hp14 (.tup [.ref p13])
  have r14:=Rp.new (K:=K) hp14 (.one r13)
  generalize upd H13 p14 (.tup [.ref p13])=H14 at s14 r14⊢
  have s24:=s13.trans s14
  fail "R"
  intro p15 hp15
  have s15:=ae hp15 (.tup [.str c0,.ref p14,v12])
  have r15:=Rp.new (K:=K) (xs:=[.s c0,pB [(z,ik (wf xs 0) kg)],enc tm12]) hp15 (.cons .s (.cons r14 (.one (rv12.same s24))))
  generalize upd H14 p15 (.tup [.str c0,.ref p14,v12])=H15 at s15 r15⊢
  have s25:=s24.trans s15
  have h615:=s25 _ _ h612
  have k16:Kt H15 (upd H15 p6 (.lst ([]++[.ref p15]))):=Kt.lst h615 _
  have sc16:=sc.BK (ws:=[]++[.ref p15]) (s12.same s25 hnd) lp6 h615
  have h16:upd H15 p6 (.lst ([]++[.ref p15])) p6=some (.lst ([]++[.ref p15])):=af
  have fr16:∀b o,b≠fe->b≠S.la->b≠d->H b=some o->upd H15 p6 (.lst ([]++[.ref p15])) b=some o:=fun b o n1 n2 n3 e=>by
   rw[aq (aB e lp6)];exact s25 _ _ (fr12 b o n1 n2 n3 e)
  have ha16:iF K (upd H15 p6 (.lst ([]++[.ref p15]))) pa ps:=by
   obtain⟨pv,h1,h2⟩:=ha12
   exact⟨pv,by rw[aq n6p.symm];exact s25 _ _ h1,(h2.same s25).kt k16⟩
  have r16:=r15.kt k16
  have r716:=(r712.same s25).kt k16
  have hgc16:=sc16.lE
  have hlc16:=bJ.of (K:=K) sc16.lc
  fail "R"
  intro p17 hp17
  generalize upd H15 p6 (.lst ([]++[.ref p15]))=H16 at k16 sc16 h16 fr16 ha16 r16 r716 hp17⊢
  have s17:=ae hp17 (.tup [v7])
  have r17:=Rp.new (K:=K) hp17 (.one r716)
  generalize upd H16 p17 (.tup [v7])=H17 at s17 r17⊢
  fail "R"
  intro p18 hp18
  have s18:=ae hp18 (.tup [.str "call",.str c0,.ref p17])
  have r18:=Rp.new (K:=K) (xs:=[.s "call",.s c0,.t [enc tm7]]) hp18 (.cons .s (.cons .s (.one r17)))
  generalize upd H17 p18 (.tup [.str "call",.str c0,.ref p17])=H18 at s18 r18⊢
  have s68:=s17.trans s18
  fail "R"
  refine fin H18 _ m12 [(c0,[(z,ik (wf xs 0) kg)],tm12)] _ (.mk (.call c0) [tm7]) _ _ (fun b o n1 n2 n3 e=>s68 _ _ (fr16 b o n1 n2 n3 e)) (sc16.same s68 hnd) (s68 _ _ h16) (.one (r16.same s68)) (Nat.le_refl _) (by rw[aW];exact r18) (ha16.same s68) ?_
  exact AE gd7 gd12 (by omega) (by omega) lps ndx nmx (by show 1<=3;decide) (List.nodup_cons.mpr ⟨(fun h=>nomatch h),List.nodup_nil⟩) (fun x hx=>by rw[List.mem_singleton.mp hx];exact hz)
 ·fail "R"
  refine fin H8 _ m7 [] [] tm7 v7 none fr8 w8.s h68 .nil (Nat.zero_le _) r78 (w8.nU hi4).aa ?_
  exact AD gd7 (by omega) lps ndx nmx
end
noncomputable def AF(tn x:Int):Nat:=(if tn=0 then(x-3) / 7 else 99-x).toNat
theorem nW{tn:Int}(h:tn=0\/tn=1)(i:Nat):AF tn (cC tn i)=i:=by
 unfold AF cC
 rcases h with rfl|rfl
 ·rw[if_pos rfl,if_pos rfl];omega
 ·rw[if_neg (by decide),if_neg (by decide)];omega
noncomputable def yC(tn:Int)(fr:List Int)(x:Int):Int:=fr.getD (AF tn x) 0
theorem wA(g:Int->Int)(h:Hd)(n:Nat):br (pN g h) n=br h n:=by cases h<;>rfl
theorem yD(g:Int->Int)(h:Hd)(n:Nat):bnd (pN g h) n=bnd h n:=by cases h<;>rfl
theorem yE(g:Int->Int)(h:Hd):(iG [] (pN g h)).map (·.1)=((iG [] h).map (·.1)).map g:=by cases h<;>rfl
theorem Tok.iH{g:Int->Int}{tm:Tm}:Tok tm->Tok (G04.iH g tm):=by
 refine Tm.induct (P:=fun t=>Tok t->Tok (G04.iH g t)) (fun h ks ih w=>?_) tm
 cases w with
 |mk a b c =>
  rw[dZ]
  refine .mk (by rw[wA,List.length_map];exact a) (by rw[yD,List.length_map];exact b) fun k hk=>?_
  obtain⟨k',hk',rfl⟩:=List.mem_map.mp hk
  exact ih k' hk' (c k' hk')
theorem mY{f:Tm->Tm}:∀{ks:List Tm},(∀k∈ks,(f k).size=k.size)->Tm.sizes (ks.map f)=Tm.sizes ks
 | [],_=>rfl
 |k::r,h=>by rw[List.map_cons,Tm.bG,Tm.bG,h k (.head _),mY fun x hx=>h x (.tail _ hx)]
theorem wB(g:Int->Int)(tm:Tm):(iH g tm).size=tm.size:=by
 refine Tm.induct (P:=fun t=>(iH g t).size=t.size) (fun h ks ih=>?_) tm
 rw[dZ,Tm.cF,Tm.cF,mY ih]
theorem sA{f:Tm->Tm}{g:Int->Int}:∀{ks:List Tm},(∀k∈ks,gl (f k)=(gl k).map g)->gu (ks.map f)=(gu ks).map g
 | [],_=>by rw[show gu ([]:List Tm)=[]from by unfold gu;rfl];rfl
 |k::r,h=>by
  rw[List.map_cons,show gu (f k::r.map f)=gl (f k)++gu (r.map f)from by rw[gu],show gu (k::r)=gl k++gu r from by rw[gu],List.map_append,h k (.head _),sA fun x hx=>h x (.tail _ hx)]
theorem AG(g:Int->Int)(tm:Tm):gl (iH g tm)=(gl tm).map g:=by
 refine Tm.induct (P:=fun t=>gl (iH g t)=(gl t).map g) (fun h ks ih=>?_) tm
 rw[dZ,show gl (.mk (pN g h) (ks.map (iH g)))=(iG [] (pN g h)).map (·.1)++gu (ks.map (iH g))from by rw[gl],show gl (.mk h ks)=(iG [] h).map (·.1)++gu ks from by rw[gl],List.map_append,yE,sA ih]
theorem Tok.wn{tm:Tm}:Tok tm->Wn tm:=by
 refine Tm.induct (P:=fun t=>Tok t->Wn t) (fun h ks ih w=>?_) tm
 cases w with
 |mk a b c=>exact .mk a (fun x hx=>(b x hx).1) fun k hk=>ih k hk (c k hk)
structure wC(ds:List Df):Prop where
 len:ds.length<=2
 ok:∀e∈ds,Tok e.2.2/\e.2.2.depth<=8/\e.2.2.size<=40/\e.2.1.length<=3/\(e.2.1.map (·.1)).Nodup/\∀x∈e.2.1.map (·.1),er x
 gn:(ds.flatMap fun e=>gl e.2.2).Nodup
theorem ud(g:Int->Int)(tm:Tm):(iH g tm).depth=tm.depth:=by
 refine Tm.induct (P:=fun t=>(iH g t).depth=t.depth) (fun h ks ih=>?_) tm
 rw[dZ]
 have e:∀{l:List Tm},(∀k∈l,(iH g k).depth=k.depth)->Tm.fq (l.map (iH g))=Tm.fq l:=by
  intro l
  induction l with
  |nil=>intro _;rfl
  |cons k r ih2=>intro h;rw[List.map_cons,Tm.fq,Tm.fq,h k (.head _),ih2 fun x hx=>h x (.tail _ hx)]
 cases ks with
 |nil=>rfl
 |cons k r=>rw[List.map_cons,Tm.fX,Tm.fX,←List.map_cons,e ih]
theorem AI{α:Type}{l:List α}(h:l.Nodup){i j:Nat}(hi:i<l.length)(hj:j<l.length)(e:l[i]=l[j]):i=j:=by
 rcases Nat.lt_trichotomy i j with z|z|z
 ·exact absurd e (List.pairwise_iff_getElem.mp h i j hi hj z)
 ·exact z
 ·exact absurd e.symm (List.pairwise_iff_getElem.mp h j i hj hi z)
theorem BL{tn:Int}{ds:List Df}{m sz:Nat}{fr:List Int}(p:uc tn ds m sz)(hz:∀e∈ds,e.2.2.size<=40)(ht:tn=0\/tn=1)(hf:fr.Nodup)(hl:fr.length=m):wC (ds.map (wg (yC tn fr))):=by
 refine⟨by rw[List.length_map];exact p.len.2,fun e he=>?_,?_⟩
 ·obtain⟨e',he',rfl⟩:=List.mem_map.mp he
  obtain⟨a,b,c,d⟩:=p.ok e' he'
  exact⟨a.iH,by show(iH _ e'.2.2).depth<=8;rw[ud];exact b,by show(iH _ e'.2.2).size<=40;rw[wB];exact hz e' he',d⟩
 ·have e:(ds.map (wg (yC tn fr))).flatMap (fun e=>gl e.2.2)=(ds.flatMap fun e=>gl e.2.2).map (yC tn fr):=by
   clear p hz
   induction ds with
   |nil=>rfl
   |cons d r ih =>
    rw[List.map_cons,List.flatMap_cons,List.flatMap_cons,List.map_append,ih]
    rw[show gl (wg (yC tn fr) d).2.2=gl (iH (yC tn fr) d.2.2)from rfl,AG]
  rw[e]
  refine List.pairwise_map.mpr (p.gn.imp_of_mem fun{a b} ha hb n z=>n ?_)
  obtain⟨i,hi,rfl⟩:=p.gm a ha
  obtain⟨j,hj,rfl⟩:=p.gm b hb
  unfold yC at z
  rw[nW ht,nW ht,List.getD_eq_getElem?_getD,List.getD_eq_getElem?_getD,List.getElem?_eq_getElem (by omega),List.getElem?_eq_getElem (by omega)]at z
  have:=AI hf _ _ z
  rw[this]
noncomputable def iN(K:PySem.W.Frag):Sp:=fun vs H Q _=>∃(f:Addr),vs=[.ref f]/\bM H f /\
 ∀(v:V) (H':Hp) (ks:T) (ds:List Df),Ext f H H'->Rp K H' (.t [ks,.t (ds.map wQ)]) v->wC ds->Q v H'
theorem pW:∀{kvs acc:List (Key×V)},((acc++kvs).map (·.1)).Nodup->fj acc kvs=acc++kvs
 | [],acc,_=>(List.append_nil acc).symm
 |kv::r,acc,h=>by
  have hn:∀q∈acc,q.1≠kv.1:=by
   intro q hq e
   rw[List.map_append,List.nodup_append]at h
   exact h.2.2 q.1 (List.mem_map_of_mem hq) kv.1 (List.mem_map_of_mem (.head _)) e
  show fj (putK acc kv.1 kv.2) r=_
  rw[sr hn,pW (by rw[List.append_assoc];exact h),List.append_assoc]
  rfl
theorem wD:∀{kvs:List (Key×V)}{i:Nat}{k:Key}{v:V},(kvs.map (·.1)).Nodup->kvs[i]?=some (k,v)->dY kvs k=some v
 | [],i,k,v,_,h=>by simp at h
 |p::r,0,k,v,_,h=>by
  cases Option.some.inj h
  unfold dY
  simp
 |p::r,i+1,k,v,n,h=>by
  have n2:=List.nodup_cons.mp n
  have ih:=wD (kvs:=r) (i:=i) (k:=k) (v:=v) n2.2 h
  have ne:p.1≠k:=fun e=>n2.1 (List.mem_map.mpr ⟨(k,v),List.mem_of_getElem? (l:=r) h,e.symm⟩)
  unfold dY at ih⊢
  simp[ne,ih]
structure DI(K:PySem.W.Frag) (tn:Int) (ns:List Int) (H2:Hp) (i:Nat) (us:List V) (H5:Hp):Prop where
 x:∃kvs:List (Key×V),aL H2 H5/\cB K H5 kvs us/\kvs.map (·.1)=(List.range i).map (fun k=>(.inl (cC tn k):Key))/\∀k,k<i->∃v,kvs[k]?=some (.inl (cC tn k),v)/\Rp K H5 (C3 (ns.getD k 0)) v
theorem cB.kt{K:PySem.W.Frag}{H H':Hp}(s:Kt H H'):∀{kvs:List (Key×V)}{us:List V},cB K H kvs us->cB K H' kvs us
 |_,_,.nil=>.nil
 |_,_,.cons ⟨a,e,q⟩ t=>.cons ⟨a,e,q.kt s⟩ (cB.kt s t)
theorem cB.len{K:PySem.W.Frag}{H:Hp}:∀{kvs:List (Key×V)}{us:List V},cB K H kvs us->us.length=kvs.length
 |_,_,.nil=>rfl
 |_,_,.cons _ t=>congrArg Nat.succ (cB.len t)
theorem cB.snoc{K:PySem.W.Frag}{H:Hp}{kv:Key×V}{y:V}(q:∃a,y=.ref a/\aJ K H a [kV kv.1,kv.2]):∀{kvs:List (Key×V)}{us:List V},cB K H kvs us->cB K H (kvs++[kv]) (us++[y])
 |_,_,.nil=>.cons q .nil
 |_,_,.cons h t=>.cons h (cB.snoc q t)
end G04
namespace L2
open PySem PySem.Spec PyProof.Rows
noncomputable def pX(ob:Obj)(es:Array DictEntry)(ep:Nat)(h:Heap)(l:Addr):Prop:=h.get? l=some ob/\ob.ExactDict/\ob.data=.dict es ep/\(l == sysModules)=false
noncomputable def nX(es:Array DictEntry)(ep:Nat)(h:Heap)(i l:Addr)(k:Nat):Prop:=h.IsKeyIter i l k es.size ep
section
variable {ob:Obj}{es:Array DictEntry}{ep:Nat}
theorem pX.at{h h':Heap}{l:Addr}(x:pX ob es ep h l)(k:∀o,h.get? l=some o->h'.get? l=some o):pX ob es ep h' l:=⟨k _ x.1,x.2⟩
theorem nX.at{h h':Heap}{i l:Addr}{n:Nat}(x:nX es ep h i l n)(k:∀o,h.get? i=some o->h'.get? i=some o):nX es ep h' i l n:=by
 obtain⟨o,e,r⟩:=x
 exact⟨o,k o e,r⟩
theorem pX.extBut{h h':Heap}{l c:Addr}(x:pX ob es ep h l)(hs:Heap.ExtBut c h h')(hc:l≠c):pX ob es ep h' l:=x.at fun o e=>hs l o hc e
theorem nX.extBut{h h':Heap}{i l c:Addr}{n:Nat}(x:nX es ep h i l n)(hs:Heap.ExtBut c h h')(hc:i≠c):nX es ep h' i l n:=x.at fun o e=>hs i o hc e
theorem nX.got{h:Heap}{i l:Addr}{n:Nat}(x:nX es ep h i l n):∃o,h.get? i=some o:=by
 obtain⟨o,e,r⟩:=x
 exact⟨o,e⟩
variable {prog:Program}{w:World}{A:Around}{E:Value->Shared->Prop}{s:Shared}
noncomputable abbrev pY(es:Array DictEntry)(ep:Nat)(l:Addr):Obj:={cls:=.type "dict_keyiterator",data:=.fields #[.ref l,.int 0 0,.int es.size 0,.int ep 0]}
theorem BN{d:Addr}{Q:Value->Shared->Prop}(hm:pX ob es ep s.heap d)(hQ:Q (.ref s.heap.objs.size) {s with heap:=s.heap.push (pY es ep d)}):wpAny (model prog w) A (pyIter (.ref d)) Q E s:=by
 obtain⟨ho,hc,hdat,hd⟩:=hm
 have hT:s.TypeIs (.ref d) "dict":=⟨_,ho,hc.1⟩
 refine wpAny_pyIter_slot hT F.slot_dict_iter (wpAny_call_entry F.slot_dict_iter hT F.entry_dict_iter ?_ (F.args_dict_iter_1 _))
 unfold Builtin.«dict.__iter__»
 refine wpAny_bind ?_
 unfold Builtin.Dict.dictSlotNone
 refine wpAny_bind (wpAny_notOrdered_dict hT ?_)
 show wpAny _ _ (pure (Value.ref d)) _ _ s
 refine wpAny_pure ?_
 show wpAny _ _ (Builtin.Dict.showsAll d>>=_) _ _ s
 unfold Builtin.Dict.showsAll
 rw[if_neg (by rw[hd];exact Bool.false_ne_true)]
 refine wpAny_bind (wpAny_pure ?_)
 refine wpAny_bind (wpAny_dictEntries ho hdat ?_)
 refine wpAny_bind (wpAny_dictEpoch ho hdat ?_)
 refine wpAny_bind (wpAny_newObj_type (wpAny_pure ⟨_,rfl,"dict_keyiterator",_,⟨_,Heap.get?_push_size _ rfl,rfl⟩,F.slot_dict_keyiterator_next.lookup,?_⟩))
 exact hQ
theorem pZ{it d:Addr}{i:Nat}{e0:DictEntry}{Q:Value->Shared->Prop}(hit:nX es ep s.heap it d i)(hm:pX ob es ep s.heap d)(hx:es[i]?=some e0)
  (hQ:∀h',nX es ep h' it d (i+1)->Heap.SameBut it s.heap h'->Q e0.key {s with heap:=h'}):wpAny (model prog w) A (Builtin.SmallTypes.nextOf (.ref it)) Q E s:=by
 obtain⟨o,ho,hc,hd⟩:=id hit
 obtain⟨hod,hcd,hdd,_⟩:=id hm
 have hT:s.TypeIs (.ref it) "dict_keyiterator":=⟨_,ho,hc⟩
 unfold Builtin.SmallTypes.nextOf
 refine wpAny_bind (wpAny_callSpecial?_slot (name:=Str.ofString "__next__") hT F.slot_dict_keyiterator_next (wpAny_call_entry F.slot_dict_keyiterator_next hT F.entry_dict_keyiterator_next ?_ (F.args_dict_keyiterator_next_1 _)))
 refine wpAny_bind (wpAny_pure ?_)
 refine wpAny_bind ?_
 refine wpAny_bind ?_
 first|refine wpAny_bind (wpAny_typeNameOfWhole_keyiter hT (wpAny_pure ?_))|refine wpAny_bind (wpAny_typeNameOf_keyiter hT (wpAny_pure ?_))
 refine wpAny_bind (wpAny_fieldsOf ho hd ?_)
 have hown:Builtin.Dict_items.ownsTuple "dict_keyiterator"=false:=by decide
 simp only[hown,Bool.false_eq_true,if_false]
 show wpAny _ _ (if(Value.ref d == Value.none)=true then _ else _) _ _ s
 rw[if_neg (show ¬((Value.ref d == Value.none)=true)from Bool.false_ne_true)]
 refine wpAny_bind (wpAny_pure ?_)
 refine wpAny_bind (wpAny_dictEntries hod hdd ?_)
 rw[if_neg (by simp)]
 refine wpAny_bind (wpAny_pure ?_)
 refine wpAny_bind (wpAny_dictEpoch hod hdd ?_)
 rw[if_neg (by simp)]
 refine wpAny_pure ?_
 simp only[show ¬((i:Int)<0)from by omega,if_false,Int.toNat_natCast,hx]
 refine wpAny_bind ?_
 first|refine wpAny_bind (wpAny_typeNameOfWhole_keyiter hT (wpAny_pure ?_))|refine wpAny_bind (wpAny_typeNameOf_keyiter hT (wpAny_pure ?_))
 refine wpAny_bind (wpAny_isOneOf_keyiter hT ?_)
 show wpAny _ _ (setField (.ref it) 1 (rawInt ((i:Int)+1))>>=_) _ _ s
 refine wpAny_bind (wpAny_setField ho hd (by simp) ?_)
 have hit':nX es ep (s.heap.update it (Obj.mapFields (·.setIfInBounds 1 (rawInt ((i:Int)+1))))) it d (i+1) :=
  ⟨_,Heap.get?_update_self _ ho (Obj.isFreed_of_fields (Obj.data_mapFields hd _)),(Obj.cls_mapFields ..).trans hc,by rw[Obj.data_mapFields hd];simp[rawInt]⟩
 refine wpAny_bind (wpAny_holding ?_)
 refine wpAny_bind (wpAny_isOneOf_keyiter (s:={s with heap:=s.heap.update it (Obj.mapFields (·.setIfInBounds 1 (rawInt ((i:Int)+1))))}) (Heap.IsKeyIter.typeIs hit') ?_)
 show wpAny _ _ (pure e0.key) _ _ _
 exact wpAny_pure (wpAny_pure ⟨_,rfl,wpAny_pure (hQ _ hit' (Heap.SameBut.update ..))⟩)
theorem yF{it d:Addr}{i:Nat}{Q:Value->Shared->Prop}(hh:A.handled=none)(hit:nX es ep s.heap it d i)(hm:pX ob es ep s.heap d)(hx:es[i]?=none)
  (hE:∀h' e,Heap.ExtBut it s.heap h'->(∃o,h'.get? e=some o/\o.cls=.type "StopIteration")->E (.ref e) {s with heap:=h'}):wpAny (model prog w) A (Builtin.SmallTypes.nextOf (.ref it)) Q E s:=by
 obtain⟨o,ho,hc,hd⟩:=id hit
 obtain⟨hod,hcd,hdd,_⟩:=id hm
 have hT:s.TypeIs (.ref it) "dict_keyiterator":=⟨_,ho,hc⟩
 unfold Builtin.SmallTypes.nextOf
 refine wpAny_bind (wpAny_callSpecial?_slot (name:=Str.ofString "__next__") hT F.slot_dict_keyiterator_next (wpAny_call_entry F.slot_dict_keyiterator_next hT F.entry_dict_keyiterator_next ?_ (F.args_dict_keyiterator_next_1 _)))
 refine wpAny_bind (wpAny_pure ?_)
 refine wpAny_bind ?_
 refine wpAny_bind ?_
 first|refine wpAny_bind (wpAny_typeNameOfWhole_keyiter hT (wpAny_pure ?_))|refine wpAny_bind (wpAny_typeNameOf_keyiter hT (wpAny_pure ?_))
 refine wpAny_bind (wpAny_fieldsOf ho hd ?_)
 have hown:Builtin.Dict_items.ownsTuple "dict_keyiterator"=false:=by decide
 simp only[hown,Bool.false_eq_true,if_false]
 show wpAny _ _ (if(Value.ref d == Value.none)=true then _ else _) _ _ s
 rw[if_neg (show ¬((Value.ref d == Value.none)=true)from Bool.false_ne_true)]
 refine wpAny_bind (wpAny_pure ?_)
 refine wpAny_bind (wpAny_dictEntries hod hdd ?_)
 rw[if_neg (by simp)]
 refine wpAny_bind (wpAny_pure ?_)
 refine wpAny_bind (wpAny_dictEpoch hod hdd ?_)
 rw[if_neg (by simp)]
 refine wpAny_pure ?_
 simp only[show ¬((i:Int)<0)from by omega,if_false,Int.toNat_natCast,hx]
 refine wpAny_bind ?_
 first|refine wpAny_bind (wpAny_typeNameOfWhole_keyiter hT (wpAny_pure ?_))|refine wpAny_bind (wpAny_typeNameOf_keyiter hT (wpAny_pure ?_))
 show wpAny _ _ (setField (.ref it) 0 .none>>=_) _ _ s
 refine wpAny_bind (wpAny_setField ho hd (by simp) ?_)
 show wpAny _ _ (newExc (.type "StopIteration") []>>=_) _ _ _
 refine wpAny_bind ?_
 simp only[newExc,newTuple]
 refine wpAny_bind (wpAny_newObj_type ?_ (by size_fits))
 refine wpAny_bind (m:=firstArgMember _ _) (wpAny_of_eq (a:=Value.none) (by first|rfl|(simp only[firstArgMember];rfl)) ?_)
 refine wpAny_newObj_type ?_ (by size_fits)
 simp only[raiseNew]
 refine wpAny_bind (wpAny_handled ?_)
 first|rw[show A.in1.handled=none from hh]|rw[hh]
 refine wpAny_bind (wpAny_pure (wpAny_throw ?_))
 exact hE _ _ (((Heap.SameBut.update ..).extBut.push _).push _) ⟨_,Heap.get?_push_size _ rfl,rfl⟩
theorem BP{h:Heap}{i l:Addr}(e:h.get? i=some (pY es ep l)):nX es ep h i l 0:=⟨_,e,rfl,rfl⟩
end
noncomputable abbrev Ci(es:Array DictEntry)(ep:Nat)(h:Heap)(l1:Addr):Heap:=h.push (pY es ep l1)
noncomputable abbrev Cj(es:Array DictEntry)(ep:Nat)(b2:Bool)(h:Heap)(l1 l2:Addr):Heap:=(Ci es ep h l1).push (jl b2 l2)
noncomputable abbrev Ck(es:Array DictEntry)(ep:Nat)(b2:Bool)(h:Heap)(l1 l2:Addr):Heap:=(Cj es ep b2 h l1 l2).push {cls:=.type "tuple",data:=.seq #[.ref h.objs.size,.ref (Ci es ep h l1).objs.size]}
noncomputable abbrev Cm(es:Array DictEntry)(ep:Nat)(b2:Bool)(h:Heap)(l1 l2:Addr):Heap:=(Ck es ep b2 h l1 l2).push {cls:=.type "tuple",data:=.seq #[.none,.none]}
noncomputable abbrev AJ(es:Array DictEntry)(ep:Nat)(b2:Bool)(h:Heap)(l1 l2:Addr):Heap:=(Cm es ep b2 h l1 l2).push {cls:=.type "zip",data:=.fields #[.none,.bool false,.bool false,.ref (Cj es ep b2 h l1 l2).objs.size,.ref (Ck es ep b2 h l1 l2).objs.size]}
theorem AK(ob:Obj)(es:Array DictEntry)(ep:Nat)(b2:Bool)(l1 l2:Addr)(ys:Array Value) :
  Meets (Builtin.«zip.__new__» ⟨[.type "zip",.ref l1,.ref l2],[]⟩) (fun _ R s=>pX ob es ep s.heap l1/\gx b2 s.heap l2 ys/\R (.ok (.ret (.ref (Cm es ep b2 s.heap l1 l2).objs.size))) {s with heap:=AJ es ep b2 s.heap l1 l2}) :=
 .of_wp fun prog w A R s h=>by
  obtain⟨hp,g,d,tk,os⟩:=s
  obtain⟨hl1,hl2,h⟩:=h
  have hsub:=sub_zip
  have hL1:pX ob es ep (Shared.heap ⟨hp,g,d,tk,os⟩) l1:=hl1
  have hL2:gx b2 (Shared.heap ⟨hp.push (pY es ep l1),g,d,tk,os⟩) l2 ys:=hl2.at fun o e=>Heap.get?_push_of_some _ e
  wp_walk using BN hL1,vM hL2
  exact⟨_,rfl,h⟩
section
variable {prog:Program}{w:World}{A:Around}{E:Value->Shared->Prop}{s:Shared}{b2:Bool}{ob:Obj}{es:Array DictEntry}{ep:Nat}
theorem yG{l1 l2:Addr}{ys:Array Value}{Q:Value->Shared->Prop}(hl1:pX ob es ep s.heap l1)(hl2:gx b2 s.heap l2 ys)
  (h:∀h',IsZip h' (s.heap.objs.size+4) (s.heap.objs.size+2) (s.heap.objs.size+3) .none->IsPair h' (s.heap.objs.size+2) (.ref s.heap.objs.size) (.ref (s.heap.objs.size+1)) ->
   IsPair h' (s.heap.objs.size+3) .none .none->nX es ep h' s.heap.objs.size l1 0->fh b2 h' (s.heap.objs.size+1) l2 0->h'.objs.size=s.heap.objs.size+5 ->
   (∀c o,s.heap.get? c=some o->h'.get? c=some o)->Q (.ref (s.heap.objs.size+4)) {s with heap:=h'}) :
  wpAny (model prog w) A (call (.type "zip") [.ref l1,.ref l2]) Q E s:=by
 refine callType_new PySem.F.called_zip (by decide) (PySem.F.typeCall_zip_2 _ _) (PySem.F.newCall_zip_2 _ _) (fun obj=>PySem.F.args_object_init_3 obj _ _) PySem.F.entry_zip_new (AK ob es ep b2 l1 l2 ys) ⟨hl1,hl2,?_⟩
 have z1:(Ci es ep s.heap l1).objs.size=s.heap.objs.size+1:=Heap.size_push ..
 have z2:(Cj es ep b2 s.heap l1 l2).objs.size=s.heap.objs.size+2:=by rw[Heap.size_push,z1]
 have z3:(Ck es ep b2 s.heap l1 l2).objs.size=s.heap.objs.size+3:=by rw[Heap.size_push,z2]
 have z4:(Cm es ep b2 s.heap l1 l2).objs.size=s.heap.objs.size+4:=by rw[Heap.size_push,z3]
 have z5:(AJ es ep b2 s.heap l1 l2).objs.size=s.heap.objs.size+5:=by rw[Heap.size_push,z4]
 have up:∀{h:Heap}{c:Addr}{o:Obj}(x:Obj),h.get? c=some o->(h.push x).get? c=some o:=fun x e=>Heap.get?_push_of_some _ e
 have g5:(AJ es ep b2 s.heap l1 l2).get? (Cm es ep b2 s.heap l1 l2).objs.size=some _:=Heap.get?_push_size _ rfl
 have g4:(AJ es ep b2 s.heap l1 l2).get? (Ck es ep b2 s.heap l1 l2).objs.size=some _:=up _ (Heap.get?_push_size _ rfl)
 have g3:(AJ es ep b2 s.heap l1 l2).get? (Cj es ep b2 s.heap l1 l2).objs.size=some _:=up _ (up _ (Heap.get?_push_size _ rfl))
 have g2:(AJ es ep b2 s.heap l1 l2).get? (Ci es ep s.heap l1).objs.size=some (jl b2 l2):=up _ (up _ (up _ (Heap.get?_push_size _ rfl)))
 have g1:(AJ es ep b2 s.heap l1 l2).get? s.heap.objs.size=some (pY es ep l1):=up _ (up _ (up _ (up _ (Heap.get?_push_size _ rfl))))
 show _/\_
 rw[z2,z3,z4]at g5
 rw[z1,z2]at g3
 rw[z3]at g4
 rw[z1]at g2
 rw[z4]
 exact⟨⟨_,g5,rfl⟩,h _ g5 g3 g4 (BP g1) (vN g2) z5 fun c o x=>up _ (up _ (up _ (up _ (up _ x))))⟩
theorem yH{z TI TO i1 i2 l1 l2:Addr}{k1 k2:Nat}{ys:Array Value}{e0:DictEntry}{y a b:Value}{Q:Option Value->Shared->Prop}(D:ZipApart z TI TO i1 i2 l1 l2)(hz:IsZip s.heap z TI TO .none)(hTI:IsPair s.heap TI (.ref i1) (.ref i2))(hTO:IsPair s.heap TO a b)
  (h1:nX es ep s.heap i1 l1 k1) (h2:fh b2 s.heap i2 l2 k2) (hl1:pX ob es ep s.heap l1) (hl2:gx b2 s.heap l2 ys) (hx:es[k1]?=some e0) (hy:ys[k2]?=some y)
  (hQ:∀h',IsZip h' z TI TO (rawInt s.heap.objs.size)->IsPair h' TO e0.key y->nX es ep h' i1 l1 (k1+1)->fh b2 h' i2 l2 (k2+1)->IsPair h' s.heap.objs.size e0.key y->h'.objs.size=s.heap.objs.size+1 ->
   (∀c o,c≠z->c≠TO->c≠i1->c≠i2->s.heap.get? c=some o->h'.get? c=some o)->Q (some (.ref s.heap.objs.size)) {s with heap:=h'}) :
  wpAny (model prog w) A (pyNext (.ref z)) Q E s:=by
 have hTy:s.TypeIs (.ref z) "zip":=⟨_,hz,rfl⟩
 unfold pyNext
 refine wpAny_bind (wpAny_attempt (wpAny_callSpecial?_slot (name:=Str.ofString "__next__") hTy PySem.F.slot_zip_next (wpAny_call_entry PySem.F.slot_zip_next hTy PySem.F.entry_zip_next ?_ (PySem.F.args_zip_next_1 _))))
 show wpAny _ _ (field (.ref z) 2>>=_) _ _ _
 refine wpAny_bind (wpAny_field hz rfl (x:=.bool false) rfl ?_)
 show wpAny _ _ (field (.ref z) 3>>=_) _ _ _
 refine wpAny_bind (wpAny_field hz rfl (x:=.ref TI) rfl (wpAny_bind (wpAny_seqItems hTI rfl ?_)))
 show wpAny _ _ (Builtin.SmallTypes.ownedTupleIsFree (.ref z)>>=_) _ _ _
 refine wpAny_bind ?_
 unfold Builtin.SmallTypes.ownedTupleIsFree
 refine wpAny_bind (wpAny_field hz rfl (x:=.none) rfl (wpAny_pure ?_))
 simp only[if_true]
 refine wpAny_bind (wpAny_rule (wpAny_bind (wpAny_field hz rfl (x:=.ref TO) rfl ?_)))
 refine wpAny_bind (wpAny_setField_rec hz (by simp) fun h₁ hz₁ hs₁=>?_)
 replace hz₁:IsZip h₁ z TI TO .ellipsis:=hz₁
 refine wpAny_bind ?_
 simp only[List.zipIdx_cons,List.zipIdx_nil,List.forIn_cons,List.forIn_nil]
 refine wpAny_bind (wpAny_bind (wpAny_onRaise ?_))
 show wpAny _ _ (Builtin.SmallTypes.nextOf (.ref i1)>>=_) _ _ _
 refine wpAny_bind (pZ (h1.extBut hs₁.extBut D.i1z) (hl1.extBut hs₁.extBut D.l1z) hx fun h₂ h1₂ hs₂=>wpAny_pure ?_)
 have hTO₂:IsPair h₂ TO a b:=hs₂.extBut _ _ D.TOi1 (hs₁.extBut _ _ D.TOz hTO)
 refine wpAny_bind (wpAny_seqItems hTO₂ rfl (wpAny_bind (wpAny_updateSeq_pair hTO₂ fun h₃ hTO₃ hs₃=>?_)))
 replace hTO₃:IsPair h₃ TO e0.key b:=hTO₃
 refine wpAny_bind (wpAny_letGo (wpAny_pure ?_))
 refine wpAny_bind (wpAny_bind (wpAny_onRaise ?_))
 show wpAny _ _ (Builtin.SmallTypes.nextOf (.ref i2)>>=_) _ _ _
 refine wpAny_bind (eR (((h2.extBut hs₁.extBut D.i2z).extBut hs₂.extBut D.i12.symm).extBut hs₃.extBut D.TOi2.symm) (((hl2.extBut hs₁.extBut D.l2z).extBut hs₂.extBut D.l2i1).extBut hs₃.extBut D.l2TO) hy fun h₄ h2₄ hs₄=>wpAny_pure ?_)
 have hTO₄:IsPair h₄ TO e0.key b:=hs₄.extBut _ _ D.TOi2 hTO₃
 refine wpAny_bind (wpAny_seqItems hTO₄ rfl (wpAny_bind (wpAny_updateSeq_pair hTO₄ fun h₅ hTO₅ hs₅=>?_)))
 replace hTO₅:IsPair h₅ TO e0.key y:=hTO₅
 refine wpAny_bind (wpAny_letGo (wpAny_pure (wpAny_pure (wpAny_bind (wpAny_seqItems hTO₅ rfl (wpAny_bind (wpAny_newTuple ?_)))))))
 have hsz:h₅.objs.size=s.heap.objs.size:=by rw[hs₅.1,hs₄.1,hs₃.1,hs₂.1,hs₁.1]
 have hz₅:IsZip h₅ z TI TO .ellipsis:=hs₅.extBut _ _ D.TOz.symm (hs₄.extBut _ _ D.i2z.symm (hs₃.extBut _ _ D.TOz.symm (hs₂.extBut _ _ D.i1z.symm hz₁)))
 have hk₅:∀c o,c≠z->c≠TO->c≠i1->c≠i2->s.heap.get? c=some o->h₅.get? c=some o:=fun c o c1 c2 c3 c4 e=>hs₅.extBut _ _ c2 (hs₄.extBut _ _ c4 (hs₃.extBut _ _ c2 (hs₂.extBut _ _ c3 (hs₁.extBut _ _ c1 e))))
 have h1₅:nX es ep h₅ i1 l1 (k1+1):=((h1₂.extBut hs₃.extBut D.TOi1.symm).extBut hs₄.extBut D.i12).extBut hs₅.extBut D.TOi1.symm
 have h2₅:fh b2 h₅ i2 l2 (k2+1):=h2₄.extBut hs₅.extBut D.TOi2.symm
 have hzlt:z<h₅.objs.size:=Heap.lt_size hz₅
 show wpAny _ _ (Builtin.SmallTypes.ownedTupleHandOut (.ref z) (.ref h₅.objs.size)>>=_) _ _ _
 refine wpAny_bind ?_
 unfold Builtin.SmallTypes.ownedTupleHandOut
 have hz₆:IsZip (h₅.push {cls:=.type "tuple",data:=.seq #[e0.key,y]}) z TI TO .ellipsis:=Heap.get?_push_of_some _ hz₅
 refine wpAny_bind (wpAny_setField_rec hz₆ (by simp) fun h₇ hz₇ hs₇=>?_)
 replace hz₇:IsZip h₇ z TI TO (rawInt h₅.objs.size):=hz₇
 refine wpAny_setField_rec hz₇ (by simp) fun h₈ hz₈ hs₈=>?_
 replace hz₈:IsZip h₈ z TI TO (rawInt h₅.objs.size):=hz₈
 have up:∀c o,c≠z->h₅.get? c=some o->h₈.get? c=some o:=fun c o c1 e=>hs₈.extBut _ _ c1 (hs₇.extBut _ _ c1 (Heap.get?_push_of_some _ e))
 have hT₈:IsPair h₈ h₅.objs.size e0.key y:=hs₈.extBut _ _ (Nat.ne_of_gt hzlt) (hs₇.extBut _ _ (Nat.ne_of_gt hzlt) (Heap.get?_push_size _ rfl))
 have hz8:h₈.objs.size=h₅.objs.size+1:=by rw[hs₈.1,hs₇.1,Heap.size_push]
 rw[hsz]at hz₈ hT₈ hz8
 refine wpAny_pure ⟨_,rfl,wpAny_pure ?_⟩
 show Q (some (.ref h₅.objs.size)) _
 rw[hsz]
 exact hQ h₈ hz₈ (up _ _ D.TOz hTO₅) (h1₅.at fun o e=>up _ o D.i1z e) (h2₅.at fun o e=>up _ o D.i2z e) hT₈ hz8 fun c o c1 c2 c3 c4 e=>up c o c1 (hk₅ c o c1 c2 c3 c4 e)
theorem AL{z TI TO i1 i2 l1 l2:Addr}{k1 k2:Nat}{ys:Array Value}{a b:Value}{Q:Option Value->Shared->Prop}(hh:A.handled=none)(D:ZipApart z TI TO i1 i2 l1 l2)(hz:IsZip s.heap z TI TO .none)(hTI:IsPair s.heap TI (.ref i1) (.ref i2))(hTO:IsPair s.heap TO a b)
  (h1:nX es ep s.heap i1 l1 k1) (h2:fh b2 s.heap i2 l2 k2) (hl1:pX ob es ep s.heap l1) (hl2:gx b2 s.heap l2 ys) (hend:es[k1]?=none\/ys[k2]?=none)
  (hQ:∀h',(∀c o,c≠z->c≠TO->c≠i1->c≠i2->s.heap.get? c=some o->h'.get? c=some o)->Q none {s with heap:=h'}):wpAny (model prog w) A (pyNext (.ref z)) Q E s:=by
 have hTy:s.TypeIs (.ref z) "zip":=⟨_,hz,rfl⟩
 have stop:∀(h':Heap) (e:Addr),(∀c o,c≠z->c≠TO->c≠i1->c≠i2->s.heap.get? c=some o->h'.get? c=some o)->(∃o,h'.get? e=some o/\o.cls=.type "StopIteration") ->
   wpAny (model prog w) A (do if(←isInstance (.ref e) (.type "StopIteration"))then pure none else throw (.ref e)) Q E {s with heap:=h'}:=fun h' e hk ⟨o,ho,hc⟩ =>
  wpAny_bind (wpAny_isInstance (T:="StopIteration") (b:=true) ⟨o,ho,hc⟩ isSubtype_stop (wpAny_pure (hQ _ hk)))
 unfold pyNext
 refine wpAny_bind (wpAny_attempt (wpAny_callSpecial?_slot (name:=Str.ofString "__next__") hTy PySem.F.slot_zip_next (wpAny_call_entry PySem.F.slot_zip_next hTy PySem.F.entry_zip_next ?_ (PySem.F.args_zip_next_1 _))))
 show wpAny _ _ (field (.ref z) 2>>=_) _ _ _
 refine wpAny_bind (wpAny_field hz rfl (x:=.bool false) rfl ?_)
 show wpAny _ _ (field (.ref z) 3>>=_) _ _ _
 refine wpAny_bind (wpAny_field hz rfl (x:=.ref TI) rfl (wpAny_bind (wpAny_seqItems hTI rfl ?_)))
 show wpAny _ _ (Builtin.SmallTypes.ownedTupleIsFree (.ref z)>>=_) _ _ _
 refine wpAny_bind ?_
 unfold Builtin.SmallTypes.ownedTupleIsFree
 refine wpAny_bind (wpAny_field hz rfl (x:=.none) rfl (wpAny_pure ?_))
 simp only[if_true]
 refine wpAny_bind (wpAny_rule (wpAny_bind (wpAny_field hz rfl (x:=.ref TO) rfl ?_)))
 refine wpAny_bind (wpAny_setField_rec hz (by simp) fun h₁ hz₁ hs₁=>?_)
 replace hz₁:IsZip h₁ z TI TO .ellipsis:=hz₁
 refine wpAny_bind ?_
 simp only[List.zipIdx_cons,List.zipIdx_nil,List.forIn_cons,List.forIn_nil]
 refine wpAny_bind (wpAny_bind (wpAny_onRaise ?_))
 show wpAny _ _ (Builtin.SmallTypes.nextOf (.ref i1)>>=_) _ _ _
 cases hx:es[k1]? with
 |none =>
  refine wpAny_bind (yF hh (h1.extBut hs₁.extBut D.i1z) (hl1.extBut hs₁.extBut D.l1z) hx fun h₂ e hs₂ he=>?_)
  obtain⟨oe,hoe,hce⟩:=he
  have hz₂:IsZip h₂ z TI TO .ellipsis:=hs₂ _ _ D.i1z.symm hz₁
  have hez:e≠z:=fun x=>by subst x;rw[hz₂]at hoe;cases hoe;simp at hce
  exact wpAny_setField_rec hz₂ (by simp) fun h₃ _ hs₃=>stop h₃ e (fun c o c1 _ c3 _ x=>hs₃.extBut _ _ c1 (hs₂ _ _ c3 (hs₁.extBut _ _ c1 x))) ⟨oe,hs₃.extBut _ _ hez hoe,hce⟩
 |some x =>
  have hy:ys[k2]?=none:=by
   rcases hend with h|h
   ·rw[hx]at h;cases h
   ·exact h
  refine wpAny_bind (pZ (h1.extBut hs₁.extBut D.i1z) (hl1.extBut hs₁.extBut D.l1z) hx fun h₂ h1₂ hs₂=>wpAny_pure ?_)
  have hTO₂:IsPair h₂ TO a b:=hs₂.extBut _ _ D.TOi1 (hs₁.extBut _ _ D.TOz hTO)
  refine wpAny_bind (wpAny_seqItems hTO₂ rfl (wpAny_bind (wpAny_updateSeq_pair hTO₂ fun h₃ hTO₃ hs₃=>?_)))
  refine wpAny_bind (wpAny_letGo (wpAny_pure ?_))
  refine wpAny_bind (wpAny_bind (wpAny_onRaise ?_))
  show wpAny _ _ (Builtin.SmallTypes.nextOf (.ref i2)>>=_) _ _ _
  refine wpAny_bind (jk hh (((h2.extBut hs₁.extBut D.i2z).extBut hs₂.extBut D.i12.symm).extBut hs₃.extBut D.TOi2.symm) (((hl2.extBut hs₁.extBut D.l2z).extBut hs₂.extBut D.l2i1).extBut hs₃.extBut D.l2TO) hy fun h₄ e hs₄ he=>?_)
  obtain⟨oe,hoe,hce⟩:=he
  have hz₄:IsZip h₄ z TI TO .ellipsis:=hs₄ _ _ D.i2z.symm (hs₃.extBut _ _ D.TOz.symm (hs₂.extBut _ _ D.i1z.symm hz₁))
  have hez:e≠z:=fun x=>by subst x;rw[hz₄]at hoe;cases hoe;simp at hce
  exact wpAny_setField_rec hz₄ (by simp) fun h₅ _ hs₅=>stop h₅ e (fun c o c1 c2 c3 c4 x=>hs₅.extBut _ _ c1 (hs₄ _ _ c4 (hs₃.extBut _ _ c2 (hs₂.extBut _ _ c3 (hs₁.extBut _ _ c1 x))))) ⟨oe,hs₅.extBut _ _ hez hoe,hce⟩
end
noncomputable def CV (K : PySem.W.Frag) (ob : Obj) (ks : List V) (l1 : Addr) (b2 : Bool) (l2 : Addr) : It :=
  ⟨fun i H => ∃ ys x y, (∃ kvs, H l1 = some (.jv ob (.dK kvs))) ∧ jn K b2 H l2 ys ∧ ks[i]? = some x ∧ ys[i]? = some y,
   fun i H v H' => ∃ p x y, H p = none ∧ v = .ref p ∧ H' = upd H p (.tup [x, y]) ∧ ks[i]? = some x ∧ ∀ ys, jn K b2 H l2 ys → ys[i]? = some y,
   fun i H => ∃ ys, (∃ kvs, H l1 = some (.jv ob (.dK kvs))) ∧ jn K b2 H l2 ys ∧ (ks.length ≤ i ∨ ys.length ≤ i)⟩
theorem Inv.jv{X:Cx}{pins:List (Addr×Obj)}{σ:St}{H:Hp}{s:Shared}{p:Addr}{kvs:List (Key×V)}{ob:Obj}(I:Inv X pins σ H s)(hx:H p=some (.dK kvs))(ho:s.heap.get? p=some ob):Inv X pins σ (upd H p (.jv ob (.dK kvs))) s:=by
 have ne:∀{b u},H b=some u->u≠.dK kvs->b≠p:=fun e n z=>by subst z;rw[hx]at e;exact n (Option.some.inj e).symm
 refine I.step (g':=s.gens) (d':=s.drawn) (t':=s.toks) (h':=s.heap) (ch:=[]) (fun _ z=>nomatch z) (fun b o _ _ _ e _=>e) (fun b o _ _ _ e _=>⟨o.slots,e⟩) (fun b o _ _ n=>?_) (fun b o _ e=>⟨o,e⟩) (fun b xs e=>?_) (fun b o u e=>?_) (fun b ps e=>⟨#[],?_⟩) (fun m h=>h) (fun b u e=>?_) I.bare
 ·rw[aq (fun z=>by subst z;rw[hx]at n;cases n)];exact n
 ·rw[aq (ne e (fun z=>nomatch z))];exact e
 ·rw[aq (ne e (fun z=>nomatch z))];exact e
 ·rw[aq (ne e (fun z=>nomatch z))];simpa using e
 ·by_cases hb:b=p
  ·subst hb
   rw[af]at e
   cases e
   refine⟨ho,(I.hok b _ hx).stay (fun _ _ _ q=>q) (fun c q=>?_) fun c xs q=>?_⟩
   ·rw[aq (ne q (fun z=>nomatch z))];exact q
   ·rw[aq (ne q (fun z=>nomatch z))];exact q
  ·rw[aq hb]at e
   refine(I.hok b u e).stay (fun _ _ _ q=>q) (fun c q=>?_) fun c xs q=>?_
   ·rw[aq (ne q (fun z=>nomatch z))];exact q
   ·rw[aq (ne q (fun z=>nomatch z))];exact q
theorem yI{P:Program}{w:World}{k:Key}{v:Value}(h:(bz P w).is k v=true):RelV (kV k) v:=by
 rcases bP (show j5 k v=true from h)with⟨i,t,rfl,rfl⟩|⟨x,t,rfl,rfl⟩
 ·exact⟨t,rfl⟩
 ·exact⟨t,rfl⟩
theorem yJ{P:Program}{w:World}{es:Array DictEntry}{kvs:List (Key×V)}{vs:List (Key×Value)}(r:KV kvs vs)(h:Pairs (bz P w) es.toList vs):Vals (kvs.map fun p=>kV p.1) (es.toList.map (·.key)):=by
 generalize es.toList=l at h
 induction h generalizing kvs with
 |nil=>cases r;exact .nil
 |cons h1 h2 _ ih =>
  cases r with
  |cons q t =>
   refine .cons ?_ (ih t)
   rw[←q.1]at h1
   exact yI h1
theorem yK{P:Program}{w:World}{K:PySem.W.Frag}{elts:List Expr}{x1:Nat}{pos:Pos}{b2:Bool}{ob:Obj}{es:Array DictEntry}{ep:Nat}{ks:List V}(he:ob.ExactDict)(hd:ob.data=.dict es ep)(hr:Vals ks (es.toList.map (·.key)))(z TI TO i1 i2 l1 l2:Addr)(hs:(l1 == sysModules)=false)(D:ZipApart z TI TO i1 i2 l1 l2):Turn P w K (.Tuple elts x1 pos) (CV K ob ks l1 b2 l2) [z,TI,TO,i1,i2] z
  (fun i h=>IsZip h z TI TO .none/\IsPair h TI (.ref i1) (.ref i2)/\(∃a b,IsPair h TO a b)/\nX es ep h i1 l1 i/\fh b2 h i2 l2 i) where
 mem:=by simp
 obj:=fun i h st b hb=>by
  obtain⟨hz,hTI,⟨a,c,hTO⟩,h1,h2⟩:=st
  have itc:∀{b:Bool}{i l:Addr}{k:Nat},fh b h i l k->∃o,h.get? i=some o/\∀v,o.data≠.cell v:=fun{b i l k} q=>by
   cases b with
   |false=>obtain⟨o,e,_,d⟩:=(show h.IsListIter i l k from q);exact⟨o,e,fun v z=>by rw[d]at z;cases z⟩
   |true=>obtain⟨o,e,_,d⟩:=(show h.IsTupleIter i l k from q);exact⟨o,e,fun v z=>by rw[d]at z;cases z⟩
  simp only[List.mem_cons,List.not_mem_nil,or_false]at hb
  rcases hb with rfl|rfl|rfl|rfl|rfl
  ·exact⟨_,hz,fun v z=>by cases z⟩
  ·exact⟨_,hTI,fun v z=>by cases z⟩
  ·exact⟨_,hTO,fun v z=>by cases z⟩
  ·obtain⟨o,e,_,d⟩:=h1;exact⟨o,e,fun v z=>by rw[d]at z;cases z⟩
  ·exact itc h2
 keep:=fun i h h' st k=>by
  obtain⟨hz,hTI,⟨a,c,hTO⟩,h1,h2⟩:=st
  exact⟨k z (by simp) _ hz,k TI (by simp) _ hTI,⟨a,c,k TO (by simp) _ hTO⟩,h1.at fun o e=>k i1 (by simp) o e,h2.at fun o e=>k i2 (by simp) o e⟩
 item:=by
  intro X hP hw hK hc i pins s σ H E I hf st hg
  subst hP hw hK
  obtain⟨ys,x,y,⟨kvs,hq1⟩,hq2,hx,hy⟩:=hg
  obtain⟨hz,hTI,⟨a,c,hTO⟩,h1,h2⟩:=st
  have p1:pX ob es ep s.heap l1:=⟨(show b6 X.prog X.w H s.heap l1 (.jv ob (.dK kvs))from I.hok l1 _ hq1).1,he,hd,hs⟩
  obtain⟨jts,rw',p2,_⟩:=eS I hq2
  obtain⟨u,hu,ru⟩:=hr.get hx
  obtain⟨e0,he0,hu⟩:∃e0,es[i]?=some e0/\e0.key=u:=by
   rw[List.getElem?_map,Array.getElem?_toList]at hu
   exact Option.map_eq_some_iff.mp hu
  subst hu
  obtain⟨v,hv,rv2⟩:=rw'.get hy
  refine yH (ob:=ob) (es:=es) (ep:=ep) D hz hTI hTO h1 h2 p1 p2 (y:=v) he0 (by simpa using hv) fun h' a1 a2 a3 a4 a5 a6 hk=>?_
  refine⟨.ref s.heap.objs.size,rfl,wpAny_letOwnedTupleGo_zip (s:={s with heap:=h'}) a1 fun h2' hz' HS=>?_⟩
  have np:∀b∈[z,TI,TO,i1,i2],b≠s.heap.objs.size:=fun b hb e=>by
   obtain⟨o,e2⟩:∃o,s.heap.get? b=some o:=by
    simp only[List.mem_cons,List.not_mem_nil,or_false]at hb
    rcases hb with rfl|rfl|rfl|rfl|rfl
    ·exact⟨_,hz⟩
    ·exact⟨_,hTI⟩
    ·exact⟨_,hTO⟩
    ·exact h1.got
    ·exact h2.got
   have:=Heap.lt_size e2
   rw[e]at this
   exact Nat.lt_irrefl _ this
  have kk:∀b o,b∉[z,TI,TO,i1,i2]->s.heap.get? b=some o->h2'.get? b=some o:=fun b o hb e=>by
   simp only[List.mem_cons,List.not_mem_nil,or_false,not_or]at hb
   obtain⟨n1,n2,n3,n4,n5⟩:=hb
   exact HS.extBut _ _ n1 (hk b o n1 n3 n4 n5 e)
  have a5':IsPair h2' s.heap.objs.size e0.key v:=HS.extBut _ _ (np z (by simp)).symm a5
  refine⟨.ref s.heap.objs.size,upd H s.heap.objs.size (.tup [x,y]),I.rW (t':=s.toks) hf kk (Nat.le_refl _) ⟨(by show 2<=sizeLine;decide),_,.cons ru (.cons rv2 .nil),⟨_,a5',rfl,_,rfl⟩,_,a5',rfl⟩,rfl,
   ⟨_,x,y,I.hok.fresh (Nat.le_refl _),rfl,rfl,hx,fun zs hz2=>by rw[jn.inj I hz2 hq2];exact hy⟩,?_,fun b hb=>?_⟩
  ·exact⟨hz',HS.extBut _ _ D.TIz (hk TI _ D.TIz D.TITO D.TIi1 D.TIi2 hTI),⟨e0.key,v,HS.extBut _ _ D.TOz a2⟩,a3.extBut HS.extBut D.i1z,a4.extBut HS.extBut D.i2z⟩
  ·rw[aq (np b hb)];exact(hf b hb).1
 done:=by
  intro X hP hw hK hc i pins s σ H E I hf st hg
  subst hP hw hK
  obtain⟨ys,⟨kvs,hq1⟩,hq2,hl⟩:=hg
  obtain⟨hz,hTI,⟨a,c,hTO⟩,h1,h2⟩:=st
  have p1:pX ob es ep s.heap l1:=⟨(show b6 X.prog X.w H s.heap l1 (.jv ob (.dK kvs))from I.hok l1 _ hq1).1,he,hd,hs⟩
  obtain⟨jts,rw',p2,_⟩:=eS I hq2
  have e1:=hr.length
  rw[List.length_map]at e1
  have e3:es.toList.length=es.size:=Array.length_toList
  have e2:=rw'.length
  refine AL (ob:=ob) (es:=es) (ep:=ep) (I.ok.hd hc) D hz hTI hTO h1 h2 p1 p2 ?_ fun h' hk=>⟨rfl,I.rV (t':=s.toks) hf fun b o hb e=>?_⟩
  ·rcases hl with hl|hl
   ·left;simp;omega
   ·right;simp;omega
  ·simp only[List.mem_cons,List.not_mem_nil,or_false,not_or]at hb
   exact hk b o hb.1 hb.2.2.1 hb.2.2.2.1 hb.2.2.2.2 e
 self:=fun _ _ _ _ _ st h=>wpAny_pyIter_zip st.1 h
noncomputable def BQ(K:PySem.W.Frag)(t:TA):TI:=fun σ H R=>t σ H fun vs H2=>∃b2 p q kvs ys,vs=[.ref p,.ref q]/\H2 p=some (.dK kvs)/\jn K b2 H2 q ys/\∀ob,R (CV K ob (kvs.map fun e=>kV e.1) p b2 q) (upd H2 p (.jv ob (.dK kvs)))
theorem yL{X:Cx}{a b:Expr}{t:TA}{p1 p2 pos:Pos}{elts:List Expr}{x1:Nat}(K:PySem.W.Frag)(hK:X.K=K)(hg:Gl X "zip")(hm:X.mg "zip"=none)(ha:PA X [a,b] t)
  (he:starEach [a,b] X.env=(false,eval a X.env)::starEach [b] X.env:=by rfl) (hpl:(backTo p2 (starEach [b] X.env)).any (·.1)=false:=by rfl):PI X (.Tuple elts x1 pos) (.Call (.Name "zip" p1) [a,b] [] p2) (BQ K t):=by
 subst hK
 intro pins s σ H R I h
 refine wpAny_Call_Name_kw (gz I hg hm boot_zip ?_ (by decide) (by decide))
 refine PyProof.Rows.callWith_type1 ?_ he hpl
 refine bR (ha p2 pins s σ H _ I h) fun us s1 ⟨vs,H1,I1,r1,q1⟩=>?_
 obtain⟨c2,p,q,kvs,ys,rfl,hx,hy,hq⟩:=q1
 obtain⟨u,w',rfl,r1,r2⟩:=vals2 r1
 cases r1
 cases r2
 obtain⟨hz0,hs0,vs0,rel,ob,es,ep,ho,hexd,hdd,hks,hps,hnd⟩:=ko I1.hok (.inl hx)
 have pl:pX ob es ep s1.heap p:=⟨ho,hexd,hdd,hs0⟩
 obtain⟨jts,rw',pm,_⟩:=eS I1 hy
 have lt1:@LT.lt Nat _ p s1.heap.objs.size:=Heap.lt_size ho
 have lt2:@LT.lt Nat _ q s1.heap.objs.size:=by obtain⟨_,e⟩:=pm.got;exact Heap.lt_size e
 refine yG pl pm fun g hz hTI hTO h1 h2 hsz hk=>?_
 have D:ZipApart (s1.heap.objs.size+4) (s1.heap.objs.size+2) (s1.heap.objs.size+3) s1.heap.objs.size (s1.heap.objs.size+1) p q:=by
  refine⟨?_,?_,?_,?_,?_,?_,?_,?_,?_,?_,?_,?_,?_,?_,?_,?_,?_,?_⟩<;>(show @Ne Nat _ _;omega)
 have IF:Inv X pins σ (upd H1 p (.jv ob (.dK kvs))) s1:=I1.jv hx ho
 refine wpAny_pyIter_zip (s:={s1 with heap:=g}) hz ?_
 refine⟨s1.heap.objs.size+4,[s1.heap.objs.size+4,s1.heap.objs.size+2,s1.heap.objs.size+3,s1.heap.objs.size,s1.heap.objs.size+1],_,_,upd H1 p (.jv ob (.dK kvs)),rfl,IF.kept (t':=s1.toks) hk,yK hexd hdd (yJ rel hps) _ _ _ _ _ p q hs0 D,⟨hz,hTI,⟨_,_,hTO⟩,h1,h2⟩,fun b hb=>?_,hq ob⟩
 have hb':s1.heap.objs.size<=b:=by
  simp only[List.mem_cons,List.not_mem_nil,or_false]at hb
  rcases hb with rfl|rfl|rfl|rfl|rfl
  ·exact Nat.le_add_right _ 4
  ·exact Nat.le_add_right _ 2
  ·exact Nat.le_add_right _ 3
  ·exact Nat.le_refl _
  ·exact Nat.le_add_right _ 1
 exact IF.uA hb' (IF.hok.fresh hb')
section
variable {g:TG}{tt:TT}{te:TE}{Q:VK}{σ0:St}{H0:Hp}
theorem ue{K:PySem.W.Frag}{ob:Obj}{kvs:List (Key×V)}{b2:Bool}{a b:Addr}{xs ys:List V}(Pv:Nat->St->List V->Hp->Prop)(h0:Pv 0 σ0 [] H0)(hlen:∀i σ vs H,i<=min xs.length ys.length->Pv i σ vs H->vs.length<=i)(hn:min xs.length ys.length<=sizeLine)
  (hl1:∀i σ vs H,i<=min xs.length ys.length->Pv i σ vs H->H a=some (.jv ob (.dK kvs))) (hl2:∀i σ vs H,i<=min xs.length ys.length->Pv i σ vs H->jn K b2 H b ys)
  (hs:∀i x y σ vs H p,xs[i]?=some x->ys[i]?=some y->Pv i σ vs H->H p=none->g (.ref p) σ (upd H p (.tup [x,y])) fun σ2 H2=>tt σ2 H2 fun ok H3=>if ok=true then te σ2 H3 fun v H4=>Pv (i+1) σ2 (vs++[v]) H4 else Pv (i+1) σ2 vs H3)
  (hd:∀σ vs H,Pv (min xs.length ys.length) σ vs H->∀p,H p=none->Q (.ref p) (upd H p (.lst vs))):fF (CV K ob xs a b2 b) g tt te Q σ0 H0:=by
 refine j0 (min xs.length ys.length) Pv h0 hlen hn (fun i σ vs H hi p=>?_) (fun σ vs H p=>⟨ys,⟨_,hl1 _ σ vs H (Nat.le_refl _) p⟩,hl2 _ σ vs H (Nat.le_refl _) p,by omega⟩) (fun i σ vs H x H' hi p y=>?_) hd
 ·have k1:i<xs.length:=by omega
  have k2:i<ys.length:=by omega
  exact⟨ys,xs[i],ys[i],⟨_,hl1 i σ vs H (Nat.le_of_lt hi) p⟩,hl2 i σ vs H (Nat.le_of_lt hi) p,by simp[k1],by simp[k2]⟩
 ·obtain⟨pp,x',y',hp,rfl,rfl,e1,e2⟩:=y
  exact hs i x' y' σ vs H pp e1 (e2 ys (hl2 i σ vs H (Nat.le_of_lt hi) p)) p hp
end
end L2
namespace G04
open PySem L2
section
variable {P:Program}{w:World}{K:PySem.W.Frag}{mg:Str->Option Value}{base:Heap}{gT gS gP gM gF gI:Addr}{tfd sfd pfd mfd ffd ifd:FuncData}
theorem aE:Nm ["_law_feed_here","_law_most","_law_scene_here","_law_program_here_here","_law_fresh_here"] (aj bI):=by decide +kernel
theorem bO:Lm ["_law_feed_here","_law_most","_law_scene_here","_law_program_here_here","_law_fresh_here"] (aj bI):=by decide +kernel
theorem bu:aZ ["_law_feed_here","_law_most","_law_scene_here","_law_program_here_here","_law_fresh_here"] ["_law_feed_here"] (aj bI):=⟨rfl,rfl,rfl,by decide +kernel,rfl,by decide +kernel,by decide +kernel⟩
theorem Ext.nn{fe:Addr}{H H1:Hp}(x:Ext fe H H1){p:Addr}(n:p≠fe)(h:H1 p=none):H p=none:=by
 cases e:H p with
 |none=>rfl
 |some o=>rw[x.1 _ _ n e]at h;cases h
theorem zh{H:Hp}{f d:Addr}{S:ic}{xs:List Str}{ow:List (Str×List T)}{df:V}(s:bf K H f d S xs ow df 0):d≠S.la:=fun z=>by
 obtain⟨avs,ha,hk⟩:=s.la
 have e:=s.sd
 rw[z,ha]at e
 have e2:=HO.dK.inj (Option.some.inj e)
 rw[e2]at hk
 exact nomatch (congrArg List.length hk)
theorem jY{f:Addr}{fd:FuncData}{j jm ji:Nat}(hj:3<=j)(hm:jm<=j)(hi:ji<=j)(F:iE K "_law_program_here" "_law_program_here" bI f fd)(TK:cR P w K mg base "_law_take" 1 ["_law_feed_here","_law_many_here"] cT gT tfd)(SN:cR P w K mg base "_law_scene" 3 ["_law_feed_here","_law_most"] (rQ K) gS sfd)(PR:cR P w K mg base "_law_program" j ["_law_feed_here","_law_scene_here","_law_room"] (mX K) gP pfd)(MA:cR P w K mg base "_law_many" jm ["_law_term_here"] (nL K 10) gM mfd)(FR:cR P w K mg base "_law_fresh" 2 ["_law_feed_here","_law_many_here"] (rR K) gF ffd)(PN:cR P w K mg base "_law_put_in" ji ["_law_program_here_here","_law_put_here"] (sj K 10) gI ifd)(z_len:mg "len"=none)(z_max:mg "max"=none)(z_dict:mg "dict"=none)(z_zip:mg "zip"=none):cA P w K mg base gv (j+1) f fd ["_law_feed_here"] (iN K):=by
 refine F.ok bu (fun vs H Q E h=>?_) (fun cdv A outer s H vs Q E hr h=>?_)
 ·obtain⟨_,rfl,_⟩:=h
  rfl
 obtain⟨fe,rfl,hff,k⟩:=h
 refine⟨_,(Z6 (Z3 bu.nd bO 1 (Zj cQ ak (Z0 TK (aA (va aE 0) (aA ak ah))))) (Z6 (Z3 bu.nd bO 2 (Z0 SN (Z1 (va aE 0) (aA (va aE 1) ah)))) (Z6 (Z3 bu.nd bO 3 (Za aD (Z0 PR (Z1 (va aE 0) (aA (va aE 2) (aA ak ah)))) ak)) (Z6 (Zf (Zi oq (Z7 (tq rfl) z_max PyProof.Rows.boot_max (Z1 (Z4 (aj bI) ["_law_feed_here","_law_most","_law_scene_here","_law_program_here_here","_law_fresh_here"] ["_law_told"] [] (@b7 _ _ _ _ (Z8 aD (va aE 3))) (fun _ _ _ _=>(Z2 (i:=0) (show(["_law_told"]:List Str).Nodup by decide +kernel))) (fun _ _ _ _=>(Z0 MA (Z1 (Z8 (j3 K rfl) (va (show Nm ["_law_told"] _ by show _=_;kernel_rfl) 0)) ah)))) ah)) ak) (Z6 (Z3 bu.nd bO 2 (Z0 SN (Z1 (va aE 0) (aA (va aE 1) ah)))) (Zh (Z3 bu.nd bO 3 (Za aD (Z0 PR (Z1 (va aE 0) (aA (va aE 2) (aA ak ah)))) ak))))) (Z6 (Z3 bu.nd bO 4 (Z0 FR (Z1 (va aE 0) (Z1 (Z7 iD z_len PySem.boot_len (Z1 (Zd (va aE 2)) ah)) ah)))) (Zh (@aK _ _ _ _ (Z0 PN (Z1 (va aE 3) (Z1 (Z5 (qH rfl) z_dict PyProof.Rows.boot_dict (Z1 (Z4 (aj bI) ["_law_feed_here","_law_most","_law_scene_here","_law_program_here_here","_law_fresh_here"] ["_law_n","_law_m"] [] (yL K rfl (by show _=_;kernel_rfl) z_zip (Z1 (Zd (va aE 2)) (aA (va aE 4) ah))) (fun _ _ _ _=>(Zc (2) (Zg (Z2 (i:=0) (show(["_law_n","_law_m"]:List Str).Nodup by decide +kernel)) (aU (Z2 (i:=1) (show(["_law_n","_law_m"]:List Str).Nodup by decide +kernel)) bq)))) (fun _ _ _ _=>(Ze (Z1 (va (show Nm ["_law_n","_law_m"] _ by show _=_;kernel_rfl) 0) (Z1 (Ze (Z1 au (aA (va (show Nm ["_law_n","_law_m"] _ by show _=_;kernel_rfl) 1) ah))) ah))))) ah)) ah)))))))))),?_⟩
 try dsimp only[dg]
 try dsimp only[dg]
 refine kO ?_
 intro N1 N2 N3 N4 c1 c2 c3 c4
 have fin:∀(mo:Int) (Hc:Hp) (d:Addr) (S:ic) (xs:List Str) (ow:List (Str×List T)) (df:V) (m:Nat) (ks:T) (ds:List Df) (pv:V) (sz:Nat),Ext fe H Hc->bf K Hc fe d S xs ow df m->S.la≠fe->d≠S.la->H S.la=none->Rp K Hc (.t [ks,.t (ds.map wQ)]) pv->uc S.tn ds m sz->(∀e∈ds,e.2.2.size<=40)->N4 [some (.ref fe),some (.int mo),some (.ref d),some pv,none] Hc:=by
  intro mo Hc d S xs ow df m ks ds pv sz xc sc nlf nd hl rp pg hz
  have hg:=sc.jt
  have hf:=sc.ff
  obtain⟨avs,hav,hak⟩:=sc.la
  have lav:avs.length=m:=by have z:=congrArg List.length hak;rw[List.length_map,List.length_map,List.length_range]at z;exact z
  have mm:=sc.mm
  have mo5:=sc.mo
  have m5:avs.length<=5:=by omega
  fail "R"
  intro p1 H1 ns x1 hp1 h1 ln nn _
  have hg1:=(sc.ext x1 nd nlf).jt
  have hav1:=x1.1 _ _ nlf hav
  have hb1:jn K false H1 p1 (ns.map V.int):=bJ.of h1
  have rp1:=rp.kt (x1.kt hf)
  fail "R"
  intro ob
  have k2:Kt H1 (upd H1 S.la (.jv ob (.dK avs))):=Kt.upd hav1 (fun _ z=>nomatch z) (fun _ _ z=>nomatch z) _
  have h2:upd H1 S.la (.jv ob (.dK avs)) S.la=some (.jv ob (.dK avs)):=af
  have np1:p1≠S.la:=fun z=>by rw[z,hav]at hp1;cases hp1
  have h21:upd H1 S.la (.jv ob (.dK avs)) p1=some (.lst (ns.map V.int)):=by rw[aq np1];exact h1
  have rp2:=rp1.kt k2
  have x2:Ext fe H (upd H1 S.la (.jv ob (.dK avs))):=by
   refine⟨fun b o n e=>?_,?_⟩
   ·rw[aq (aB e hl)];exact x1.1 _ _ n (xc.1 _ _ n e)
   ·obtain⟨a,b,e⟩:=x1.2
    exact⟨a,b,by rw[aq nlf.symm];exact e⟩
  generalize upd H1 S.la (.jv ob (.dK avs))=H2 at k2 h2 h21 rp2 x2⊢
  have lks:(avs.map fun e=>kV e.1).length=m:=by rw[List.length_map];exact lav
  have hks:∀i x,(avs.map fun e=>kV e.1)[i]?=some x->x=V.int (cC S.tn i):=by
   intro i x hx
   rw[List.getElem?_map]at hx
   obtain⟨e,he,rfl⟩:=Option.map_eq_some_iff.mp hx
   have z:(avs.map (·.1))[i]?=some e.1:=by rw[List.getElem?_map,he];rfl
   rw[hak,List.getElem?_map]at z
   obtain⟨i',hi',z⟩:=Option.map_eq_some_iff.mp z
   have:=(List.getElem?_eq_some_iff.mp hi').2
   rw[List.getElem_range]at this
   subst this
   rw[←z]
   rfl
  have mm2:min (avs.map fun e=>kV e.1).length (ns.map V.int).length=m:=by rw[lks,List.length_map,ln,lav,Nat.min_self]
  refine ue (K:=K) (kvs:=avs) (ys:=ns.map V.int) (fun i σ us H5=>(∃x y,σ=[x,y])/\DI K S.tn ns H2 i us H5) ⟨⟨_,_,rfl⟩,⟨[],aL.refl _,.nil,rfl,fun k hk=>absurd hk (Nat.not_lt_zero _)⟩⟩ ?_ (Nat.le_of_lt (aC (by omega))) ?_ ?_ ?_ ?_
  ·rintro i σ us H5 hi ⟨_,⟨kvs,s5,dp,ek,_⟩⟩
   have l:=congrArg List.length ek
   rw[List.length_map,List.length_map,List.length_range]at l
   rw[cB.len dp,l];exact Nat.le_refl _
  ·rintro i σ us H5 hi ⟨_,⟨kvs,s5,_⟩⟩
   exact s5 _ _ h2
  ·rintro i σ us H5 hi ⟨_,⟨kvs,s5,_⟩⟩
   exact bJ.of (s5 _ _ h21)
  ·rintro i x y σ us H5 p6 hx hy ⟨⟨_,_,rfl⟩,⟨kvs,s5,dp,ek,hv⟩⟩ hp6
   obtain rfl:=hks i x hx
   rw[List.getElem?_map]at hy
   obtain⟨n,hn,rfl⟩:=Option.map_eq_some_iff.mp hy
   have s6:=ae hp6 (.tup [.int (cC S.tn i),.int n])
   have h6:upd H5 p6 (.tup [.int (cC S.tn i),.int n]) p6=some (.tup [.int (cC S.tn i),.int n]):=af
   generalize upd H5 p6 (.tup [.int (cC S.tn i),.int n])=H6 at s6 h6⊢
   fail "R"
   intro p7 hp7
   have s7:=ae hp7 (.tup [.str "gap",.int n])
   have r7:=Rp.new (K:=K) (xs:=[.s "gap",.i n]) hp7 (.cons .s (.one .i))
   generalize upd H6 p7 (.tup [.str "gap",.int n])=H7 at s7 r7⊢
   fail "R"
   intro p8 hp8
   have s8:=ae hp8 (.tup [.int (cC S.tn i),.ref p7])
   have h8:upd H7 p8 (.tup [.int (cC S.tn i),.ref p7]) p8=some (.tup [.int (cC S.tn i),.ref p7]):=af
   generalize upd H7 p8 (.tup [.int (cC S.tn i),.ref p7])=H8 at s8 h8⊢
   have s58:=(s6.trans s7).trans s8
   have lk:kvs.length=i:=by have l:=congrArg List.length ek;rw[List.length_map,List.length_map,List.length_range]at l;exact l
   fail "R"
   refine⟨kvs++[(.inl (cC S.tn i),.ref p7)],s5.trans s58,cB.snoc ⟨p8,rfl,aJ.of h8⟩ (cB.kt (Kt.same s58) dp),?_,fun k hk=>?_⟩
   ·rw[List.map_append,ek,List.range_succ,List.map_append];rfl
   ·rcases Nat.lt_or_ge k i with h|h
    ·obtain⟨v,h1,h2⟩:=hv k h
     exact⟨v,by rw[List.getElem?_append_left (by omega)];exact h1,h2.same s58⟩
    ·have e:k=i:=by omega
     subst e
     refine⟨.ref p7,by rw[List.getElem?_append_right (by omega),lk,Nat.sub_self];rfl,?_⟩
     rw[List.getD_eq_getElem?_getD,hn]
     exact r7.same s8
  rintro σ us H5 ⟨_,⟨kvs,s5,dp,ek,hv⟩⟩ p6 hp6
  rw[mm2]at ek hv
  have s6:=ae hp6 (.lst us)
  have h6:upd H5 p6 (.lst us) p6=some (.lst us):=af
  generalize upd H5 p6 (.lst us)=H6 at s6 h6⊢
  have dp6:=cB.kt (Kt.same s6) dp
  have h6':H6 p6=some (.lst us)\/aJ K H6 p6 us:=.inl h6
  fail "R"
  intro p7 hp7
  have nk:(kvs.map (·.1)).Nodup:=by
   rw[ek]
   exact List.nodup_range.map _ fun i j h e=>h (jr (Sum.inl.inj e))
  rw[pW (acc:=[]) (by rw[List.nil_append];exact nk),List.nil_append]
  have s7:=ae hp7 (.dK kvs)
  have h7:upd H6 p7 (.dK kvs) p7=some (.dK kvs):=af
  generalize upd H6 p7 (.dK kvs)=H7 at s7 h7⊢
  have s27:=(s5.trans s6).trans s7
  have rp7:=rp2.same s27
  have l7:ds.length<=100:=by have:=pg.len;omega
  have hpf:∀e∈ds,Wn e.2.2/\e.2.2.size<=900/\e.2.2.depth<10/\dH K H7 p7 (yC S.tn ns) (gl e.2.2):=by
   intro e he
   obtain⟨t1,t2,t3,_⟩:=pg.ok e he
   refine⟨t1.wn,by have:=hz e he;omega,by omega,kvs,h7,fun g hg=>?_⟩
   obtain⟨i,hi,rfl⟩:=pg.gm g (List.mem_flatMap.mpr ⟨e,he,hg⟩)
   obtain⟨v,h1,h2⟩:=hv i hi
   refine⟨v,wD nk h1,?_⟩
   unfold yC
   rw[nW sc.tn]
   exact(h2.same s6).same s7
  fail "R"
  refine⟨yC S.tn ns,rfl,rp7,l7,hpf,?_⟩
  intro v8 H8 s8 r8
  exact k v8 H8 ks _ ((x2.same s27).same s8) r8 (BL pg hz sc.tn nn (by omega))
 clear c4
 fail "R"
 intro r1 H1 r10 r11 x1
 have hf1:=x1.2
 fail "R"
 intro d H2 S xs ow x2 hd2 hl2 hmo sc2
 have nlf:S.la≠fe:=aV hf1 hl2
 have ndf:d≠fe:=aV hf1 hd2
 have nd:=zh sc2
 fail "R"
 intro a3 pv v2 v3 H3 ks ds df m3 fr3 sc3 sq3 rp3 pg3
 have x13:Ext fe H1 H3:=⟨fun b o n e=>fr3 b o n (aB e hl2) (aB e hd2) (x2.1 _ _ n e),sc3.ff⟩
 obtain⟨qa,u1,u2,rfl,qsq,g1,g2⟩:=rp3.t2
 obtain⟨qb,dvs,rfl,dsq,rds⟩:=g2.aH
 have ldv:=rds.length
 rw[List.length_map]at ldv
 have hl3:=pg3.len
 fail "R"
 refine bT (K:=K) (xs:=dvs) (fun i σ us H4=>(∃x,σ=[x])/\aL H3 H4/\us=((ds.take i).map fun e=>(e.2.2.size:Int)).map V.int) ⟨⟨_,rfl⟩,aL.refl _,rfl⟩ ?_ (Nat.le_of_lt (aC (by omega))) ?_ ?_ ?_
 ·rintro i σ us H4 h ⟨_,_,rfl⟩
  rw[List.length_map,List.length_map,List.length_take];omega
 ·rintro i σ us H4 h ⟨_,s4,_⟩
  exact dsq.same s4
 ·rintro i x σ us H4 hx ⟨⟨x0,rfl⟩,s4,rfl⟩
  obtain⟨y,hy,ry⟩:=rds.get' hx
  rw[List.getElem?_map]at hy
  obtain⟨e,he,rfl⟩:=Option.map_eq_some_iff.mp hy
  obtain⟨ea,w1,w2,w3,rfl,esq,q1,q2,q3⟩:=(show Rp K H4 (.t [.s e.1,pB e.2.1,enc e.2.2]) x from ry.same s4).t3
  obtain⟨t1,t2,t3,_⟩:=pg3.ok e (List.mem_of_getElem? he)
  have t4:=t1.wn.wf
  have t5:e.2.2.size<=900:=Nat.le_trans t3 (by decide)
  have t6:e.2.2.depth<10:=by omega
  fail "R"
  intro H5 s5
  fail "R"
  ·exact s4.trans s5
  rw[List.take_add_one,he,List.map_append,List.map_append]
  rfl
 rintro σ us H4 ⟨_,s4,rfl⟩ p5 hp5
 rw[show dvs.length=ds.length from ldv,List.take_length]
 have s5:=ae hp5 (.lst ((ds.map fun e=>(e.2.2.size:Int)).map V.int))
 have h5:upd H4 p5 (.lst ((ds.map fun e=>(e.2.2.size:Int)).map V.int)) p5=some (.lst ((ds.map fun e=>(e.2.2.size:Int)).map V.int)):=af
 generalize upd H4 p5 (.lst ((ds.map fun e=>(e.2.2.size:Int)).map V.int))=H5 at s5 h5⊢
 have s35:=s4.trans s5
 have l5:0<(ds.map fun e=>(e.2.2.size:Int)).length:=by rw[List.length_map];omega
 have cH:=sc3.same s35 nd
 have hf5:=cH.ff
 fail "R"
 intro M hM hmax
 fail "R"
 refine cJ (fun c=>?_) (fun c=>?_)
 ·fail "R"
  intro d' H6 S' xs' ow' x6 hd6 hl6 hmo6 sc6
  have nlf':S'.la≠fe:=aV hf5 hl6
  have ndf':d'≠fe:=aV hf5 hd6
  have nd':=zh sc6
  fail "R"
  intro a7 pv7 v27 v37 H7 ks7 ds7 df7 m7 fr7 sc7 sq7 rp7 pg7
  have x57:Ext fe H5 H7:=⟨fun b o n e=>fr7 b o n (aB e hl6) (aB e hd6) (x6.1 _ _ n e),sc7.ff⟩
  have x7:Ext fe H H7:=((x1.trans x13).same s35).trans x57
  fail "R"
  exact fin _ H7 d' S' xs' ow' df7 m7 ks7 ds7 pv7 _ x7 sc7 nlf' nd' (Ext.nn ((x1.trans x13).same s35) nlf' hl6) rp7 pg7 fun e he=>Nat.le_trans (pg7.ok e he).2.2.1 (by decide)
 ·fail "R"
  refine fin _ H5 d S xs ow df m3 ks ds _ _ ((x1.trans x13).same s35) cH nlf nd (Ext.nn x1 nlf hl2) (rp3.same s35) pg3 fun e he=>?_
  have h1:=hmax _ (List.mem_map_of_mem (f:=fun e:Df=>(e.2.2.size:Int)) he)
  have h2:=of_decide_eq_false (eq_false_of_ne_true c)
  omega
end
theorem uf{n:Int}(h:n.natAbs<2 ^ 20):n.natAbs.log2<20:=by
 by_cases z:n.natAbs=0
 ·rw[z];decide
 ·rw[Nat.log2_lt z];exact h
mutual
noncomputable def BR:T->Prop
 |.s x=>Lo x
 |.i n=>n.natAbs<2 ^ 20
 |.n=>True
 |.t xs=>yM xs
noncomputable def yM:List T->Prop
 | []=>True
 |x::r=>BR x/\yM r
end
mutual
noncomputable def tW:T->Nat
 |.s x=>x.length
 |.i _=>20
 |.n=>0
 |.t xs=>AX xs
noncomputable def AX:List T->Nat
 | []=>0
 |x::r=>tW x+1+AX r
end
structure Sh(d:PyData) (w p:Nat):Prop where
 sh:d.showable=true
 nd:d.hasDict=false
 dp:d.depth<=p
 lf:d.leavesShort 13=true
 wt:d.weight<=w
structure Dp(d:List PyData) (w p:Nat):Prop where
 sh:PyData.showableAll d=true
 nd:PyData.hasDictAll d=false
 dp:PyData.depthAll d<=p
 lf:PyData.leavesShortAll 13 d=true
 wt:PyData.weightAll d<=w
theorem wF:∀{xs:List T},(∀x∈xs,BR x->Sh x.py (tW x) x.dep)->yM xs->Dp (T.AV xs) (AX xs) (T.dR xs)
 | [],_,_=>by rw[T.AV];exact⟨rfl,rfl,Nat.zero_le _,rfl,Nat.le_refl _⟩
 |x::r,h,ok=>by
  have a:=h x (.head _) ok.1
  have b:=wF (xs:=r) (fun y hy=>h y (.tail _ hy)) ok.2
  rw[T.AV,AX,T.dR]
  refine⟨?_,?_,?_,?_,?_⟩
  ·rw[PyData.showableAll,a.sh,b.sh];rfl
  ·rw[PyData.hasDictAll,a.nd,b.nd];rfl
  ·rw[PyData.depthAll];have:=a.dp;have:=b.dp;omega
  ·rw[PyData.leavesShortAll,a.lf,b.lf];rfl
  ·rw[PyData.weightAll];have:=a.wt;have:=b.wt;omega
theorem BS(t:T):BR t->Sh t.py (tW t) t.dep:=by
 refine T.induct (P:=fun t=>BR t->Sh t.py (tW t) t.dep) ?_ ?_ ?_ ?_ t
 ·intro x ok
  rw[T.py,tW]
  refine⟨rfl,rfl,Nat.le_refl _,?_,Nat.le_refl _⟩
  show(x.cps.toList.all fun c=>decide (c<16 ^ 8))=true
  rw[List.all_eq_true]
  intro c hc
  have:=ok c hc
  have e:(16:Nat) ^ 8=4294967296:=by decide
  exact decide_eq_true (by omega)
 ·intro n ok
  have l:=uf ok
  have e:(10:Nat) ^ 12=1000000000000:=by decide
  have e2:(2:Nat) ^ 20=1048576:=by decide
  have ok':n.natAbs<2 ^ 20:=ok
  rw[T.py,tW]
  refine⟨decide_eq_true (by omega),rfl,Nat.le_refl _,decide_eq_true (PyData.shown_int_le (by omega)),?_⟩
  simp only[PyData.weight]
  split<;>omega
 ·intro _
  rw[T.py,tW]
  exact⟨rfl,rfl,Nat.le_refl _,rfl,Nat.le_refl _⟩
 ·intro xs ih ok
  have b:=wF ih ok
  rw[T.py,tW,T.dep]
  exact⟨b.sh,b.nd,by rw[PyData.depth];have:=b.dp;omega,b.lf,b.wt⟩
theorem yN{t:T}(ok:BR t)(hd:t.dep<=100)(hw:tW t<=2 ^ 20):oS t.py:=by
 have a:=BS t ok
 exact⟨a.sh,a.nd,Nat.le_trans a.dp hd,PyData.shown_fits (B:=13) (by decide) (by decide) a.lf (Nat.le_trans a.wt hw)⟩
theorem yO{os:List Str}:∀{ns:List Str},(ns++os).Nodup->bE ns os=ns++os:=by
 induction os with
 |nil=>intro ns _;exact(List.append_nil ns).symm
 |cons o r ih =>
  intro ns h
  have ho:fz ns o=ns++[o]:=by
   unfold fz
   congr 1
   rw[List.filter_eq_self]
   intro a ha
   refine decide_eq_true fun e=>?_
   rw[List.nodup_append]at h
   exact h.2.2 a ha o (.head _) e
  show bE (fz ns o) r=_
  rw[ho,ih (by rw[List.append_assoc];exact h),List.append_assoc]
  rfl
noncomputable def lW(p:Pl):Option (Int×List Str):=match p.2.hd with|.gap n=>some (n,p.1)|_=>none
mutual
theorem sC(ns:List Str):∀(tm:Tm),hnd ns tm=(n6 ns tm).filterMap lW
 |.mk h ks=>by
  rw[hnd,n6,List.filterMap_cons]
  have e:=qe ns (bnd h ks.length) ks
  cases h<;>(show _=_;rw[e];rfl)
theorem qe(ns:List Str):∀(bs:List (List Str)) (ks:List Tm),ie ns bs ks=(fZ ns bs ks).filterMap lW
 | [],ks=>by cases ks<;>(unfold ie fZ;rfl)
 |b::bs,[]=>by unfold ie fZ;rfl
 |b::bs,k::ks=>by
  unfold ie fZ
  rw[List.filterMap_append,←sC (bE ns b) k,←qe ns bs ks]
end
theorem wG{h:Hd}{n:Nat}(a:br h n=true):(bnd h n).length=n:=by cases h<;>simp_all[bnd,br]
theorem yP{ks:List Tm}(ih:∀k∈ks,∀ns,(hnd ns k).map (·.1)=gl k):∀(ns:List Str) (bs:List (List Str)),bs.length=ks.length->(ie ns bs ks).map (·.1)=gu ks:=by
 induction ks with
 |nil=>intro ns bs h;cases bs<;>(unfold ie gu;rfl)
 |cons k r ih2 =>
  intro ns bs h
  cases bs with
  |nil=>cases h
  |cons b bs =>
   unfold ie gu
   rw[List.map_append,ih k (.head _),ih2 (fun x hx=>ih x (.tail _ hx)) ns bs (Nat.succ.inj h)]
theorem AM{tm:Tm}:Tok tm->∀ns,(hnd ns tm).map (·.1)=gl tm:=by
 refine Tm.induct (P:=fun t=>Tok t->∀ns,(hnd ns t).map (·.1)=gl t) (fun h ks ih w ns=>?_) tm
 cases w with
 |mk a b c =>
  rw[hnd,gl,List.map_append,yP (fun k hk=>ih k hk (c k hk)) ns _ (wG a)]
  congr 1
  cases h<;>rfl
theorem lH{n:Int}{p:Pl}:fQ n p=true↔∃a,lW p=some (n,a):=by
 obtain⟨ns,h,ks⟩:=p
 unfold fQ
 rw[decide_eq_true_iff]
 show enc (.mk h ks)=_↔_
 rw[aW]
 cases h<;>simp[c9,lW,Tm.hd]
 all_goals (intro h;exact absurd h (by decide))
theorem lI:∀{L:List Pl}{n:Int}{due:List Str},((L.filterMap lW).map (·.1)).Nodup->(n,due)∈L.filterMap lW->∃t,L.find? (fQ n)=some (due,t)
 | [],n,due,_,h=>by cases h
 |p::r,n,due,hn,hm=>by
  rw[List.find?_cons]
  rw[List.filterMap_cons]at hn hm
  cases e:lW p with
  |none =>
   rw[e]at hn hm
   have:fQ n p=false:=eq_false_of_ne_true fun z=>by obtain⟨a,h⟩:=lH.mp z;rw[e]at h;cases h
   rw[this]
   exact lI hn hm
  |some q =>
   obtain⟨m,a⟩:=q
   rw[e]at hn hm
   have hn2:=List.nodup_cons.mp hn
   by_cases hmn:m=n
   ·subst hmn
    rw[lH.mpr ⟨a,e⟩]
    rcases List.mem_cons.mp hm with h|h
    ·cases h
     refine⟨p.2,?_⟩
     have:p.1=due:=by
      obtain⟨ns,h,ks⟩:=p
      cases h<;>simp_all[lW,Tm.hd]
     rw[←this]
    ·exact absurd (List.mem_map_of_mem (f:=(·.1)) h) hn2.1
   ·have:fQ n p=false:=eq_false_of_ne_true fun z=>by obtain⟨a',h⟩:=lH.mp z;rw[e]at h;cases h;exact hmn rfl
    rw[this]
    rcases List.mem_cons.mp hm with h|h
    ·cases h;exact absurd rfl hmn
    ·exact lI hn2.2 h
theorem wH{d:Df}(n:(d.2.1.map (·.1)).Nodup):um d=n6 (d.2.1.map (·.1)) d.2.2:=by
 unfold um
 rw[yO (ns:=[]) (by rw[List.nil_append];exact n),List.nil_append]
noncomputable def gw(ds:List Df):List (Int×List Str):=ds.flatMap fun d=>hnd (d.2.1.map (·.1)) d.2.2
theorem wI{ds:List Df}(h:∀d∈ds,(d.2.1.map (·.1)).Nodup):gw ds=(ds.flatMap um).filterMap lW:=by
 induction ds with
 |nil=>rfl
 |cons d r ih =>
  unfold gw
  rw[List.flatMap_cons,List.flatMap_cons,List.filterMap_append,wH (h d (.head _)),←sC]
  congr 1
  exact ih fun x hx=>h x (.tail _ hx)
theorem AN{ds:List Df}(h:∀d∈ds,Tok d.2.2):(gw ds).map (·.1)=ds.flatMap fun e=>gl e.2.2:=by
 induction ds with
 |nil=>rfl
 |cons d r ih =>
  unfold gw
  rw[List.flatMap_cons,List.flatMap_cons,List.map_append,AM (h d (.head _))]
  congr 1
  exact ih fun x hx=>h x (.tail _ hx)
theorem wJ{ds:List Df}(p:wC ds){n:Int}{due:List Str}(h:(n,due)∈gw ds):∃t,(ds.flatMap um).find? (fQ n)=some (due,t):=by
 have e:=wI (ds:=ds) fun d hd=>(p.ok d hd).2.2.2.2.1
 rw[e]at h
 refine lI ?_ h
 rw[←e,AN fun d hd=>(p.ok d hd).1]
 exact p.gn
structure iU(l:List Str) (n:Nat):Prop where
 len:l.length<=n
 ok:∀x∈l,er x
theorem iU.bnd{l b:List Str}{n:Nat}(h:iU l n)(hl:b.length<=2)(hb:∀x∈b,er x):iU (bE l b) (n+2):=by
 have one:∀{l:List Str}{n:Nat}{o:Str},iU l n->er o->iU (fz l o) (n+1):=fun{l n o} h ho=>by
  refine⟨Nat.le_trans (pe l o) (Nat.succ_le_succ h.len),fun x hx=>?_⟩
  unfold fz at hx
  rcases List.mem_append.mp hx with hx|hx
  ·exact h.ok x (List.mem_filter.mp hx).1
  ·rw[List.mem_singleton.mp hx];exact ho
 match b,hl with
 | [],_=>exact⟨Nat.le_trans h.len (by omega),h.ok⟩
 | [x],_=>have z:=one h (hb x (.head _));exact⟨Nat.le_trans z.len (by omega),z.ok⟩
 | [x,y],_=>exact one (one h (hb x (.head _))) (hb y (.tail _ (.head _)))
theorem yQ{ks:List Tm}{D:Nat}(ih:∀k∈ks,∀ns n,iU ns n->∀p∈n6 ns k,iU p.1 (n+2*D)):∀(ns:List Str) (n:Nat) (bs:List (List Str)),iU ns n->(∀b∈bs,b.length<=2/\∀x∈b,er x)->∀p∈fZ ns bs ks,iU p.1 (n+2*(D+1)):=by
 induction ks with
 |nil=>intro ns n bs _ _ p hp;cases bs<;>(unfold fZ at hp;cases hp)
 |cons k r ih2 =>
  intro ns n bs h hb p hp
  cases bs with
  |nil=>unfold fZ at hp;cases hp
  |cons b bs =>
   unfold fZ at hp
   rcases List.mem_append.mp hp with hp|hp
   ·have z:=ih k (.head _) _ _ (h.bnd (hb b (.head _)).1 (hb b (.head _)).2) p hp
    exact⟨Nat.le_trans z.len (by omega),z.ok⟩
   ·exact ih2 (fun x hx=>ih x (.tail _ hx)) ns n bs h (fun c hc=>hb c (.tail _ hc)) p hp
theorem AO{tm:Tm}:Tok tm->∀D,tm.depth<=D->∀ns n,iU ns n->∀p∈n6 ns tm,iU p.1 (n+2*D):=by
 refine Tm.induct (P:=fun t=>Tok t->∀D,t.depth<=D->∀ns n,iU ns n->∀p∈n6 ns t,iU p.1 (n+2*D)) (fun h ks ih w D hD ns n hn p hp=>?_) tm
 cases w with
 |mk a b c =>
  rw[n6]at hp
  rcases List.mem_cons.mp hp with rfl|hp
  ·exact⟨Nat.le_trans hn.len (by omega),hn.ok⟩
  ·cases D with
   |zero =>
    cases ks with
    |nil=>exact absurd hp (by generalize bnd h 0=bs;cases bs<;>(unfold fZ;intro z;cases z))
    |cons k r=>rw[Tm.fX]at hD;omega
   |succ D =>
    refine yQ (D:=D) (fun k hk ns n hn p hp=>ih k hk (c k hk) D ?_ ns n hn p hp) ns n _ hn b p hp
    have:=Tm.iu (h:=h) hk
    omega
theorem AQ{ds:List Df}(p:wC ds){n:Int}{due:List Str}(h:(n,due)∈gw ds):iU due 19:=by
 rw[wI fun d hd=>(p.ok d hd).2.2.2.2.1]at h
 obtain⟨q,hq,e⟩:=List.mem_filterMap.mp h
 obtain⟨d,hd,hq⟩:=List.mem_flatMap.mp hq
 obtain⟨o1,o2,o3,o4,o5,o6⟩:=p.ok d hd
 rw[wH o5]at hq
 have z:=AO o1 8 o2 _ 3 ⟨by rw[List.length_map];exact o4,o6⟩ q hq
 have:q.1=due:=by
  obtain⟨ns,h,ks⟩:=q
  cases h<;>simp_all[lW,Tm.hd]
 rw[←this]
 exact z
theorem sD:∀{l:List Str},(∀x∈l,er x)->yM (l.map .s)/\AX (l.map .s)<=21*l.length/\T.dR (l.map .s)<=0
 | [],_=>⟨trivial,Nat.le_refl _,nZ⟩
 |x::r,h=>by
  obtain⟨a,b,c⟩:=sD (l:=r) fun y hy=>h y (.tail _ hy)
  have hx:=h x (.head _)
  refine⟨⟨hx.2,a⟩,?_,eN iy c⟩
  rw[List.map_cons,AX,List.length_cons]
  have:tW (.s x)<=20:=hx.1
  omega
theorem AR{l:List Str}{n:Nat}(h:iU l n)(hn:n<=19):oS (T.t (l.map .s)).py:=by
 obtain⟨a,b,c⟩:=sD h.ok
 refine yN a (Nat.le_trans (jD c) (by decide)) ?_
 rw[tW]
 have:=h.len
 have e:(2:Nat) ^ 20=1048576:=by decide
 omega
end G04
namespace L2
open PySem
theorem jS{X:Cx}(K:PySem.W.Frag)(hK:X.K=K)(hg:X.A.guards=some [])(hu:X.A.units+150<cLine):dO X (.builtin "repr") (fun xs H Q=>∃x xs' ,xs=[x]/\Rp K H (.t xs') x/\oS (T.t xs').py/\Q (.str (CP (.t xs'))) H):=by
 subst hK
 exact qK hg hu
end L2
namespace G04
open PySem L2
noncomputable def sE(K:PySem.W.Frag):Sp:=fun vs H Q _=>∃(a:Addr) (ns:List Int),vs=[.ref a]/\bJ K H a (ns.map V.int)/\ns.length<=63/\∀H',Q (.bl true) H'
structure qf(K:PySem.W.Frag) (H:Hp) (x:V):Prop where
 ex:∃(p:Addr) (v dv:V) (n:Int) (ks:T) (ds:List Df) (due:List Str),x=.ref p/\aJ K H p [v,.int n,dv]/\Rp K H (.t [ks,.t (ds.map wQ)]) v/\Rp K H (.t (due.map .s)) dv/\wC ds/\(n,due)∈gw ds
theorem qf.kt{K:PySem.W.Frag}{H H':Hp}{x:V}(h:qf K H x)(k:Kt H H'):qf K H' x:=by
 obtain⟨p,v,dv,n,ks,ds,due,e,sq,r,r2,f⟩:=h.ex
 exact⟨p,v,dv,n,ks,ds,due,e,sq.kt k,r.kt k,r2.kt k,f⟩
structure LI(K:PySem.W.Frag) (H:Hp) (p1:Addr) (m:Nat) (H5:Hp):Prop where
 x:∃us,H5 p1=some (.lst us)/\us.length<=m/\(∀u∈us,qf K H5 u)/\aL H H5
structure HI(K:PySem.W.Frag) (H:Hp) (p3:Addr) (L:List (Int×List Str)) (H5:Hp):Prop where
 x:∃ys,H5 p3=some (.lst ys)/\aM K H5 (L.map hT) ys/\eX p3 H H5
structure CI(K:PySem.W.Frag) (H:Hp) (i:Nat) (us:List V) (H5:Hp):Prop where
 s:aL H H5
 l:us.length=i
 d:∀u∈us,qf K H5 u
theorem aM.mem{K:PySem.W.Frag}{H:Hp}{xs:List T}{vs:List V}(h:aM K H xs vs){v:V}(hv:v∈vs):∃x∈xs,Rp K H x v:=by
 obtain⟨i,hi,e⟩:=List.getElem_of_mem hv
 obtain⟨x,hx,r⟩:=h.get' (i:=i) (v:=v) (by rw[List.getElem?_eq_getElem hi,e])
 exact⟨x,List.mem_of_getElem? hx,r⟩
theorem nY:∀{ds:List Df},(∀d∈ds,Tok d.2.2/\d.2.2.size<=40)->(gw ds).length<=40*ds.length
 | [],_=>Nat.zero_le _
 |d::r,h=>by
  have a:=nO d.2.2 (d.2.1.map (·.1))
  have b:=nY (ds:=r) fun x hx=>h x (.tail _ hx)
  have c:=(h d (.head _)).2
  have e:gw (d::r)=hnd (d.2.1.map (·.1)) d.2.2++gw r:=by unfold gw;rw[List.flatMap_cons]
  rw[e,List.length_append,List.length_cons]
  omega
theorem wK{ds:List Df}{i:Nat}{d:Df}(h:ds[i]?=some d):gw (ds.take (i+1))=gw (ds.take i)++hnd (d.2.1.map (·.1)) d.2.2:=by
 unfold gw
 rw[List.take_add_one,h,List.flatMap_append]
 congr 1
 exact List.append_nil _
section
variable {P:Program}{w:World}{K:PySem.W.Frag}{mg:Str->Option Value}{base:Heap}{gF gT gP gH gA:Addr}{ffd tfd pfd hfd afd:FuncData}
theorem cN:Nm ["_law_script","_law_asked","_law_k","_law_feed_here","_law_program_here_here","_law_dues","_law_f","_law_params","_law_term_here","_law_turn"] (aj gX):=by decide +kernel
theorem gi:Lm ["_law_script","_law_asked","_law_k","_law_feed_here","_law_program_here_here","_law_dues","_law_f","_law_params","_law_term_here","_law_turn"] (aj gX):=by decide +kernel
theorem fB:aZ ["_law_script","_law_asked","_law_k","_law_feed_here","_law_program_here_here","_law_dues","_law_f","_law_params","_law_term_here","_law_turn"] ["_law_script"] (aj gX):=⟨rfl,rfl,rfl,by decide +kernel,rfl,by decide +kernel,by decide +kernel⟩
theorem AS{f:Addr}{fd:FuncData}{j jh:Nat}(hj:3<=j)(hjh:jh<=j)(F:iE K "law" "law" gX f fd)(FD:cR P w K mg base "_law_feed" 1 ["_law_script","_law_k"] (vc K) gF ffd)(TK:cR P w K mg base "_law_take" 1 ["_law_feed_here","_law_many_here"] cT gT tfd)(PH:cR P w K mg base "_law_program_here" j ["_law_feed_here"] (iN K) gP pfd)(HA:cR P w K mg base "_law_hands" jh ["_law_term_here","_law_around","_law_found"] (jo K 10) gH hfd)(AH:cR P w K mg base "at_hand" 3 ["program","n"] (pS K) gA afd)(z_range:mg "range"=none)(z_repr:mg "repr"=none)(z_max:mg "max"=none)(z_len:mg "len"=none)(z_all:mg "all"=none):cA P w K mg base gv (j+1) f fd ["_law_script"] (sE K):=by
 refine F.ok fB (fun vs H Q E h=>?_) (fun cdv A outer s H vs Q E hr h=>?_)
 ·obtain⟨a,ns,rfl,_⟩:=h
  rfl
 obtain⟨a,ns,rfl,hS,hn,k⟩:=h
 refine⟨_,(Z6 (sa fB.nd gi 1 (bj ah)) (Z6 (@fV _ _ _ _ _ _ _ _ PassesOwn.never rfl (@fD _ _ _ _ _ _ (by show _=_;kernel_rfl) z_range (Z1 (Z7 (sO rfl) z_max PyProof.Rows.boot_max (Z1 ak (Z1 (Z7 bX z_len PySem.boot_len (Z1 (b8 d8 (va cN 0) cE (bV ak)) ah)) ah))) ah) (by rfl)) (ga fB.nd gi 2) (Z6 (Z3 fB.nd gi 3 (Z0 FD (Z1 (va cN 0) (aA (va cN 2) ah)))) (Z6 (Z3 fB.nd gi 4 (Z0 PH (aA (va cN 3) ah))) (Z6 (sa fB.nd gi 5 (bj ah)) (Z6 (@fV _ _ _ _ _ _ _ _ PassesOwn.never rfl (@b7 _ _ _ _ (Z8 aD (va cN 4))) (Zc (3) (Zg (ga fB.nd gi 6) (Zg (ga fB.nd gi 7) (aU (ga fB.nd gi 8) bq)))) (Zh (@cS _ _ _ _ (Z0 HA (Z1 (va cN 8) (Z1 (Z4 (aj gX) ["_law_script","_law_asked","_law_k","_law_feed_here","_law_program_here_here","_law_dues","_law_f","_law_params","_law_term_here","_law_turn"] ["_law_x","_law_kind"] [] (b7 (va cN 7)) (fun _ _ _ _=>(Zc (2) (Zg (Z2 (i:=0) (show(["_law_x","_law_kind"]:List Str).Nodup by decide +kernel)) (aU (Z2 (i:=1) (show(["_law_x","_law_kind"]:List Str).Nodup by decide +kernel)) bq)))) (fun _ _ _ _=>(va (show Nm ["_law_x","_law_kind"] _ by show _=_;kernel_rfl) 0))) (aA (va cN 5) ah)))) (by rfl))) (by intro _;rfl)) (Z6 (Z3 fB.nd gi 9 (Z0 TK (Z1 (va cN 3) (Z1 (Zj cQ ak (Z7 bX z_len PySem.boot_len (aA (va cN 5) ah))) ah)))) (Zh (@cS _ _ _ _ (Zb PySem.F.slot_list_extend PySem.F.type_list_extend mz (va cN 1) (Z1 (Z4 (aj gX) ["_law_script","_law_asked","_law_k","_law_feed_here","_law_program_here_here","_law_dues","_law_f","_law_params","_law_term_here","_law_turn"] ["_law_n","_law_due"] [4] (@cO _ _ _ _ (Zj iO (@b8 _ _ _ _ _ _ _ _ _ _ d8 (va cN 5) (bV (va cN 9)) cE) (@b8 _ _ _ _ _ _ _ _ _ _ d8 (va cN 5) cE (bV (va cN 9))))) (fun _ _ _ _=>(Zc (2) (Zg (Z2 (i:=0) (show(["_law_n","_law_due","_law_program_here_here"]:List Str).Nodup by decide +kernel)) (aU (Z2 (i:=1) (show(["_law_n","_law_due","_law_program_here_here"]:List Str).Nodup by decide +kernel)) bq)))) (fun _ _ _ _=>(Ze (Z1 (va (show Nm ["_law_n","_law_due","_law_program_here_here"] _ by show _=_;kernel_rfl) 2) (Z1 (va (show Nm ["_law_n","_law_due","_law_program_here_here"] _ by show _=_;kernel_rfl) 0) (aA (va (show Nm ["_law_n","_law_due","_law_program_here_here"] _ by show _=_;kernel_rfl) 1) ah)))))) ah)) (by rfl)))))))) (by intro _;rfl)) (Zh (@aK _ _ _ _ (Z7 (uV rfl) z_all PyProof.Rows.boot_all (Z1 (Z4 (aj gX) ["_law_script","_law_asked","_law_k","_law_feed_here","_law_program_here_here","_law_dues","_law_f","_law_params","_law_term_here","_law_turn"] ["_law_program_here_here","_law_n","_law_due"] [] (@cO _ _ _ _ (Zj iO (va cN 1) (b8 d8 (va cN 1) cE (bV ak)))) (fun _ _ _ _=>(Zc (3) (Zg (Z2 (i:=0) (show(["_law_program_here_here","_law_n","_law_due"]:List Str).Nodup by decide +kernel)) (Zg (Z2 (i:=1) (show(["_law_program_here_here","_law_n","_law_due"]:List Str).Nodup by decide +kernel)) (aU (Z2 (i:=2) (show(["_law_program_here_here","_law_n","_law_due"]:List Str).Nodup by decide +kernel)) bq))))) (fun _ _ _ _=>(@nj _ _ _ _ _ _ _ _ cu (Z7 (jS K rfl (by show _=_;exact hr.gd) (by show _+150<cLine;exact hr.qA)) z_repr PyProof.Rows.boot_repr (Z1 (Z0 AH (Z1 (va (show Nm ["_law_program_here_here","_law_n","_law_due"] _ by show _=_;kernel_rfl) 0) (aA (va (show Nm ["_law_program_here_here","_law_n","_law_due"] _ by show _=_;kernel_rfl) 1) ah))) ah)) (Z7 (jS K rfl (by show _=_;exact hr.gd) (by show _+150<cLine;exact hr.qA)) z_repr PyProof.Rows.boot_repr (aA (va (show Nm ["_law_program_here_here","_law_n","_law_due"] _ by show _=_;kernel_rfl) 2) ah)) (bK _)))) ah)))))),?_⟩
 try dsimp only[dg]
 try dsimp only[dg]
 fail "R"
 intro p1 hp1
 have s1:=ae hp1 (.lst [])
 have h1:upd H p1 (.lst []) p1=some (.lst []):=af
 generalize upd H p1 (.lst [])=H1 at s1 h1⊢
 have hS1:=s1.seq hS
 fail "R"
 intro p2 hp2
 rw[show(some (3:Int))=some ((3:Nat):Int)from rfl,ju]
 have s2:=ae hp2 (.lst ((ns.map V.int).take 3))
 have h2:upd H1 p2 (.lst ((ns.map V.int).take 3)) p2=some (.lst ((ns.map V.int).take 3)):=af
 generalize upd H1 p2 (.lst ((ns.map V.int).take 3))=H2 at s2 h2⊢
 have h2':bJ K H2 p2 ((ns.map V.int).take 3)\/aJ K H2 p2 ((ns.map V.int).take 3):=.inl (bJ.of h2)
 have l2:((ns.map V.int).take 3).length<=3:=by rw[List.length_take];omega
 generalize(ns.map V.int).take 3=ys at h2' l2 h2
 have hm:∃mx:Int,(if(ys.length:Int)>1 then(ys.length:Int)else 1)=mx/\0<=mx/\mx<=3:=by
  refine⟨_,rfl,?_⟩
  split<;>omega
 obtain⟨mx,emx,mx0,mx3⟩:=hm
 have s12:=s1.trans s2
 have h12:=s2 _ _ h1
 fail "R"
 rw[emx]
 fail "R"
 refine lX (n:=mx.toNat) (fun i σ H5=>(∃x2 x3 x4 x5 x6 x7 x8 x9,σ=[some (.ref a),some (.ref p1),x2,x3,x4,x5,x6,x7,x8,x9])/\LI K H p1 (80*i) H5) ⟨⟨_,_,_,_,_,_,_,_,rfl⟩,⟨[],h12,Nat.zero_le _,(fun u hu=>nomatch hu),s12⟩⟩ ?_ ?_
 ·rintro i σ H5 hi ⟨⟨x2,x3,x4,x5,x6,x7,x8,x9,rfl⟩,⟨us,h5,l5,d5,s5⟩⟩
  have hS5:=s5.seq hS
  have hi3:i<3:=by omega
  fail "R"
  intro r H6 s6 nr hf6
  fail "R"
  intro v H7 ks ds x7 rp7 ph7
  have s57:aL H5 H7:=fun b o e=>x7.1 _ _ (aB e nr) (s6 _ _ e)
  have rp7':=rp7
  obtain⟨qa,u1,u2,rfl,qsq,g1,g2⟩:=rp7'.t2
  obtain⟨qb,dvs,rfl,dsq,rds⟩:=g2.aH
  have h57:=s57 _ _ h5
  have hf7:=x7.2
  have nr1:r≠p1:=fun z=>by rw[z,h5]at nr;cases nr
  clear s6 x7 hf6 hS5
  fail "R"
  intro p8 hp8
  have s8:=ae hp8 (.lst [])
  have h8:upd H7 p8 (.lst []) p8=some (.lst []):=af
  generalize upd H7 p8 (.lst [])=H8 at s8 h8⊢
  have qsq8:=qsq.same s8
  have dsq8:=dsq.same s8
  have rds8:=rds.same s8
  have n81:p8≠p1:=fun z=>by rw[z,h57]at hp8;cases hp8
  have n8r:r≠p8:=(aV hf7 hp8).symm
  have ldv:=rds.length
  rw[List.length_map]at ldv
  have hl2:=ph7.len
  fail "R"
  refine i3 (K:=K) (xs:=dvs) (fun j σ H9=>(∃y6 y7 y8,σ=[some (.ref a),some (.ref p1),some (.int (0+(i:Int))),some (.ref r),some (.ref qa),some (.ref p8),y6,y7,y8,x9])/\HI K H8 p8 (gw (ds.take j)) H9) ⟨⟨_,_,_,rfl⟩,⟨[],h8,.nil,fun b o _ e=>e⟩⟩ ?_ ?_ ?_
  ·rintro j σ H9 hj ⟨_,⟨ys,hy,ry,o9⟩⟩
   exact dsq8.kt (o9.kt h8)
  ·rintro j x σ H9 hx ⟨⟨y6,y7,y8,rfl⟩,⟨ys,hy,ry,o9⟩⟩
   have k9:=o9.kt h8
   obtain⟨yv,hyv,ryv⟩:=rds8.get' hx
   rw[List.getElem?_map]at hyv
   obtain⟨e,he,rfl⟩:=Option.map_eq_some_iff.mp hyv
   obtain⟨ea,w1,w2,w3,rfl,esq,q1,q2,q3⟩:=(show Rp K H9 (.t [.s e.1,pB e.2.1,enc e.2.2]) x from ryv.kt k9).t3
   obtain⟨pb,pvs,rfl,psq,rps⟩:=q2.aH
   have lpv:=rps.length
   rw[List.length_map]at lpv
   obtain⟨t1,t2,t3,t4,t5,t6⟩:=ph7.ok e (List.mem_of_getElem? he)
   have lys:=ry.length
   rw[List.length_map]at lys
   have hj2:=(List.getElem?_eq_some_iff.mp hx).1
   have ldu:(gw (ds.take j)).length<=80:=by
    have z:=nY (ds:=ds.take j) fun d hd=>⟨(ph7.ok d (List.mem_of_mem_take hd)).1,(ph7.ok d (List.mem_of_mem_take hd)).2.2.1⟩
    rw[List.length_take]at z
    omega
   fail "R"
   refine bT (K:=K) (xs:=pvs) (fun i σ us H10=>(∃x y,σ=[x,y])/\H10=H9/\us=((e.2.1.take i).map (·.1)).map V.str) ⟨⟨_,_,rfl⟩,rfl,rfl⟩ ?_ (Nat.le_of_lt (aC (by omega))) ?_ ?_ ?_
   ·rintro i σ us H10 h ⟨_,_,rfl⟩
    rw[List.length_map,List.length_map,List.length_take];omega
   ·rintro i σ us H10 h ⟨_,rfl,_⟩
    exact psq
   ·rintro i x σ us H10 hx ⟨⟨x0,y0,rfl⟩,rfl,rfl⟩
    obtain⟨y,hy,ry⟩:=rps.get' hx
    rw[List.getElem?_map]at hy
    obtain⟨q,hq,rfl⟩:=Option.map_eq_some_iff.mp hy
    obtain⟨qa',u1',u2',rfl,qsq',g1',g2'⟩:=(show Rp K H10 (.t [.s q.1,q.2]) x from ry).t2
    obtain rfl:=g1'.aI
    fail "R"
    rw[List.take_add_one,hq,List.map_append,List.map_append]
    rfl
   ·rintro σ us H10 ⟨_,rfl,rfl⟩ p11 hp11
    rw[show pvs.length=e.2.1.length from lpv,List.take_length]
    have s11:=ae hp11 (.lst ((e.2.1.map (·.1)).map V.str))
    have h11:upd H10 p11 (.lst ((e.2.1.map (·.1)).map V.str)) p11=some (.lst ((e.2.1.map (·.1)).map V.str)):=af
    generalize upd H10 p11 (.lst ((e.2.1.map (·.1)).map V.str))=H11 at s11 h11⊢
    have q311:=q3.same s11
    have hy11:=s11 _ _ hy
    have ry11:=ry.same s11
    have n11:p11≠p8:=fun z=>by rw[z,hy]at hp11;cases hp11
    have t7:=t1.wn
    have t8:e.2.2.depth<10:=by omega
    have t9:(e.2.1.map (·.1)).length+2*e.2.2.size<=900:=by rw[List.length_map];omega
    have t10:(gw (ds.take j)).length+e.2.2.size<=900:=by omega
    fail "R"
    intro H12 zs o12 hz rz
    fail "R"
    refine⟨zs,hz,?_,(o9.trans (eX.same s11)).trans o12⟩
    rw[wK he]
    exact rz
  ·rintro σ H9 ⟨⟨y6,y7,y8,rfl⟩,⟨ys,hy,ry,o9⟩⟩
   rw[show dvs.length=ds.length from ldv,List.take_length]at ry
   have k9:=o9.kt h8
   have hf9:bM H9 r:=by
    obtain⟨p,q,e⟩:=hf7
    exact⟨p,q,o9 _ _ n8r (s8 _ _ e)⟩
   have ldu:=nY (ds:=ds) fun d hd=>⟨(ph7.ok d hd).1,(ph7.ok d hd).2.2.1⟩
   have lys:=ry.length
   rw[List.length_map]at lys
   have hy':bJ K H9 p8 ys\/aJ K H9 p8 ys:=.inl (bJ.of hy)
   have s59:aL H5 H9:=fun b o e=>o9 _ _ (fun z=>by subst z;rw[s57 _ _ e]at hp8;cases hp8) (s8 _ _ (s57 _ _ e))
   have rp9:=(rp7.same s8).kt k9
   clear qsq dsq rds qsq8 dsq8 rds8 h57 hf7 g1 g2 rp7
   fail "R"
   intro tn H10 tn0 tn1 x10
   obtain⟨tt,rfl⟩:∃tt:Nat,tn=(tt:Int):=⟨tn.toNat,by omega⟩
   have k10:=x10.kt hf9
   have n8r':=n8r.symm
   have hy10:=x10.1 _ _ n8r' hy
   have s510:aL H5 H10:=fun b o e=>x10.1 _ _ (aB e nr) (s59 _ _ e)
   have h510:=s510 _ _ h5
   have ry10:=ry.kt k10
   have rp10:=rp9.kt k10
   fail "R"
   intro p11 hp11
   rw[dW]
   have s11:=ae hp11 (.lst (ys.drop tt))
   have h11:upd H10 p11 (.lst (ys.drop tt)) p11=some (.lst (ys.drop tt)):=af
   generalize upd H10 p11 (.lst (ys.drop tt))=H11 at s11 h11⊢
   have hy11:=s11 _ _ hy10
   fail "R"
   intro p12 hp12
   rw[ju]
   have s12':=ae hp12 (.lst (ys.take tt))
   have h12':upd H11 p12 (.lst (ys.take tt)) p12=some (.lst (ys.take tt)):=af
   generalize upd H11 p12 (.lst (ys.take tt))=H12 at s12' h12' ⊢
   have h112:=s12' _ _ h11
   have ll:(ys.drop tt).length+(ys.take tt).length<=sizeLine:=Nat.le_of_lt (aC (by rw[List.length_drop,List.length_take];omega))
   fail "R"
   intro p13 hp13
   have s13:=ae hp13 (.lst (ys.drop tt++ys.take tt))
   have h13:upd H12 p13 (.lst (ys.drop tt++ys.take tt)) p13=some (.lst (ys.drop tt++ys.take tt)):=af
   generalize upd H12 p13 (.lst (ys.drop tt++ys.take tt))=H13 at s13 h13⊢
   have s1013:=(s11.trans s12').trans s13
   have hm13:∀u∈ys.drop tt++ys.take tt,∃g∈gw ds,Rp K H13 (hT g) u:=by
    intro u hu
    have:u∈ys:=by
     rcases List.mem_append.mp hu with h|h
     ·exact List.mem_of_mem_drop h
     ·exact List.mem_of_mem_take h
    obtain⟨x,hx,rx⟩:=aM.mem ry10 this
    obtain⟨g,hg,rfl⟩:=List.mem_map.mp hx
    exact⟨g,hg,rx.same s1013⟩
   have lzs:(ys.drop tt++ys.take tt).length<=80:=by rw[List.length_append,List.length_drop,List.length_take];omega
   generalize ys.drop tt++ys.take tt=zs at h13 hm13 lzs
   have rp13:=rp10.same s1013
   clear h11 hy11 h112 h12' ll
   fail "R"
   refine cy (K:=K) (xs:=zs) (fun i σ us H14=>(∃x y,σ=[x,y,some (.ref qa)])/\CI K H13 i us H14) ⟨⟨_,_,rfl⟩,⟨aL.refl _,rfl,fun u hu=>nomatch hu⟩⟩ ?_ (Nat.le_of_lt (aC (by omega))) ?_ ?_ ?_
   ·rintro i σ us H14 h ⟨_,c⟩
    exact Nat.le_of_eq c.l
   ·rintro i σ us H14 h ⟨_,c⟩
    exact bJ.of (c.s _ _ h13)
   ·rintro i x σ us H14 hx ⟨⟨_,_,rfl⟩,c⟩
    obtain⟨g,hg,rg⟩:=hm13 x (List.mem_of_getElem? hx)
    obtain⟨ga,z1,z2,rfl,gsq,rz1,rz2⟩:=(show Rp K H14 (.t [.i g.1,.t (g.2.map .s)]) x from rg.same c.s).t2
    obtain rfl:=rz1.cX
    fail "R"
    intro p15 hp15
    have s15:=ae hp15 (.tup [.ref qa,.int g.1,z2])
    have h15:upd H14 p15 (.tup [.ref qa,.int g.1,z2]) p15=some (.tup [.ref qa,.int g.1,z2]):=af
    generalize upd H14 p15 (.tup [.ref qa,.int g.1,z2])=H15 at s15 h15⊢
    fail "R"
    refine⟨c.s.trans s15,by rw[List.length_append,c.l];rfl,fun u hu=>?_⟩
    rcases List.mem_append.mp hu with h|h
    ·exact(c.d u h).kt (Kt.same s15)
    ·rw[List.mem_singleton.mp h]
     exact⟨p15,.ref qa,z2,g.1,ks,ds,g.2,rfl,aJ.of h15,(rp13.same c.s).same s15,rz2.same s15,ph7,hg⟩
   ·rintro σ ws H14 ⟨_,c⟩ p15 hp15
    have lw:=c.l
    have s15:=ae hp15 (.lst ws)
    have h15:upd H14 p15 (.lst ws) p15=some (.lst ws):=af
    have dw:∀u∈ws,qf K (upd H14 p15 (.lst ws)) u:=fun u hu=>(c.d u hu).kt (Kt.same s15)
    generalize upd H14 p15 (.lst ws)=H15 at s15 h15 dw⊢
    have s515:=((s510.trans s1013).trans c.s).trans s15
    have h115:=s515 _ _ h5
    have lz:us.length+ws.length<=sizeLine:=Nat.le_of_lt (aC (by omega))
    fail "R"
    have k16:Kt H15 (upd H15 p1 (.lst (us++ws))):=Kt.lst h115 _
    refine⟨us++ws,af,by rw[List.length_append];omega,fun u hu=>?_,fun b o e=>?_⟩
    ·rcases List.mem_append.mp hu with h|h
     ·exact((d5 u h).kt (Kt.same s515)).kt k16
     ·exact(dw u h).kt k16
    ·rw[aq (aB e hp1)]
     exact s515 _ _ (s5 _ _ e)
 ·rintro σ H5 ⟨⟨x2,x3,x4,x5,x6,x7,x8,x9,rfl⟩,⟨us,h5,l5,d5,s5⟩⟩
  have l5':us.length<=240:=by omega
  clear h2 h2' h12 s12 s2 hS1 s1 h1
  fail "R"
  intro p6 hp6
  rw[show(some (1:Int))=some ((1:Nat):Int)from rfl,ju]
  have s6:=ae hp6 (.lst (us.take 1))
  have e6:=s6 _ _ h5
  have e6':upd H5 p6 (.lst (us.take 1)) p6=some (.lst (us.take 1)):=af
  have d6:∀u∈us,qf K (upd H5 p6 (.lst (us.take 1))) u:=fun u h=>(d5 u h).kt (Kt.same s6)
  generalize upd H5 p6 (.lst (us.take 1))=H6 at s6 e6 e6' d6⊢
  have ll:us.length+(us.take 1).length<=sizeLine:=Nat.le_of_lt (aC (by rw[List.length_take];omega))
  fail "R"
  intro p7 hp7
  have e7:upd H6 p7 (.lst (us++us.take 1)) p7=some (.lst (us++us.take 1)):=af
  have d7:∀u∈us++us.take 1,qf K (upd H6 p7 (.lst (us++us.take 1))) u:=fun u h=>by
   have:u∈us:=by
    rcases List.mem_append.mp h with h|h
    ·exact h
    ·exact List.mem_of_mem_take h
   exact(d6 u this).kt (Kt.same (ae hp7 _))
  have l7:(us++us.take 1).length<=241:=by rw[List.length_append,List.length_take];omega
  generalize upd H6 p7 (.lst (us++us.take 1))=H7 at e7 d7⊢
  generalize us++us.take 1=ws at e7 d7 l7
  clear s6 e6 e6' d6 ll hp6 hp7 h5 d5
  fail "R"
  refine cy (K:=K) (xs:=ws) (fun i σ vs H8=>(∃x y z,σ=[x,y,z])/\aL H7 H8/\vs=(List.replicate i true).map V.bl) ⟨⟨_,_,_,rfl⟩,aL.refl _,rfl⟩ ?_ (Nat.le_of_lt (aC (by omega))) ?_ ?_ ?_
  ·rintro i σ vs H8 h ⟨_,_,rfl⟩
   rw[List.length_map,List.length_replicate];exact Nat.le_refl _
  ·rintro i σ vs H8 h ⟨_,s8,_⟩
   exact bJ.of (s8 _ _ e7)
  ·rintro i x σ vs H8 hx ⟨⟨_,_,_,rfl⟩,s8,rfl⟩
   obtain⟨p,v,dv,n,ks,ds,due,rfl,sq,rp,rdv,ph,hdu⟩:=(d7 x (List.mem_of_getElem? hx)).ex
   have sq8:=sq.same s8
   have rp8:=rp.same s8
   have rdv8:=rdv.same s8
   obtain⟨t,hfind⟩:=wJ ph hdu
   have hsh:=AR (AQ ph hdu) (Nat.le_refl _)
   have hdf:∀d∈ds,BH d:=fun d hd=>by
    obtain⟨t1,t2,t3,t4,_⟩:=ph.ok d hd
    exact⟨t1.wn,by omega,by omega⟩
   have hl:ds.length<=100:=by have:=ph.len;omega
   fail "R"
   intro v9 H9 s9 rv9
   have rdv9:=rdv8.same s9
   fail "R"
   ·exact s8.trans s9
   rw[decide_eq_true rfl,List.replicate_succ',List.map_append]
   rfl
  ·rintro σ vs H8 ⟨_,s8,rfl⟩ p9 hp9
   have h9:upd H8 p9 (.lst ((List.replicate ws.length true).map V.bl)) p9=some (.lst ((List.replicate ws.length true).map V.bl)):=af
   generalize upd H8 p9 (.lst ((List.replicate ws.length true).map V.bl))=H9 at h9⊢
   fail "R"
   rw[show(List.replicate ws.length true).all id=true by rw[List.all_eq_true];intro x hx;rw[(List.mem_replicate.mp hx).2];rfl]
   exact k _
end
theorem wL{α:Type}{P:List α->Prop}(h:∀a,P [a]):∀us:List α,us.length=1->P us
 | [a],_=>h a
theorem jZ{α:Type}{P:List α->Prop}(h:∀a b,P [a,b]):∀us:List α,us.length=2->P us
 | [a,b],_=>h a b
theorem BU{α:Type}{P:List α->Prop}(h:∀a b c,P [a,b,c]):∀us:List α,us.length=3->P us
 | [a,b,c],_=>h a b c
theorem CW{α:Type}{P:List α->Prop}(h:∀a b c d,P [a,b,c,d]):∀us:List α,us.length=4->P us
 | [a,b,c,d],_=>h a b c d
theorem CY{α:Type}{P:List α->Prop}(h:∀a b c d e,P [a,b,c,d,e]):∀us:List α,us.length=5->P us
 | [a,b,c,d,e],_=>h a b c d e
theorem CZ{α:Type}{P:List α->Prop}(h:∀a b c d e f,P [a,b,c,d,e,f]):∀us:List α,us.length=6->P us
 | [a,b,c,d,e,f],_=>h a b c d e f
section
variable {P:Program}{w:World}{K:PySem.W.Frag}{mg:Str->Option Value}{base:Heap}{gA gB gW gN gT gS:Addr}{afd bfd wfd nfd tfd sfd:FuncData}
theorem qg(F:iE K "_law_many" "_law_many" fJ gA afd)(mA:mg "_law_many"=some (.ref gA))(bA:Binds K afd ["_law_term_here"] [])(WI:cR P w K mg base "_law_within" 1 ["_law_term_here"] (fO K) gW wfd)(z_sum:mg "sum"=none):∀n,cA P w K mg base gv (n+1) gA afd ["_law_term_here"] (nL K n)
 |0=>jf fun vs H Q E ⟨_,_,_,_,_,_,h,_⟩=>by omega
 |n+1=>yk (j:=n+1) (by omega) F WI ⟨qg F mA bA WI z_sum n,mA,F.kp,bA⟩ z_sum
theorem mZ(F:iE K "_law_hands" "_law_hands" b9 gA afd)(mA:mg "_law_hands"=some (.ref gA))(bA:Binds K afd ["_law_term_here","_law_around","_law_found"] [])(WI:cR P w K mg base "_law_within" 1 ["_law_term_here"] (fO K) gW wfd)(NR:cR P w K mg base "_law_nearer" 1 ["_law_around","_law_names_here"] (kU K) gN nfd)(z_zip:mg "zip"=none)(z_tuple:mg "tuple"=none):∀n,cA P w K mg base gv (n+1) gA afd ["_law_term_here","_law_around","_law_found"] (jo K n)
 |0=>jf fun vs H Q E ⟨_,_,_,_,_,_,_,_,_,_,h,_⟩=>by omega
 |n+1=>vS (j:=n+1) (by omega) F WI NR ⟨mZ F mA bA WI NR z_zip z_tuple n,mA,F.kp,bA⟩ z_zip z_tuple
theorem sF(F:iE K "_law_put" "_law_put" fc gA afd)(mA:mg "_law_put"=some (.ref gA))(bA:Binds K afd ["_law_term_here","_law_put_here"] [])(z_tuple:mg "tuple"=none)(z_isinstance:mg "isinstance"=none):∀n,cA P w K mg base gv (n+1) gA afd ["_law_term_here","_law_put_here"] (pQ K n)
 |0=>jf fun vs H Q E ⟨_,_,_,_,_,_,_,_,h,_⟩=>by omega
 |n+1=>Ar (j:=n+1) (by omega) F ⟨sF F mA bA z_tuple z_isinstance n,mA,F.kp,bA⟩ z_tuple z_isinstance
theorem m8(F:iE K "_law_small" "_law_small" cZ gA afd)(mA:mg "_law_small"=some (.ref gA))(bA:Binds K afd ["_law_feed_here","_law_scene_here","_law_around","_law_kind"] [])(TK:cR P w K mg base "_law_take" 1 ["_law_feed_here","_law_many_here"] cT gT tfd)(z_len:mg "len"=none)(z_list:mg "list"=none)(z_tuple:mg "tuple"=none):∀n,cA P w K mg base gv (n+1) gA afd ["_law_feed_here","_law_scene_here","_law_around","_law_kind"] (jq K n)
 |0=>jf fun vs H Q E ⟨_,_,_,_,_,_,_,_,_,_,_,_,_,_,h,_⟩=>by omega
 |n+1=>wq (j:=n+1) (by omega) F TK ⟨m8 F mA bA TK z_len z_list z_tuple n,mA,F.kp,bA⟩ z_len z_list z_tuple
theorem qh(FT:iE K "_law_term" "_law_term" dU gA afd)(FL:iE K "_law_looked" "_law_looked" dF gB bfd)(mA:mg "_law_term"=some (.ref gA))(bA:Binds K afd ["_law_feed_here","_law_scene_here","_law_around","_law_kind","_law_room"] [])(mB:mg "_law_looked"=some (.ref gB))(bB:Binds K bfd ["_law_feed_here","_law_scene_here","_law_around","_law_kind","_law_room","_law_form"] [])(TK:cR P w K mg base "_law_take" 1 ["_law_feed_here","_law_many_here"] cT gT tfd)(NE:cR P w K mg base "_law_near" 1 ["_law_around","_law_more"] (qJ K) gN nfd)(SM:cR P w K mg base "_law_small" 3 ["_law_feed_here","_law_scene_here","_law_around","_law_kind"] (jq K 2) gS sfd)(z_len:mg "len"=none)(z_list:mg "list"=none)(z_tuple:mg "tuple"=none)(z_zip:mg "zip"=none)(z_range:mg "range"=none):∀n,cA P w K mg base gv (2*n+4) gA afd ["_law_feed_here","_law_scene_here","_law_around","_law_kind","_law_room"] (lF K n)
 |0=>jf fun vs H Q E ⟨_,_,_,_,r,_,_,_,_,_,_,_,_,_,_,h1,h2,_⟩=>by
  have:r<1:=h2
  omega
 |n+1=>by
  have TE:=qh FT FL mA bA mB bB TK NE SM z_len z_list z_tuple z_zip z_range n
  have LK:=tZ (j:=2*n+4) (n:=n) (by omega) FL TK NE ⟨TE,mA,FT.kp,bA⟩ z_len z_list z_tuple z_zip
  exact yz (j:=2*n+4) (n:=n) (js:=3) (by omega) (by omega) FT TK SM ⟨LK,mB,FL.kp,bB⟩ ⟨TE,mA,FT.kp,bA⟩ z_range z_tuple
end
end G04
namespace G04
open PySem L2 PySem.W
structure FnAt(K:Frag) (x qual:Str) (st:Stmt) (f:Addr) (fd:FuncData):Prop where
 ex:∃(od:Option Addr) (kV doc pm:Value) (an:Option Addr) (cdv ct:Value) (osl:Array (Option Value)),
  fd=fnOf x qual (iq st) (bW st) (aj st) .none kV doc pm an cdv ct/\K.lookup f=some ⟨.type "function",od,.func fd,osl⟩/\codeIn K cdv qual=true
 kp:keepIn K (.ref f)=true
theorem FnAt.f{K:Frag}{x qual:Str}{st:Stmt}{f:Addr}{fd:FuncData}(F:FnAt K x qual st f fd):iE K x qual st f fd:=by
 obtain⟨od,kV,doc,pm,an,cdv,ct,osl,e,l,c⟩:=F.ex
 exact⟨⟨_,od,kV,doc,pm,an,cdv,ct,osl,e,l,c⟩,F.kp⟩
theorem bD{K:Frag}{x qual:Str}{st:Stmt}{f:Addr}{od an:Option Addr}{osl:Array (Option Value)}{kV doc pm cdv ct:Value}(l:K.lookup f=some ⟨.type "function",od,.func (fnOf x qual (iq st) (bW st) (aj st) .none kV doc pm an cdv ct),osl⟩)
  (c:codeIn K cdv qual=true) (k:keepIn K (.ref f)=true):FnAt K x qual st f (fnOf x qual (iq st) (bW st) (aj st) .none kV doc pm an cdv ct):=⟨⟨od,kV,doc,pm,an,cdv,ct,osl,rfl,l,c⟩,k⟩
noncomputable def lJ(K:Frag)(a:Addr)(ns:List Nat):Bool:=match K.lookup a with
 |some ⟨.type "tuple",none,.seq its _,_⟩=>its.toList.length == ns.length&&(its.toList.zip ns).all (fun p=>match p.1 with|.int i _=>i == (p.2:Int)|_=>false)
 |_=>false
theorem gj{K:Frag}{a:Addr}{ns:List Nat}(h:lJ K a ns=true)(hn:ns.length<=10):∀H,aJ K H a (ns.map fun(j:Nat)=>V.int (j:Int)):=by
 intro H
 unfold lJ at h
 split at h
 ·rename_i its n sl e
  rw[Bool.and_eq_true]at h
  obtain⟨h1,h2⟩:=h
  replace h1:=eq_of_beq h1
  have hz:its.size<=sizeLine:=by
   have z:its.toList.length=its.size:=by simp
   exact small (by omega)
  refine .inr ⟨_,its,n,e,rfl,rfl,hz,?_,rfl⟩
  clear hz e
  generalize its.toList=l at h1 h2
  clear hn
  induction l generalizing ns with
  |nil=>cases ns with
   |nil=>exact .nil
   |cons _ _=>simp at h1
  |cons v r ih =>
   cases ns with
   |nil=>simp at h1
   |cons m q =>
    rw[List.zip_cons_cons,List.all_cons,Bool.and_eq_true]at h2
    obtain⟨h3,h4⟩:=h2
    refine .cons ?_ (ih (by simpa using h1) h4)
    split at h3
    ·rename_i i t e'
     have:i=(m:Int):=eq_of_beq h3
     subst this
     exact⟨t,e'⟩
    ·cases h3
 ·cases h
theorem all_mk{l:OpenLaw}{w:World}{K:Frag}{h:Heap}{mg:Str->Option Value}{g1 g2 g3 g4 g5 g6 g7 g8 g9 g10 g11 g12 g13 g14 g15 g16 g17 g18 g19 g20 g21 g22 fa dP dM t0 t1 t2 t3 t4 t5 t6 t7 t8:Addr}{e1 e2 e3 e4 e5 e6 e7 e8 e9 e10 e11 e12 e13 e14 e15 e16 e17 e18 e19 e20 e21 e22:FuncData}{esP esM:Array DictEntry}{nP nM:Nat}(X:K.In h)(G:h.Ns mainGlobals mg)(hfa:mg "law"=some (.ref fa))
  (a1:nsIn K mainGlobals "right_in"=some (some (.ref g1)))
  (a2:nsIn K mainGlobals "bound"=some (some (.ref g2)))
  (a3:nsIn K mainGlobals "places"=some (some (.ref g3)))
  (a4:nsIn K mainGlobals "at_hand"=some (some (.ref g4)))
  (a5:nsIn K mainGlobals "_law_feed"=some (some (.ref g5)))
  (a6:nsIn K mainGlobals "_law_take"=some (some (.ref g6)))
  (a7:nsIn K mainGlobals "_law_names"=some (some (.ref g7)))
  (a8:nsIn K mainGlobals "_law_scene"=some (some (.ref g8)))
  (a9:nsIn K mainGlobals "_law_small"=some (some (.ref g9)))
  (a10:nsIn K mainGlobals "_law_near"=some (some (.ref g10)))
  (a11:nsIn K mainGlobals "_law_looked"=some (some (.ref g11)))
  (a12:nsIn K mainGlobals "_law_term"=some (some (.ref g12)))
  (a13:nsIn K mainGlobals "_law_program"=some (some (.ref g13)))
  (a14:nsIn K mainGlobals "_law_put"=some (some (.ref g14)))
  (a15:nsIn K mainGlobals "_law_put_in"=some (some (.ref g15)))
  (a16:nsIn K mainGlobals "_law_within"=some (some (.ref g16)))
  (a17:nsIn K mainGlobals "_law_fresh"=some (some (.ref g17)))
  (a18:nsIn K mainGlobals "_law_nearer"=some (some (.ref g18)))
  (a19:nsIn K mainGlobals "_law_hands"=some (some (.ref g19)))
  (a20:nsIn K mainGlobals "_law_many"=some (some (.ref g20)))
  (a21:nsIn K mainGlobals "_law_program_here"=some (some (.ref g21)))
  (a22:nsIn K mainGlobals "law"=some (some (.ref g22)))
  (F1:FnAt K "right_in" "right_in" dD g1 e1)
  (F2:FnAt K "bound" "bound" iw g2 e2)
  (F3:FnAt K "places" "places" eI g3 e3)
  (F4:FnAt K "at_hand" "at_hand" fH g4 e4)
  (F5:FnAt K "_law_feed" "_law_feed" kI g5 e5)
  (F6:FnAt K "_law_take" "_law_take" kJ g6 e6)
  (F7:FnAt K "_law_names" "_law_names" bH g7 e7)
  (F8:FnAt K "_law_scene" "_law_scene" cY g8 e8)
  (F9:FnAt K "_law_small" "_law_small" cZ g9 e9)
  (F10:FnAt K "_law_near" "_law_near" eJ g10 e10)
  (F11:FnAt K "_law_looked" "_law_looked" dF g11 e11)
  (F12:FnAt K "_law_term" "_law_term" dU g12 e12)
  (F13:FnAt K "_law_program" "_law_program" cK g13 e13)
  (F14:FnAt K "_law_put" "_law_put" fc g14 e14)
  (F15:FnAt K "_law_put_in" "_law_put_in" eK g15 e15)
  (F16:FnAt K "_law_within" "_law_within" eL g16 e16)
  (F17:FnAt K "_law_fresh" "_law_fresh" eB g17 e17)
  (F18:FnAt K "_law_nearer" "_law_nearer" eM g18 e18)
  (F19:FnAt K "_law_hands" "_law_hands" b9 g19 e19)
  (F20:FnAt K "_law_many" "_law_many" fJ g20 e20)
  (F21:FnAt K "_law_program_here" "_law_program_here" bI g21 e21)
  (F22:FnAt K "law" "law" gX g22 e22)
  (pP:nsIn K mainGlobals "PLACES"=some (some (.ref dP)))
  (lP:K.lookup dP=some {cls:=.type "dict",dict:=none,data:=.dict esP nP,slots:=#[]})
  (kP:y9 w esP.toList [("num",V.ref t0),("name",V.ref t1),("gap",V.ref t2),("op",V.ref t3),("more",V.ref t4),("first",V.ref t5),("others",V.ref t6),("long",V.ref t7),("if",V.ref t8)])
  (sP:(dP == sysModules)=false)
  (pM:nsIn K mainGlobals "PLACE_OF_MANY"=some (some (.ref dM)))
  (lM:K.lookup dM=some {cls:=.type "dict",dict:=none,data:=.dict esM nM,slots:=#[]})
  (kM:y9 w esM.toList kQ)
  (sM:(dM == sysModules)=false)
  (q0:lJ K t0 []=true)
  (q1:lJ K t1 []=true)
  (q2:lJ K t2 []=true)
  (q3:lJ K t3 [2,3]=true)
  (q4:lJ K t4 [1,2]=true)
  (q5:lJ K t5 [1]=true)
  (q6:lJ K t6 [1]=true)
  (q7:lJ K t7 [1]=true)
  (q8:lJ K t8 [1,2,3]=true)
  (z0:nsIn K mainGlobals "len"=some none)
  (z1:nsIn K mainGlobals "range"=some none)
  (z2:nsIn K mainGlobals "int"=some none)
  (z3:nsIn K mainGlobals "tuple"=some none)
  (z4:nsIn K mainGlobals "list"=some none)
  (z5:nsIn K mainGlobals "zip"=some none)
  (z6:nsIn K mainGlobals "dict"=some none)
  (z7:nsIn K mainGlobals "repr"=some none)
  (z8:nsIn K mainGlobals "all"=some none)
  (z9:nsIn K mainGlobals "max"=some none)
  (z10:nsIn K mainGlobals "sum"=some none)
  (z11:nsIn K mainGlobals "isinstance"=some none) :
  ∃fd:FuncData,(∀(s:Shared) (v:Value),BindsTo s fd ⟨[v],[]⟩ [("_law_script",v)])/\∀base:Heap,K.In base->base.Ns mainGlobals mg->cA l.prog w K mg base gv 19 fa fd ["_law_script"] (sE K):=by
 have e:=hfa.symm.trans (mg_of X G a22)
 cases e
 have B1:=F1.f.binds (ps:=["term"]) fun _ _ _ _ _ _=>wL fun _=>rfl
 have u1:=mg_of X G a1
 have B2:=F2.f.binds (ps:=["names","others"]) fun _ _ _ _ _ _=>jZ fun _ _=>rfl
 have u2:=mg_of X G a2
 have B3:=F3.f.binds (ps:=["params","term"]) fun _ _ _ _ _ _=>jZ fun _ _=>rfl
 have u3:=mg_of X G a3
 have B4:=F4.f.binds (ps:=["program","n"]) fun _ _ _ _ _ _=>jZ fun _ _=>rfl
 have u4:=mg_of X G a4
 have B5:=F5.f.binds (ps:=["_law_script","_law_k"]) fun _ _ _ _ _ _=>jZ fun _ _=>rfl
 have u5:=mg_of X G a5
 have B6:=F6.f.binds (ps:=["_law_feed_here","_law_many_here"]) fun _ _ _ _ _ _=>jZ fun _ _=>rfl
 have u6:=mg_of X G a6
 have B7:=F7.f.binds (ps:=["_law_feed_here","_law_many_here"]) fun _ _ _ _ _ _=>jZ fun _ _=>rfl
 have u7:=mg_of X G a7
 have B8:=F8.f.binds (ps:=["_law_feed_here","_law_most"]) fun _ _ _ _ _ _=>jZ fun _ _=>rfl
 have u8:=mg_of X G a8
 have B9:=F9.f.binds (ps:=["_law_feed_here","_law_scene_here","_law_around","_law_kind"]) fun _ _ _ _ _ _=>CW fun _ _ _ _=>rfl
 have u9:=mg_of X G a9
 have B10:=F10.f.binds (ps:=["_law_around","_law_more"]) fun _ _ _ _ _ _=>jZ fun _ _=>rfl
 have u10:=mg_of X G a10
 have B11:=F11.f.binds (ps:=["_law_feed_here","_law_scene_here","_law_around","_law_kind","_law_room","_law_form"]) fun _ _ _ _ _ _=>CZ fun _ _ _ _ _ _=>rfl
 have u11:=mg_of X G a11
 have B12:=F12.f.binds (ps:=["_law_feed_here","_law_scene_here","_law_around","_law_kind","_law_room"]) fun _ _ _ _ _ _=>CY fun _ _ _ _ _=>rfl
 have u12:=mg_of X G a12
 have B13:=F13.f.binds (ps:=["_law_feed_here","_law_scene_here","_law_room"]) fun _ _ _ _ _ _=>BU fun _ _ _=>rfl
 have u13:=mg_of X G a13
 have B14:=F14.f.binds (ps:=["_law_term_here","_law_put_here"]) fun _ _ _ _ _ _=>jZ fun _ _=>rfl
 have u14:=mg_of X G a14
 have B15:=F15.f.binds (ps:=["_law_program_here_here","_law_put_here"]) fun _ _ _ _ _ _=>jZ fun _ _=>rfl
 have u15:=mg_of X G a15
 have B16:=F16.f.binds (ps:=["_law_term_here"]) fun _ _ _ _ _ _=>wL fun _=>rfl
 have u16:=mg_of X G a16
 have B17:=F17.f.binds (ps:=["_law_feed_here","_law_many_here"]) fun _ _ _ _ _ _=>jZ fun _ _=>rfl
 have u17:=mg_of X G a17
 have B18:=F18.f.binds (ps:=["_law_around","_law_names_here"]) fun _ _ _ _ _ _=>jZ fun _ _=>rfl
 have u18:=mg_of X G a18
 have B19:=F19.f.binds (ps:=["_law_term_here","_law_around","_law_found"]) fun _ _ _ _ _ _=>BU fun _ _ _=>rfl
 have u19:=mg_of X G a19
 have B20:=F20.f.binds (ps:=["_law_term_here"]) fun _ _ _ _ _ _=>wL fun _=>rfl
 have u20:=mg_of X G a20
 have B21:=F21.f.binds (ps:=["_law_feed_here"]) fun _ _ _ _ _ _=>wL fun _=>rfl
 have u21:=mg_of X G a21
 have B22:=F22.f.binds (ps:=["_law_script"]) fun _ _ _ _ _ _=>wL fun _=>rfl
 have u22:=mg_of X G a22
 have z_len:=mg_none_of X G z0
 have z_range:=mg_none_of X G z1
 have z_int:=mg_none_of X G z2
 have z_tuple:=mg_none_of X G z3
 have z_list:=mg_none_of X G z4
 have z_zip:=mg_none_of X G z5
 have z_dict:=mg_none_of X G z6
 have z_repr:=mg_none_of X G z7
 have z_all:=mg_none_of X G z8
 have z_max:=mg_none_of X G z9
 have z_sum:=mg_none_of X G z10
 have z_isinstance:=mg_none_of X G z11
 have TB:Bu K w mg dP dM [("num",V.ref t0),("name",V.ref t1),("gap",V.ref t2),("op",V.ref t3),("more",V.ref t4),("first",V.ref t5),("others",V.ref t6),("long",V.ref t7),("if",V.ref t8)]:={
  mP:=mg_of X G pP,mM:=mg_of X G pM,kP:=⟨esP,nP,lP,kP,(show(["num","name","gap","op","more","first","others","long","if"]:List Str).Nodup by decide +kernel),sP⟩,kM:=⟨esM,nM,lM,kM,by decide +kernel,sM⟩,
  at_:=fun f ps hm=>by
   unfold placesOf at hm
   simp only[List.mem_cons,List.not_mem_nil,or_false,Prod.mk.injEq]at hm
   rcases hm with⟨rfl,rfl⟩|⟨rfl,rfl⟩|⟨rfl,rfl⟩|⟨rfl,rfl⟩|⟨rfl,rfl⟩|⟨rfl,rfl⟩|⟨rfl,rfl⟩|⟨rfl,rfl⟩|⟨rfl,rfl⟩
   ·exact⟨t0,rfl,gj q0 (by decide)⟩
   ·exact⟨t1,rfl,gj q1 (by decide)⟩
   ·exact⟨t2,rfl,gj q2 (by decide)⟩
   ·exact⟨t3,rfl,gj q3 (by decide)⟩
   ·exact⟨t4,rfl,gj q4 (by decide)⟩
   ·exact⟨t5,rfl,gj q5 (by decide)⟩
   ·exact⟨t6,rfl,gj q6 (by decide)⟩
   ·exact⟨t7,rfl,gj q7 (by decide)⟩
   ·exact⟨t8,rfl,gj q8 (by decide)⟩}
 obtain⟨od,kV,doc,pm,an,cdv,ct,osl,rfl,lk,cc⟩:=F22.ex
 refine⟨fnOf "law" "law" (iq gX) (bW gX) (aj gX) .none kV doc pm an cdv ct,fun s v=>.of_eq rfl,fun base _ _=>?_⟩
 have RI:cR l.prog w K mg base "right_in" 1 _ _ g1 e1:=⟨o8 F1.f TB,u1,F1.kp,B1⟩
 have BO:cR l.prog w K mg base "bound" 1 _ _ g2 e2:=⟨vA F2.f z_tuple,u2,F2.kp,B2⟩
 have PL:cR l.prog w K mg base "places" 2 _ _ g3 e3:=⟨tJ F3.f BO RI,u3,F3.kp,B3⟩
 have AH:cR l.prog w K mg base "at_hand" 3 _ _ g4 e4:=⟨qP F4.f PL,u4,F4.kp,B4⟩
 have FD:cR l.prog w K mg base "_law_feed" 1 _ _ g5 e5:=⟨xR F5.f z_len,u5,F5.kp,B5⟩
 have TK:cR l.prog w K mg base "_law_take" 1 _ _ g6 e6:=⟨xQ F6.f,u6,F6.kp,B6⟩
 have NM:cR l.prog w K mg base "_law_names" 2 _ _ g7 e7:=⟨vI F7.f TK z_range z_len z_int,u7,F7.kp,B7⟩
 have SN:cR l.prog w K mg base "_law_scene" 3 _ _ g8 e8:=⟨vK F8.f TK NM,u8,F8.kp,B8⟩
 have SM:cR l.prog w K mg base "_law_small" 3 _ _ g9 e9:=⟨m8 F9.f u9 B9 TK z_len z_list z_tuple 2,u9,F9.kp,B9⟩
 have NE:cR l.prog w K mg base "_law_near" 1 _ _ g10 e10:=⟨yc F10.f,u10,F10.kp,B10⟩
 have TE:cR l.prog w K mg base "_law_term" 16 _ _ g12 e12:=⟨qh F12.f F11.f u12 B12 u11 B11 TK NE SM z_len z_list z_tuple z_zip z_range 6,u12,F12.kp,B12⟩
 have PR:cR l.prog w K mg base "_law_program" 17 _ _ g13 e13:=⟨qQ (j:=16) (by decide) F13.f TK TE z_tuple,u13,F13.kp,B13⟩
 have PU:cR l.prog w K mg base "_law_put" 11 _ _ g14 e14:=⟨sF F14.f u14 B14 z_tuple z_isinstance 10,u14,F14.kp,B14⟩
 have PN:cR l.prog w K mg base "_law_put_in" 12 _ _ g15 e15:=⟨tU (j:=11) (n:=10) (by decide) F15.f PU z_tuple,u15,F15.kp,B15⟩
 have WI:cR l.prog w K mg base "_law_within" 1 _ _ g16 e16:=⟨tO F16.f z_list z_int,u16,F16.kp,B16⟩
 have FR:cR l.prog w K mg base "_law_fresh" 2 _ _ g17 e17:=⟨vL F17.f TK z_range,u17,F17.kp,B17⟩
 have NR:cR l.prog w K mg base "_law_nearer" 1 _ _ g18 e18:=⟨tM F18.f z_list,u18,F18.kp,B18⟩
 have HA:cR l.prog w K mg base "_law_hands" 11 _ _ g19 e19:=⟨mZ F19.f u19 B19 WI NR z_zip z_tuple 10,u19,F19.kp,B19⟩
 have MA:cR l.prog w K mg base "_law_many" 11 _ _ g20 e20:=⟨qg F20.f u20 B20 WI z_sum 10,u20,F20.kp,B20⟩
 have PH:cR l.prog w K mg base "_law_program_here" 18 _ _ g21 e21:=⟨jY (j:=17) (jm:=11) (ji:=12) (by decide) (by decide) (by decide) F21.f TK SN PR MA FR PN z_len z_max z_dict z_zip,u21,F21.kp,B21⟩
 exact AS (j:=18) (jh:=11) (by decide) (by decide) ⟨⟨_,od,kV,doc,pm,an,cdv,ct,osl,rfl,lk,cc⟩,F22.kp⟩ FD TK PH HA AH z_range z_repr z_max z_len z_all
theorem walk{l:PySem.W.OpenLaw}{q:Program}{loose:List Str}{XP:(Str->Option Value)->Heap->Prop}{YP:World->Heap->Prop}{d:DefRec}{K:Params->PySem.W.Frag}(hn:l.most=some 63)(hdf:d.params.defaults=[])
  (hY:∀(w:World) (h:Heap),YP w h->(K w.params).In h)
  (F:∀(w:World) (mg:Str->Option Value) (fa:Addr) (h:Heap),(K w.params).In h->h.Ns mainGlobals mg->mg d.name=some (.ref fa) ->
   ∃fd:FuncData,(∀(s:Shared) (u:Value),BindsTo s fd ⟨[u],[]⟩ [("_law_script",u)])/\∀base:Heap,(K w.params).In base->base.Ns mainGlobals mg->cA l.prog w (K w.params) mg base gv 19 fa fd ["_law_script"] (sE (K w.params))) :
  PySem.W.WalkO q loose XP YP l.row.toRowW d [] (fun f vs=>PySem.call f vs) :=
 L2.xx (n:=63) (k:=19) (x:="_law_script") (CX:=fun _=>gv) (sp:=fun w=>sE (K w.params)) hn (by decide) hdf ⟨rfl,by decide,by decide,rfl⟩ hY F (fun _ _ a ns hl _ hS=>⟨a,ns,rfl,hS,hl,fun _=>rfl⟩) fun _ _ _ _ _ z=>z
end G04
theorem PySem.W.Fast.tw9437884173158113785:True:=⟨⟩
theorem PySem.W.Fast.tw6214523799673287348:True:=⟨⟩
theorem PySem.W.Fast.tw1288567105882223620:True:=⟨⟩
theorem PySem.W.Fast.tw12060755588107519764:True:=⟨⟩
theorem PySem.W.Fast.tw4265324268781201849:True:=⟨⟩
theorem PySem.W.Fast.tw9003206946984639990:True:=⟨⟩
theorem PySem.W.Fast.tw17643243763206804700:True:=⟨⟩
theorem PySem.W.Fast.tw11298964241612103475:True:=⟨⟩
theorem PySem.W.Fast.tw14550766038459684917:True:=⟨⟩
theorem PySem.W.Fast.tw4152905790660918558:True:=⟨⟩
theorem PySem.W.Fast.tw11961877418182627214:True:=⟨⟩
theorem PySem.W.Fast.tw18335097623394794103:True:=⟨⟩
theorem PySem.W.Fast.tw10064395637659558306:True:=⟨⟩
theorem PySem.W.Fast.tw3663643629364599923:True:=⟨⟩
theorem PySem.W.Fast.tw17169342078273321243:True:=⟨⟩
theorem PySem.W.Fast.tw442317569242399550:True:=⟨⟩
theorem PySem.W.Fast.tw4754182295346296272:True:=⟨⟩
theorem PySem.W.Fast.tw9873553183801560367:True:=⟨⟩
theorem PySem.W.Fast.tw5670036603422181199:True:=⟨⟩
theorem PySem.W.Fast.tw2270723147952459340:True:=⟨⟩
theorem PySem.W.Fast.tw12183397282051039365:True:=⟨⟩
theorem PySem.W.Fast.tw6873550592460391113:True:=⟨⟩
theorem PySem.W.Fast.tw18192328815471193034:True:=⟨⟩
theorem PySem.W.Fast.tw4410964901721523443:True:=⟨⟩
theorem PySem.W.Fast.tw6051235557986889540:True:=⟨⟩
theorem PySem.W.Fast.tw16297377788215048122:True:=⟨⟩
theorem PySem.W.Fast.tw11063002271388834107:True:=⟨⟩
theorem PySem.W.Fast.tw4466351325058124740:True:=⟨⟩
theorem PySem.W.Fast.tw322051305040130103:True:=⟨⟩
theorem PySem.W.Fast.tw18222291361505245531:True:=⟨⟩
theorem PySem.W.Fast.tw9582270551422488729:True:=⟨⟩
theorem PySem.W.Fast.tw6404920113316864910:True:=⟨⟩
theorem PySem.W.Fast.tw16427843333304259218:True:=⟨⟩
theorem PySem.W.Fast.tw8462102564788877733:True:=⟨⟩
theorem PySem.W.Fast.tw1646816330631827925:True:=⟨⟩
open PySem PySem.W PyProof.Rows
set_option maxRecDepth 100000 in
set_option maxHeartbeats 0 in
theorem PySem.Challenge.cw_gapwork_k04_names_at_hand_holds : PySem.Challenge.rw_gapwork_k04_names_at_hand.Holds := by
  w_on; o_law; k_head; (case hw => w_witness2)
  k_fill
  refine G04.walk (l := PySem.Challenge.rw_gapwork_k04_names_at_hand) rfl rfl (fun w h Y => PySem.W.kIn_of Y) ?F
  case F =>
    intro w mg fa h KX G hmg
    refine' G04.all_mk KX G hmg ?a1 ?a2 ?a3 ?a4 ?a5 ?a6 ?a7 ?a8 ?a9 ?a10 ?a11 ?a12 ?a13 ?a14 ?a15 ?a16 ?a17 ?a18 ?a19 ?a20 ?a21 ?a22 ?F1 ?F2 ?F3 ?F4 ?F5 ?F6 ?F7 ?F8 ?F9 ?F10 ?F11 ?F12 ?F13 ?F14 ?F15 ?F16 ?F17 ?F18 ?F19 ?F20 ?F21 ?F22 ?pP ?lP ?kP ?sP ?pM ?lM ?kM ?sM ?q0 ?q1 ?q2 ?q3 ?q4 ?q5 ?q6 ?q7 ?q8 ?z0 ?z1 ?z2 ?z3 ?z4 ?z5 ?z6 ?z7 ?z8 ?z9 ?z10 ?z11
    (case a1 => k_is)
    (case a2 => k_is)
    (case a3 => k_is)
    (case a4 => k_is)
    (case a5 => k_is)
    (case a6 => k_is)
    (case a7 => k_is)
    (case a8 => k_is)
    (case a9 => k_is)
    (case a10 => k_is)
    (case a11 => k_is)
    (case a12 => k_is)
    (case a13 => k_is)
    (case a14 => k_is)
    (case a15 => k_is)
    (case a16 => k_is)
    (case a17 => k_is)
    (case a18 => k_is)
    (case a19 => k_is)
    (case a20 => k_is)
    (case a21 => k_is)
    (case a22 => k_is)
    (case F1 => exact G04.bD (by k_is) (by k_is) (by k_is))
    (case F2 => exact G04.bD (by k_is) (by k_is) (by k_is))
    (case F3 => exact G04.bD (by k_is) (by k_is) (by k_is))
    (case F4 => exact G04.bD (by k_is) (by k_is) (by k_is))
    (case F5 => exact G04.bD (by k_is) (by k_is) (by k_is))
    (case F6 => exact G04.bD (by k_is) (by k_is) (by k_is))
    (case F7 => exact G04.bD (by k_is) (by k_is) (by k_is))
    (case F8 => exact G04.bD (by k_is) (by k_is) (by k_is))
    (case F9 => exact G04.bD (by k_is) (by k_is) (by k_is))
    (case F10 => exact G04.bD (by k_is) (by k_is) (by k_is))
    (case F11 => exact G04.bD (by k_is) (by k_is) (by k_is))
    (case F12 => exact G04.bD (by k_is) (by k_is) (by k_is))
    (case F13 => exact G04.bD (by k_is) (by k_is) (by k_is))
    (case F14 => exact G04.bD (by k_is) (by k_is) (by k_is))
    (case F15 => exact G04.bD (by k_is) (by k_is) (by k_is))
    (case F16 => exact G04.bD (by k_is) (by k_is) (by k_is))
    (case F17 => exact G04.bD (by k_is) (by k_is) (by k_is))
    (case F18 => exact G04.bD (by k_is) (by k_is) (by k_is))
    (case F19 => exact G04.bD (by k_is) (by k_is) (by k_is))
    (case F20 => exact G04.bD (by k_is) (by k_is) (by k_is))
    (case F21 => exact G04.bD (by k_is) (by k_is) (by k_is))
    (case F22 => exact G04.bD (by k_is) (by k_is) (by k_is))
    (case pP => k_is)
    (case lP => k_is)
    (case kP => exact ⟨_, _, _, rfl, ⟨_, rfl⟩, rfl, rfl, ⟨_, _, _, rfl, ⟨_, rfl⟩, rfl, rfl, ⟨_, _, _, rfl, ⟨_, rfl⟩, rfl, rfl, ⟨_, _, _, rfl, ⟨_, rfl⟩, rfl, rfl, ⟨_, _, _, rfl, ⟨_, rfl⟩, rfl, rfl, ⟨_, _, _, rfl, ⟨_, rfl⟩, rfl, rfl, ⟨_, _, _, rfl, ⟨_, rfl⟩, rfl, rfl, ⟨_, _, _, rfl, ⟨_, rfl⟩, rfl, rfl, ⟨_, _, _, rfl, ⟨_, rfl⟩, rfl, rfl, rfl⟩⟩⟩⟩⟩⟩⟩⟩⟩)
    (case sP => kernel_rfl)
    (case pM => k_is)
    (case lM => k_is)
    (case kM => exact ⟨_, _, _, rfl, ⟨_, rfl⟩, rfl, ⟨_, rfl⟩, ⟨_, _, _, rfl, ⟨_, rfl⟩, rfl, ⟨_, rfl⟩, ⟨_, _, _, rfl, ⟨_, rfl⟩, rfl, ⟨_, rfl⟩, rfl⟩⟩⟩)
    (case sM => kernel_rfl)
    (case q0 => kernel_rfl)
    (case q1 => kernel_rfl)
    (case q2 => kernel_rfl)
    (case q3 => kernel_rfl)
    (case q4 => kernel_rfl)
    (case q5 => kernel_rfl)
    (case q6 => kernel_rfl)
    (case q7 => kernel_rfl)
    (case q8 => kernel_rfl)
    (case z0 => k_is)
    (case z1 => k_is)
    (case z2 => k_is)
    (case z3 => k_is)
    (case z4 => k_is)
    (case z5 => k_is)
    (case z6 => k_is)
    (case z7 => k_is)
    (case z8 => k_is)
    (case z9 => k_is)
    (case z10 => k_is)
    (case z11 => k_is)
#print axioms PySem.Challenge.cw_gapwork_k04_names_at_hand_holds
