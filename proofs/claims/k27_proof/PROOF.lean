import PyProof.Rows.All
import Wide.All
import OpenK.AllK
import Wide.FinOn
import PyProof.EqAt
import PyProof.EqKinds
import PyProof.NeKinds
import PyProof.TupleCall
import PyProof.StrLawsRepr
import KE.KIsAll
import KE.KItem
import KE.KDictOf
import KE.KBytesAny
import Lean
import PySem.Challenge.RW_gapwork_k27_single_doings
set_option Elab.async false
set_option linter.all false
set_option maxRecDepth 100000
namespace L2
open PySem PySem.Spec PyProof.Rows
noncomputable abbrev Key:=Sum Int Str
noncomputable def qA:Key->Value->Bool
 |.inl k,v=>Value.isInt k v
 |.inr x,v=>Value.isStrOf x v
noncomputable def IB(w:World):Key->Int
 |.inl k=>hashInt k
 |.inr x=>hashStr w x
theorem cK:∀{k:Key}{v:Value},qA k v=true->(∃i t,k=Sum.inl i/\v=Value.int i t)\/(∃x t,k=Sum.inr x/\v=Value.str x t)
 |.inl i,v,h=>by
  obtain⟨t,e⟩:=Value.isInt_shape (k:=i) (v:=v) h
  exact .inl ⟨i,t,rfl,e⟩
 |.inr x,v,h=>by
  obtain⟨t,e⟩:=Value.isStrOf_shape (x:=x) (v:=v) h
  exact .inr ⟨x,t,rfl,e⟩
theorem yH(i:Int)(t:Tok):qA (.inl i) (.int i t)=true:=by simp[qA,Value.isInt]
theorem yI(x:Str)(t:Tok):qA (.inr x) (.str x t)=true:=by simp[qA,Value.isStrOf]
theorem Ew(a b:Int):decide ((Sum.inl a:Key)=Sum.inl b)=(a == b):=by
 by_cases e:a=b
 ·subst e;simp
 ·have h:¬(Sum.inl a:Key)=Sum.inl b:=fun q=>e (Sum.inl.inj q)
  rw[decide_eq_false h]
  exact(beq_eq_false_iff_ne.mpr e).symm
theorem Ey(a b:Str):decide ((Sum.inr a:Key)=Sum.inr b)=decide (a=b):=by
 by_cases e:a=b
 ·subst e;simp
 ·have h:¬(Sum.inr a:Key)=Sum.inr b:=fun q=>e (Sum.inr.inj q)
  rw[decide_eq_false h,decide_eq_false e]
theorem Ez(a:Int)(b:Str):decide ((Sum.inl a:Key)=Sum.inr b)=false:=decide_eq_false (fun q=>nomatch q)
theorem EA(a:Str)(b:Int):decide ((Sum.inr a:Key)=Sum.inl b)=false:=decide_eq_false (fun q=>nomatch q)
noncomputable def bx(prog:Program)(w:World):PySem.KeyKind prog w Key where
 is:=qA
 hash:=IB w
 inj:=fun v a b ha hb=>by
  rcases cK ha with⟨i,t,rfl,rfl⟩|⟨x,t,rfl,rfl⟩
  ·rcases cK hb with⟨j,u,rfl,e⟩|⟨y,u,rfl,e⟩
   ·injection e with e1 _;rw[e1]
   ·exact nomatch e
  ·rcases cK hb with⟨j,u,rfl,e⟩|⟨y,u,rfl,e⟩
   ·exact nomatch e
   ·injection e with e1 _;rw[e1]
 byValue:=fun k v h=>by
  rcases cK h with⟨i,t,rfl,rfl⟩|⟨x,t,rfl,rfl⟩<;>rfl
 pyHash:=fun hv h=>by
  rcases cK hv with⟨i,t,rfl,rfl⟩|⟨x,t,rfl,rfl⟩
  ·exact wpAny_pyHash_int h
  ·exact wpAny_pyHash_str h
 eqBool:=fun hu hv h=>by
  rcases cK hu with⟨i,t,rfl,rfl⟩|⟨x,t,rfl,rfl⟩
  ·rcases cK hv with⟨j,u,rfl,rfl⟩|⟨y,u,rfl,rfl⟩
   ·rw[Ew]at h;exact wpAny_eqBool_int h
   ·rw[Ez]at h;exact SeqAt.EqAt.int_str i t y u _ _ _ _ h
  ·rcases cK hv with⟨j,u,rfl,rfl⟩|⟨y,u,rfl,rfl⟩
   ·rw[EA]at h;exact SeqAt.EqAt.str_int x t j u _ _ _ _ h
   ·rw[Ey]at h;exact wpAny_eqBool_str h
 «strs»:=fun k x t v h=>by
  rcases cK h with⟨i,u,rfl,e⟩|⟨y,u,rfl,e⟩
  ·exact nomatch e
  ·injection e with e1 _
   subst e1
   cases v<;>rfl
theorem tZ(prog:Program)(w:World)(i:Int)(t:Tok):(bx prog w).is (.inl i) (.int i t)=true:=yH i t
theorem ud(prog:Program)(w:World)(x:Str)(t:Tok):(bx prog w).is (.inr x) (.str x t)=true:=yI x t
inductive V where
 |eW|bl (b:Bool)|int (i:Int)|str (x:Str)|byt (b:Array UInt8)|flt (b:UInt64)|ref (a:Addr)|ty (n:String)
 deriving DecidableEq
noncomputable def RelV:V->Value->Prop
 |.eW,u=>u=Value.none
 |.bl b,u=>u=Value.bool b
 |.int i,u=>∃t,u=Value.int i t
 |.str x,u=>∃t,u=Value.str x t
 |.byt b,u=>∃t,u=Value.bytes b t
 |.flt b,u=>∃t,u=Value.float b t
 |.ref a,u=>u=Value.ref a
 |.ty n,u=>u=Value.type n
noncomputable abbrev Vals:List V->List Value->Prop:=Paired RelV
theorem Vals.length{xs:List V}{us:List Value}(r:Vals xs us):xs.length=us.length:=Paired.length r
theorem Vals.get:∀{xs:List V}{us:List Value}{i:Nat}{x:V},Vals xs us->xs[i]?=some x->∃u,us[i]?=some u/\RelV x u
 |_,_,_,_,.nil,e=>by simp at e
 |_,_,0,_,.cons r _,e=>by simp at e;subst e;exact⟨_,rfl,r⟩
 |_,_,i+1,x,.cons _ t,e=>by
  obtain⟨u,h1,h2⟩:=Vals.get (i:=i) (x:=x) t (by simpa using e)
  exact⟨u,by simpa using h1,h2⟩
theorem Vals.set{x:V}{u:Value}(r:RelV x u):∀{xs:List V}{us:List Value}(i:Nat),Vals xs us->Vals (xs.set i x) (us.set i u)
 |_,_,_,.nil=>.nil
 |_,_,0,.cons _ t=>.cons r t
 |_,_,i+1,.cons q t=>.cons q (Vals.set r i t)
theorem Vals.append:∀{xs ys:List V}{us ws:List Value},Vals xs us->Vals ys ws->Vals (xs++ys) (us++ws)
 |_,_,_,_,.nil,s=>s
 |_,_,_,_,.cons r t,s=>.cons r (Vals.append t s)
theorem Vals.take:∀{xs:List V}{us:List Value}(n:Nat),Vals xs us->Vals (xs.take n) (us.take n)
 |_,_,0,_=>.nil
 |_,_,_+1,.nil=>.nil
 |_,_,n+1,.cons r t=>.cons r (Vals.take n t)
theorem Vals.drop:∀{xs:List V}{us:List Value}(n:Nat),Vals xs us->Vals (xs.drop n) (us.drop n)
 |_,_,0,r=>r
 |_,_,_+1,.nil=>.nil
 |_,_,n+1,.cons _ t=>Vals.drop n t
theorem Vals.none_of:∀{xs:List V}{us:List Value}{i:Nat},Vals xs us->xs[i]?=none->us[i]?=none:=fun{xs us i} r e=>by
 have h1:=r.length
 have h2:xs.length<=i:=List.getElem?_eq_none_iff.mp e
 exact List.getElem?_eq_none_iff.mpr (by omega)
noncomputable def iX:Option V->Option Value->Prop
 |some v,some u=>RelV v u
 |none,none=>True
 |_,_=>False
noncomputable def KV{κ:Type}:List (κ×V)->List (κ×Value)->Prop:=Paired fun(p:κ×V) (q:κ×Value)=>p.1=q.1/\RelV p.2 q.2
noncomputable def kV:Key->V
 |.inl i=>.int i
 |.inr x=>.str x
inductive HO where
 /-- a list -/
 |lst (xs:List V)
 /-- a tuple (never changes) -/
 |tup (xs:List V)
 /-- a dict whose keys are ints and texts;one whose keys are tuples of ints and texts (the empty one is both) -/
 |dK (kvs:List (Key×V))|dT (kvs:List (List Key×V))
 /-- a set of ints: its members,its size -/
 |set (S:Int->Bool) (n:Nat)
 /-- an instance of the class at C,its dict at dx,its attributes -/
 |ins (C dx:Addr) (fs:List (Str×V))
 /-- the dict of the instance at x -/
 |own (x:Addr)
 /-- the dict of an exception -/
 |xd (fs:List (Str×V))
 /-- a bound method,f of x -/
 |met (f x:Addr)
 /-- a range object lo,lo+1,.. below hi -/
 |rng (lo hi:Int)
 /-- a thing that is known to the object (the script;a dict while a loop walks it): read,never written while it is so -/
 |frz (o:Obj) (u:HO)
 /-- a code object's table -/
 |tbl (ps:Array Value)
 /-- any other thing,by what is true of its one object (a def of one's own: SetO a S n:=HO.ext fun h=>..) -/
 |ext (φ:Heap->Prop)
noncomputable abbrev Hp:=Addr->Option HO
noncomputable def upd(H:Hp)(a:Addr)(o:HO):Hp:=fun b=>if b=a then some o else H b
theorem ah{H:Hp}{a:Addr}{o:HO}:upd H a o a=some o:=by unfold upd;rw[if_pos rfl]
theorem au{H:Hp}{a b:Addr}{o:HO}(h:b≠a):upd H a o b=H b:=by unfold upd;rw[if_neg h]
theorem Cz{H:Hp}{a:Addr}{o u:HO}:upd (upd H a o) a u=upd H a u:=by
 funext b;unfold upd;split<;>rfl
theorem cF{H:Hp}{a b:Addr}{o u:HO}(h:H a=some o)(h':H b=some u)(d:o≠u):a≠b:=by
 intro e;subst e;rw[h]at h';exact d (Option.some.inj h')
theorem aF{H:Hp}{a b:Addr}{o:HO}(h:H a=some o)(h':H b=none):a≠b:=by
 intro e;subst e;rw[h]at h';cases h'
section
variable (P:Program) (w:World)
noncomputable def Ju(h:Heap)(a:Addr):Prop:=∃o,h.get? a=some o/\o.dict=none
noncomputable def di(H:Hp)(h:Heap)(a:Addr):HO->Prop
 |.lst xs=>xs.length<=sizeLine/\∃(its:List Value) (n:Nat),Vals xs its/\h.get? a=some {cls:=.type "list",data:=.seq its.toArray n}
 |.tup xs=>xs.length<=sizeLine/\∃its:List Value,Vals xs its/\IsTup h a its.toArray/\Ju h a
 |.dK kvs=>kvs.length<=sizeLine/\(a == sysModules)=false/\∃vs,KV kvs vs/\h.DictOf (bx P w) a vs
 |.dT kvs=>kvs.length<=sizeLine/\(a == sysModules)=false/\∃xs:List (List Key×Addr×Value),
   Paired (fun(p:List Key×V) (q:List Key×Addr×Value)=>p.1=q.1/\H q.2.1=some (.tup (p.1.map kV))/\RelV p.2 q.2.2) kvs xs /\
   ∃o es ep,h.get? a=some o/\o.ExactDict/\o.data=.dict es ep/\es.toList=xs.map (entryOfKey (tupleKind (bx P w)))/\(xs.map (·.1)).Nodup
 |.set S n=>h.SetOf (intKind P w) a S n
 |.ins C dx fs=>H dx=some (.own a)/\fs.length<=1000/\dx≠a/\h.get? a=some (PySem.W.instObj C dx) /\
   ∃mA,h.Ns1 dx mA/\(∀f,iX (fs.lookup f) (mA f))/\PySem.Within mA (fs.map (·.1))
 |.own _=>∃o,h.get? a=some o
 |.xd fs=>∃mA,h.Ns1 a mA/\∀f,iX (fs.lookup f) (mA f)
 |.rng lo hi=>∃t u v,h.get? a=some {cls:=.type "range",data:=.fields #[.int lo t,.int hi u,.int 1 v]}
 |.frz o u=>h.get? a=some o/\di H h a u
 |.tbl ps=>h.get? a=some {cls:=.none,data:=.fields ps}
 |.met f x=>h.get? a=some (PySem.W.methodObj (.ref f) (.ref x))
 |.ext φ=>φ h/\(∃o,h.get? a=some o)/\∀h1 h2:Heap,φ h1->(∀o,h1.get? a=some o->h2.get? a=some o)->φ h2
noncomputable def kK(H:Hp)(h:Heap):Prop:=∀a o,H a=some o->di P w H h a o
end
section
variable {P:Program}{w:World}{H H':Hp}{h h':Heap}{a:Addr}{o:HO}
theorem di.lt(x:di P w H h a o):a<h.objs.size:=by
 cases o with
 |lst xs=>obtain⟨_,_,_,_,e⟩:=x;exact Heap.lt_size e
 |tup xs=>obtain⟨_,_,_,p,_⟩:=x;exact p.lt
 |dK kvs=>obtain⟨_,_,_,_,o,_,_,e,_⟩:=x;exact Heap.lt_size e
 |dT kvs=>obtain⟨_,_,_,_,o,_,_,e,_⟩:=x;exact Heap.lt_size e
 |set S n=>obtain⟨o,_,_,_,e,_⟩:=x;exact Heap.lt_size e
 |ins C dx fs=>obtain⟨_,_,_,e,_⟩:=x;exact Heap.lt_size e
 |own y=>obtain⟨_,e⟩:=x;exact Heap.lt_size e
 |xd fs=>obtain⟨_,⟨_,_,_,e,_⟩,_⟩:=x;exact Heap.lt_size e
 |rng lo hi=>obtain⟨_,_,_,e⟩:=x;exact Heap.lt_size e
 |frz ob u=>obtain⟨e,_⟩:=x;exact Heap.lt_size e
 |tbl ps=>exact Heap.lt_size (show h.get? a=some _ from x)
 |met f y=>exact Heap.lt_size (show h.get? a=some _ from x)
 |ext φ=>obtain⟨_,⟨_,e⟩,_⟩:=x;exact Heap.lt_size e
theorem Paired.EB{α β:Type}{F G:α->β->Prop}:∀{l₁:List α}{l₂:List β},Paired F l₁ l₂->(∀a b,F a b->G a b)->Paired G l₁ l₂
 |_,_,.nil,_=>.nil
 |_,_,.cons r t,f=>.cons (f _ _ r) (Paired.EB t f)
theorem di.stay(x:di P w H h a o)(k:∀b u,(b=a\/H b=some (.own a))->h.get? b=some u->h'.get? b=some u)
  (ho:∀b,H b=some (.own a)->H' b=some (.own a)) (ht:∀b xs,H b=some (.tup xs)->H' b=some (.tup xs)):di P w H' h' a o:=by
 induction o with
 |lst xs=>obtain⟨z,its,n,r,e⟩:=x;exact⟨z,its,n,r,k _ _ (.inl rfl) e⟩
 |tup xs=>obtain⟨z,its,r,⟨ob,e,c⟩,o2,e2,d2⟩:=x;exact⟨z,its,r,⟨ob,k _ _ (.inl rfl) e,c⟩,o2,k _ _ (.inl rfl) e2,d2⟩
 |dK kvs=>obtain⟨z,y,vs,r,ob,es,ep,e,c⟩:=x;exact⟨z,y,vs,r,ob,es,ep,k _ _ (.inl rfl) e,c⟩
 |dT kvs =>
  obtain⟨z,y,xs,r,ob,es,ep,e,c⟩:=x
  exact⟨z,y,xs,Paired.EB r fun p q z=>⟨z.1,ht _ _ z.2.1,z.2.2⟩,ob,es,ep,k _ _ (.inl rfl) e,c⟩
 |set S n=>obtain⟨ob,es,ep,t,e,c⟩:=x;exact⟨ob,es,ep,t,k _ _ (.inl rfl) e,c⟩
 |ins C dx fs =>
  obtain⟨d,z,ne,e,mA,⟨od,es,ep,e2,c⟩,r⟩:=x
  exact⟨ho _ d,z,ne,k _ _ (.inl rfl) e,mA,⟨od,es,ep,k _ _ (.inr d) e2,c⟩,r⟩
 |own y=>obtain⟨ob,e⟩:=x;exact⟨ob,k _ _ (.inl rfl) e⟩
 |xd fs=>obtain⟨mA,⟨od,es,ep,e,c⟩,r⟩:=x;exact⟨mA,⟨od,es,ep,k _ _ (.inl rfl) e,c⟩,r⟩
 |rng lo hi=>obtain⟨t,u,v,e⟩:=x;exact⟨t,u,v,k _ _ (.inl rfl) e⟩
 |frz ob u ih=>obtain⟨e,q⟩:=x;exact⟨k _ _ (.inl rfl) e,ih q⟩
 |tbl ps =>
  have e:h.get? a=some {cls:=.none,data:=.fields ps}:=x
  show h'.get? a=some {cls:=.none,data:=.fields ps}
  exact k a _ (.inl rfl) e
 |met f y =>
  have e:h.get? a=some (PySem.W.methodObj (.ref f) (.ref y)):=x
  show h'.get? a=some (PySem.W.methodObj (.ref f) (.ref y))
  exact k a _ (.inl rfl) e
 |ext φ=>obtain⟨p,⟨o,e⟩,st⟩:=x;exact⟨st _ _ p fun o q=>k _ _ (.inl rfl) q,⟨o,k _ _ (.inl rfl) e⟩,st⟩
theorem kK.lt(x:kK P w H h)(e:H a=some o):a<h.objs.size:=(x a o e).lt
theorem kK.fresh(x:kK P w H h)(e:h.objs.size<=a):H a=none:=by
 cases q:H a with
 |none=>rfl
 |some u=>exact absurd (Nat.lt_of_lt_of_le (x.lt q) e) (Nat.lt_irrefl _)
theorem kK.kept(x:kK P w H h)(k:∀b u,h.get? b=some u->h'.get? b=some u):kK P w H h':=fun a o e =>
 (x a o e).stay (fun b u _ q=>k b u q) (fun _ q=>q) fun _ _ q=>q
theorem kK.laid(x:kK P w H h)(k:∀b u,h.get? b=some u->h'.get? b=some u)(hp:h.objs.size<=a)(new:di P w (upd H a o) h' a o):kK P w (upd H a o) h':=fun b u e=>by
 have hn:=x.fresh hp
 by_cases hb:b=a
 ·subst hb;rw[ah]at e;cases e;exact new
 ·rw[au hb]at e
  exact(x b u e).stay (fun c v _ q=>k c v q) (fun c q=>by rw[au (aF q hn)];exact q) fun c xs q=>by rw[au (aF q hn)];exact q
end
noncomputable def Rd(H:Hp)(a:Addr)(u:HO):Prop:=H a=some u\/∃o,H a=some (.frz o u)
theorem Rd.ok{P:Program}{w:World}{H:Hp}{h:Heap}{a:Addr}{u:HO}(r:Rd H a u)(x:kK P w H h):di P w H h a u:=by
 rcases r with r|⟨o,r⟩
 ·exact x a u r
 ·obtain⟨_,q⟩:=x a _ r
  exact q
noncomputable def Gy:Option HO->Prop
 |some (.lst _)=>True
 |some (.dK _)=>True
 |some (.dT _)=>True
 |some (.set _ _)=>True
 |some (.ins _ _ _)=>True
 |some (.ext _)=>True
 |_=>False
section
variable {P:Program}{w:World}{H:Hp}{h h':Heap}{x e:Addr}{o':HO}
theorem kK.write(ok:kK P w H h)(mu:Gy (H x))(he:e=x\/H e=some (.own x))(k:∀b u,b≠e->h.get? b=some u->h'.get? b=some u)(heo:∃u,h'.get? e=some u)
  (new:di P w (upd H x o') h' x o'):kK P w (upd H x o') h':=fun b u q=>by
 have nown:∀c y,H c=some (.own y)->c≠x:=fun c y r z=>by subst z;rw[r]at mu;exact mu
 have ntup:∀c xs,H c=some (.tup xs)->c≠x:=fun c xs r z=>by subst z;rw[r]at mu;exact mu
 by_cases hb:b=x
 ·subst hb;rw[ah]at q;cases q;exact new
 ·rw[au hb]at q
  by_cases hbe:b=e
  ·have q':H b=some (.own x):=by
    rcases he with z|z
    ·exact absurd (hbe.trans z) hb
    ·rw[hbe];exact z
   rw[q]at q';cases q'
   obtain⟨v,hv⟩:=heo
   exact⟨v,by rw[hbe];exact hv⟩
  ·refine(ok b u q).stay (fun c v hc r=>k c v ?_ r) (fun c r=>by rw[au (nown c b r)];exact r) fun c xs r=>by rw[au (ntup c xs r)];exact r
   rcases hc with rfl|hc
   ·exact hbe
   ·rintro rfl
    rcases he with z|z
    ·exact nown c b hc z
    ·rw[hc]at z;cases z;exact hb rfl
end
structure Un(fs ex:List Addr) (H H':Hp) (h h':Heap):Prop where
 keep:∀b o,h.get? b=some o->H b=none->b∉fs->b∉ex->h'.get? b=some o
 slot:∀b o,h.get? b=some o->H b=none->b∈fs->b∉ex->∃sl,h'.get? b=some {o with slots:=sl}
 free:∀b o,h.get? b=some o->H b=none->b∉ex->H' b=none
 there:∀b o,h.get? b=some o->b∉ex->∃o',h'.get? b=some o'
 tups:∀b xs,H b=some (.tup xs)->H' b=some (.tup xs)
 frzs:∀b o u,H b=some (.frz o u)->H' b=some (.frz o u)
 tbls:∀b ps,H b=some (.tbl ps)->∃more,H' b=some (.tbl (ps++more))
section
variable {fs fs' ex ex':List Addr}{H H1 H2:Hp}{h h1 h2 h':Heap}{a x e:Addr}{o:HO}
theorem Un.any(u:Un fs ex H H1 h h1){b:Addr}{ob:Obj}(q:h.get? b=some ob)(n:H b=none)(hx:b∉ex):∃sl,h1.get? b=some {ob with slots:=sl}:=by
 by_cases hb:b∈fs
 ·exact u.slot b ob q n hb hx
 ·exact⟨ob.slots,u.keep b ob q n hb hx⟩
theorem Un.trans(a:Un fs ex H H1 h h1)(b:Un fs ex H1 H2 h1 h2):Un fs ex H H2 h h2 where
 keep:=fun c ob q n hc hx=>b.keep c ob (a.keep c ob q n hc hx) (a.free c ob q n hx) hc hx
 slot:=fun c ob q n hc hx=>by
  obtain⟨sl,e1⟩:=a.slot c ob q n hc hx
  obtain⟨sl',e2⟩:=b.slot c _ e1 (a.free c ob q n hx) hc hx
  exact⟨sl',e2⟩
 free:=fun c ob q n hx=>by
  obtain⟨o',e1⟩:=a.there c ob q hx
  exact b.free c o' e1 (a.free c ob q n hx) hx
 there:=fun c ob q hx=>by
  obtain⟨o',e1⟩:=a.there c ob q hx
  exact b.there c o' e1 hx
 tups:=fun c xs q=>b.tups c xs (a.tups c xs q)
 frzs:=fun c ob xs q=>b.frzs c ob xs (a.frzs c ob xs q)
 tbls:=fun c ps q=>by
  obtain⟨m1,e1⟩:=a.tbls c ps q
  obtain⟨m2,e2⟩:=b.tbls c _ e1
  exact⟨m1++m2,by rw[e2,Array.append_assoc]⟩
theorem Un.kept(k:∀b u,h.get? b=some u->h'.get? b=some u):Un fs ex H H h h' :=
 ⟨fun b ob q _ _ _=>k b ob q,fun b ob q _ _ _=>⟨ob.slots,k b ob q⟩,fun _ _ _ n _=>n,fun b ob q _=>⟨ob,k b ob q⟩,fun _ _ q=>q,fun _ _ _ q=>q,fun _ ps q=>⟨#[],by rw[q];simp⟩⟩
theorem Un.refl:Un fs ex H H h h:=Un.kept fun _ _ q=>q
theorem Un.laid(k:∀b u,h.get? b=some u->h'.get? b=some u)(hp:h.objs.size<=a)(hn:H a=none):Un fs ex H (upd H a o) h h' where
 keep:=fun b u q _ _ _=>k b u q
 slot:=fun b u q _ _ _=>⟨u.slots,k b u q⟩
 free:=fun b u q n _=>by rw[au (Nat.ne_of_lt (Nat.lt_of_lt_of_le (Heap.lt_size q) hp))];exact n
 there:=fun b u q _=>⟨u,k b u q⟩
 tups:=fun b xs q=>by rw[au (aF q hn)];exact q
 frzs:=fun b u xs q=>by rw[au (aF q hn)];exact q
 tbls:=fun b ps q=>⟨#[],by rw[au (aF q hn),q];simp⟩
theorem Un.write(mu:Gy (H x))(he:e=x\/H e=some (.own x))(k:∀b u,b≠e->h.get? b=some u->h'.get? b=some u)(heo:∃u,h'.get? e=some u):Un fs ex H (upd H x o) h h':=by
 have hx:∀b,H b=none->b≠x:=fun b n z=>by subst z;rw[n]at mu;exact mu
 have hb:∀b,H b=none->b≠e:=fun b n z=>by
  subst z
  rcases he with r|r
  ·exact hx b n r
  ·rw[n]at r;cases r
 have hm:∀b u,H b=some u->¬Gy (some u)->b≠x:=fun b u q nm z=>by subst z;rw[q]at mu;exact nm mu
 refine⟨fun b u q n _ _=>k b u (hb b n) q,fun b u q n _ _=>⟨u.slots,k b u (hb b n) q⟩,fun b u q n _=>by rw[au (hx b n)];exact n,fun b u q _=>?_,
  fun b xs q=>by rw[au (hm b _ q fun z=>z)];exact q,fun b u xs q=>by rw[au (hm b _ q fun z=>z)];exact q,fun b ps q=>⟨#[],by rw[au (hm b _ q fun z=>z),q];simp⟩⟩
 by_cases hbe:b=e
 ·subst hbe;exact heo
 ·exact⟨u,k b u hbe q⟩
end
noncomputable def Ii(h:Heap)(H:Hp):List Addr:=(List.range h.objs.size).filter fun a=>(H a).isSome
noncomputable def rO(h:Heap)(H:Hp):Heap:=PySem.W.hideAll h (Ii h H)
theorem yJ(h:Heap)(H:Hp):(rO h H).objs.size=h.objs.size:=PySem.W.hideAll_size _ _
theorem zW{h:Heap}{H:Hp}{b:Addr}{o:Obj}(e:h.get? b=some o)(n:H b=none):(rO h H).get? b=some o :=
 PySem.W.hideAll_get _ e fun hm=>by
  have q:(H b).isSome=true:=(List.mem_filter.mp hm).2
  rw[n]at q;simp at q
theorem CA{h:Heap}{H:Hp}{b:Addr}{o:Obj}(e:(rO h H).get? b=some o):h.get? b=some o/\H b=none:=by
 have e':h.get? b=some o:=PySem.W.of_hideAll (Ii h H) e
 refine⟨e',?_⟩
 cases q:H b with
 |none=>rfl
 |some x =>
  have hm:b∈Ii h H:=List.mem_filter.mpr ⟨List.mem_range.mpr (Heap.lt_size e'),by simp[q]⟩
  have z:(rO h H).get? b=none:=PySem.W.hideAll_none (Ii h H) hm
  rw[z]at e;cases e
structure Mod(K:PySem.W.Frag) (mg:Str->Option Value) (base:Heap):Prop where
 kin:K.In base
 glob:base.Ns mainGlobals mg
 blt:∃mb,base.Ns builtinsNs mb/\∀x:Str,x≠"__name__"->mb x=bootBuiltins x
 nolimit:base.NoLimit
structure Cx where
 prog:Program
 w:World
 K:PySem.W.Frag
 mg:Str->Option Value
 base:Heap
 A:Around
 N:List Str
 s₀:Shared
 H₀:Hp
 env:Env
 outer:List Env
 stack:List Env
 ex:List Addr
 fn:Str->Bool
 calm:Bool
 pn:List (Addr×Obj)
 xe:Value->Shared->Prop
noncomputable def frs(l:List Env):List Addr:=l.filterMap (·.frame)
noncomputable abbrev Cx.fs(X:Cx):List Addr:=frs X.outer
noncomputable def Ij(sc:Scope)(x:Str):Prop:=sc.names.lookup x=some .local\/sc.names.lookup x=some .cell\/sc.names.lookup x=some .free
noncomputable def Loc(sc:Scope)(x:Str):Prop:=sc.names.lookup x=some .local\/sc.names.lookup x=some .cell
noncomputable def Look(env:Env)(h:Heap)(m:Str->Option Value)(x:Str)(u:Value):Prop :=
 (env.kindOf x=some .local/\m x=some u)\/((env.kindOf x=some .cell\/env.kindOf x=some .free)/\∃c,env.cells.lookup x=some c/\h.IsCell c (some u))
structure Cx.Ok(X:Cx):Prop where
 mod:Mod X.K X.mg X.base
 kind:X.env.scope.kind=.function
 glob:X.env.globals=mainGlobals
 blt:X.env.builtins=builtinsNs
 above:X.s₀.heap.objs.size<=X.env.locals
 inj:∀x y c,X.env.cells.lookup x=some c->X.env.cells.lookup y=some c->x=y
 has:∀x,(X.env.kindOf x=some .cell\/X.env.kindOf x=some .free)->∃c,X.env.cells.lookup x=some c
 cab:∀x c,X.fn x=true->X.env.cells.lookup x=some c->X.s₀.heap.objs.size<=c
 hd:X.calm=true->X.A.handled=none
 frames:X.A.frames=some X.stack
 stk:X.stack=X.outer\/(X.stack=X.env::X.outer/\X.env.frame=some X.env.locals)
 exf:∀b∈X.ex,b≠X.env.locals/\∀x c,X.env.cells.lookup x=some c->c≠b
 bs:∀b o,X.base.get? b=some o->X.s₀.heap.get? b=some o/\X.H₀ b=none
 bsz:X.base.objs.size<=X.s₀.heap.objs.size
 noex:∀b o,X.base.get? b=some o->b∉X.ex
 exfs:∀b∈X.ex,b∉X.fs
 nJ:X.s₀.heap.FunFrames X.base X.outer
 frf:∀b∈X.fs,X.H₀ b=none
structure Inv(X:Cx) (pins:List (Addr×Obj)) (σ:List (Option V)) (H:Hp) (s:Shared):Prop where
 ok:X.Ok
 os:s.os=X.s₀.os
 bare:AllBare s.gens
 base:Un X.fs X.ex X.H₀ H X.s₀.heap s.heap
 loc:∃m,s.heap.Ns X.env.locals m/\∀(i:Nat) (x:Str) (v:V),X.N[i]?=some x->σ[i]?=some (some v)->Ij X.env.scope x->∃u,RelV v u/\Look X.env s.heap m x u
 cell:∀x c,X.env.cells.lookup x=some c->∃v,s.heap.IsCell c v
 free:H X.env.locals=none
 freeC:∀x c,X.env.cells.lookup x=some c->H c=none
 pin:∀p∈X.pn++pins,s.heap.get? p.1=some p.2/\H p.1=none/\p.1≠X.env.locals/\p.1∉X.fs/\∀v,p.2.data≠.cell v
 hok:kK X.prog X.w H s.heap
 len:σ.length=X.N.length
section
variable {X:Cx}{pins:List (Addr×Obj)}{σ:List (Option V)}{H H':Hp}{s:Shared}{h':Heap}
theorem Cx.Ok.IC(ok:X.Ok){b:Addr}{o:Obj}(e:X.base.get? b=some o):b∉X.fs:=fun hb=>by
 have:=(ok.nJ.mem hb).1
 rw[e]at this;cases this
theorem Inv.bs(I:Inv X pins σ H s):∀b o,X.base.get? b=some o->s.heap.get? b=some o/\H b=none:=fun b o e =>
 ⟨I.base.keep b o (I.ok.bs b o e).1 (I.ok.bs b o e).2 (I.ok.IC e) (I.ok.noex b o e),I.base.free b o (I.ok.bs b o e).1 (I.ok.bs b o e).2 (I.ok.noex b o e)⟩
theorem Inv.bk(I:Inv X pins σ H s):∀b o,X.base.get? b=some o->s.heap.get? b=some o:=fun b o e=>(I.bs b o e).1
theorem Inv.mod(I:Inv X pins σ H s):Mod X.K X.mg X.base:=I.ok.mod
theorem Inv.tV(I:Inv X pins σ H s):X.K.In s.heap:=I.ok.mod.kin.keeps I.bk
theorem Inv.lt(I:Inv X pins σ H s):X.env.locals<s.heap.objs.size:=let⟨_,hn,_⟩:=I.loc;hn.lt
theorem Inv.sz(I:Inv X pins σ H s):X.s₀.heap.objs.size<=s.heap.objs.size:=Nat.le_trans I.ok.above (Nat.le_of_lt I.lt)
theorem Inv.vI(I:Inv X pins σ H s){a:Addr}(h:s.heap.objs.size<=a):a∉X.fs:=fun hb=>by
 obtain⟨_,o,ho,_⟩:=I.ok.nJ.mem hb
 exact absurd (Nat.lt_of_lt_of_le (Heap.lt_size ho) (Nat.le_trans I.sz h)) (Nat.lt_irrefl _)
theorem Inv.EC(I:Inv X pins σ H s):∀x c,X.env.cells.lookup x=some c->c≠X.env.locals:=fun x c e z=>by
 obtain⟨v,o,ho,hd⟩:=I.cell x c e
 obtain⟨m,⟨o',es,ep,ho',hd',_⟩,_⟩:=I.loc
 rw[z,ho']at ho;cases ho;rw[hd']at hd;cases hd
theorem Inv.nJ(I:Inv X pins σ H s):s.heap.FunFrames X.base X.outer:=by
 have all:∀(l:List Env),(∀b∈frs l,b∈X.fs)->X.s₀.heap.FunFrames X.base l->s.heap.FunFrames X.base l:=by
  intro l
  induction l with
  |nil=>intro _ _;trivial
  |cons env r ih =>
   intro hs hl
   obtain⟨hk,⟨L,o,hf,hn,ho,hd⟩,hr⟩:=hl
   have hL:L∈X.fs:=hs L (by unfold frs;rw[List.filterMap_cons,hf];exact List.mem_cons_self)
   obtain⟨sl,e⟩:=I.base.slot L o ho (I.ok.frf L hL) hL fun z=>I.ok.exfs L z hL
   exact⟨hk,⟨L,_,hf,hn,e,hd⟩,ih (fun b hb=>hs b (by unfold frs;rw[List.filterMap_cons,hf];exact List.mem_cons_of_mem _ hb)) hr⟩
 exact all X.outer (fun _ hb=>hb) I.ok.nJ
theorem Inv.stack(I:Inv X pins σ H s):s.heap.FunFrames X.base X.stack:=by
 rcases I.ok.stk with e|⟨e,hf⟩
 ·rw[e];exact I.nJ
 ·rw[e]
  obtain⟨m,hn,_⟩:=I.loc
  refine .cons (by rw[I.ok.kind];decide) hf hn ?_ I.nJ
  exact Heap.get?_none_of_le (Nat.le_trans I.ok.bsz I.ok.above)
theorem Inv.kW(I:Inv X pins σ H s):∀b∈frs X.stack,b∈X.env.locals::X.fs:=fun b hb=>by
 rcases I.ok.stk with e|⟨e,hf⟩
 ·rw[e]at hb;exact List.mem_cons_of_mem _ hb
 ·rw[e]at hb
  unfold frs at hb
  rw[List.filterMap_cons,hf]at hb
  exact hb
theorem Inv.xK(I:Inv X pins σ H s):∀b∈frs X.stack,H b=none:=fun b hb=>by
 rcases List.mem_cons.mp (I.kW b hb)with e|hb
 ·rw[e];exact I.free
 ·obtain⟨_,o,ho,_⟩:=I.ok.nJ.mem hb
  exact I.base.free b o ho (I.ok.frf b hb) fun z=>I.ok.exfs b z hb
theorem Inv.step{g':Array GenState}{t':Nat}{d':Drawn}{ch:List Addr}(I:Inv X pins σ H s)
  (hch:∀b∈ch,(b∈X.ex\/X.s₀.heap.objs.size<=b)/\b≠X.env.locals/\(∀x c,X.env.cells.lookup x=some c->c≠b)/\∀p∈X.pn++pins,p.1≠b)
  (keep:∀b o,b≠X.env.locals->b∉X.fs->b∉ch->s.heap.get? b=some o->H b=none->h'.get? b=some o)
  (slot:∀b o,b≠X.env.locals->b∈X.fs->b∉ch->s.heap.get? b=some o->H b=none->∃sl,h'.get? b=some {o with slots:=sl}) (free:∀b o,b∉ch->s.heap.get? b=some o->H b=none->H' b=none)
  (there:∀b o,b∉ch->s.heap.get? b=some o->∃o',h'.get? b=some o')
  (tups:∀b xs,H b=some (.tup xs)->H' b=some (.tup xs)) (frzs:∀b o u,H b=some (.frz o u)->H' b=some (.frz o u)) (tbls:∀b ps,H b=some (.tbl ps)->∃more,H' b=some (.tbl (ps++more)))
  (ns:∀m,s.heap.Ns X.env.locals m->h'.Ns X.env.locals m) (hok:kK X.prog X.w H' h') (hg:AllBare g') :
  Inv X pins σ H' {s with heap:=h',gens:=g',drawn:=d',toks:=t'}:=by
 have neL:∀b o,X.s₀.heap.get? b=some o->b≠X.env.locals:=fun b o e=>Nat.ne_of_lt (Nat.lt_of_lt_of_le (Heap.lt_size e) I.ok.above)
 have neC:∀b o,X.s₀.heap.get? b=some o->b∉X.ex->b∉ch:=fun b o e hx hb=>by
  rcases(hch b hb).1 with z|z
  ·exact hx z
  ·exact absurd (Nat.lt_of_lt_of_le (Heap.lt_size e) z) (Nat.lt_irrefl _)
 have cellK:∀x c,X.env.cells.lookup x=some c->∀v,s.heap.IsCell c v->h'.IsCell c v:=fun x c e v ⟨o,ho,hd⟩=>by
  have nch:c∉ch:=fun z=>(hch c z).2.2.1 x c e rfl
  by_cases hc:c∈X.fs
  ·obtain⟨sl,q⟩:=slot c o (I.EC x c e) hc nch ho (I.freeC x c e)
   exact⟨_,q,hd⟩
  ·exact⟨o,keep c o (I.EC x c e) hc nch ho (I.freeC x c e),hd⟩
 refine⟨I.ok,I.os,hg,⟨fun b o e n hb hx=>?_,fun b o e n hb hx=>?_,fun b o e n hx=>?_,fun b o e hx=>?_,fun b xs e=>tups b xs (I.base.tups b xs e),fun b o xs e=>frzs b o xs (I.base.frzs b o xs e),fun b ps e=>?_⟩,?_,fun x c e=>?_,?_,fun x c e=>?_,fun p hp=>?_,hok,I.len⟩
 ·exact keep b o (neL b o e) hb (neC b o e hx) (I.base.keep b o e n hb hx) (I.base.free b o e n hx)
 ·obtain⟨sl,e1⟩:=I.base.slot b o e n hb hx
  obtain⟨sl',e2⟩:=slot b _ (neL b o e) hb (neC b o e hx) e1 (I.base.free b o e n hx)
  exact⟨sl',e2⟩
 ·obtain⟨o',e1⟩:=I.base.there b o e hx
  exact free b o' (neC b o e hx) e1 (I.base.free b o e n hx)
 ·obtain⟨o',e1⟩:=I.base.there b o e hx
  exact there b o' (neC b o e hx) e1
 ·obtain⟨m1,e1⟩:=I.base.tbls b ps e
  obtain⟨m2,e2⟩:=tbls b _ e1
  exact⟨m1++m2,by rw[e2,Array.append_assoc]⟩
 ·obtain⟨m,hn,hl⟩:=I.loc
  refine⟨m,ns m hn,fun i x v e1 e2 e3=>?_⟩
  obtain⟨u,r,l⟩:=hl i x v e1 e2 e3
  refine⟨u,r,?_⟩
  rcases l with l|⟨k,c,e,z⟩
  ·exact .inl l
  ·exact .inr ⟨k,c,e,cellK x c e _ z⟩
 ·obtain⟨v,z⟩:=I.cell x c e
  exact⟨v,cellK x c e v z⟩
 ·obtain⟨m,⟨o,_,_,ho,_⟩,_⟩:=I.loc
  exact free _ o (fun z=>(hch _ z).2.1 rfl) ho I.free
 ·obtain⟨v,o,ho,hd⟩:=I.cell x c e
  exact free c o (fun z=>(hch c z).2.2.1 x c e rfl) ho (I.freeC x c e)
 ·obtain⟨e,n,ne,nf,d⟩:=I.pin p hp
  have nch:p.1∉ch:=fun z=>(hch p.1 z).2.2.2 p hp rfl
  exact⟨keep p.1 p.2 ne nf nch e n,free p.1 p.2 nch e n,ne,nf,d⟩
theorem Inv.un{t':Nat}(I:Inv X pins σ H s)(u:Un X.fs [] H H' s.heap h')(hok:kK X.prog X.w H' h'):Inv X pins σ H' {s with heap:=h',toks:=t'}:=by
 obtain⟨m,⟨o,es,ep,ho,r⟩,_⟩:=id I.loc
 obtain⟨sl,hL⟩:=u.any ho I.free (by simp)
 exact I.step (g':=s.gens) (d':=s.drawn) (ch:=[]) (fun _ z=>nomatch z) (fun b o _ hb _ e n=>u.keep b o e n hb (by simp)) (fun b o _ hb _ e n=>u.slot b o e n hb (by simp)) (fun b o _ e n=>u.free b o e n (by simp)) (fun b o _ e=>u.there b o e (by simp)) u.tups u.frzs u.tbls (fun m' hm=>by
  obtain⟨o',es',ep',ho',r'⟩:=hm
  rw[ho]at ho';cases ho'
  exact⟨_,es',ep',hL,r'⟩) hok I.bare
theorem Inv.call{g':Array GenState}{t':Nat}{d':Drawn}{ch:List Addr}(I:Inv X pins σ H s)(u:Un (frs X.stack) ch H H' s.heap h')(hok:kK X.prog X.w H' h')(hg:AllBare g')
  (hch:∀b∈ch,(b∈X.ex\/X.s₀.heap.objs.size<=b)/\b≠X.env.locals/\(∀x c,X.env.cells.lookup x=some c->c≠b)/\∀p∈X.pn++pins,p.1≠b) :
  Inv X pins σ H' {s with heap:=h',gens:=g',drawn:=d',toks:=t'}:=by
 obtain⟨m,⟨o,es,ep,ho,r⟩,_⟩:=id I.loc
 obtain⟨sl,hL⟩:=u.any ho I.free fun z=>(hch _ z).2.1 rfl
 exact I.step (ch:=ch) hch (fun b o hL hb hc e n=>u.keep b o e n (fun z=>(List.mem_cons.mp (I.kW b z)).elim hL hb) hc) (fun b o _ _ hc e n=>u.any e n hc) (fun b o hc e n=>u.free b o e n hc) (fun b o hc e=>u.there b o e hc) u.tups u.frzs u.tbls (fun m' hm=>by
  obtain⟨o',es',ep',ho',r'⟩:=hm
  rw[ho]at ho';cases ho'
  exact⟨_,es',ep',hL,r'⟩) hok hg
theorem Inv.turned{t':Nat}{it:Addr}(I:Inv X pins σ H s)(k:∀b o,b≠it->s.heap.get? b=some o->h'.get? b=some o)(hn:H it=none)(hL:it≠X.env.locals)
  (h1:it∈X.ex\/X.s₀.heap.objs.size<=it) (h2:∀x c,X.env.cells.lookup x=some c->c≠it) (h3:∀p∈X.pn++pins,p.1≠it):Inv X pins σ H {s with heap:=h',toks:=t'}:=by
 have nit:∀b u,H b=some u->b≠it:=fun b u e z=>by rw[z,hn]at e;cases e
 refine I.step (g':=s.gens) (d':=s.drawn) (ch:=[it]) (fun b hb=>?_) (fun b o _ _ hc e _=>k b o (fun z=>hc (by simp[z])) e) (fun b o _ _ hc e _=>⟨o.slots,k b o (fun z=>hc (by simp[z])) e⟩) (fun _ _ _ _ n=>n)
  (fun b o hc e=>⟨o,k b o (fun z=>hc (by simp[z])) e⟩) (fun _ _ e=>e) (fun _ _ _ e=>e) (fun b ps e=>⟨#[],by rw[e];simp⟩) (fun m hm=>?_) (fun b u e=>?_) I.bare
 ·have e:b=it:=by simpa using hb
  subst e
  exact⟨h1,hL,h2,h3⟩
 ·obtain⟨o,es,ep,ho,r⟩:=hm
  exact⟨o,es,ep,k _ o (Ne.symm hL) ho,r⟩
 ·refine(I.hok b u e).stay (fun c v hc q=>k c v ?_ q) (fun _ q=>q) fun _ _ q=>q
  rcases hc with z|z
  ·rw[z];exact nit b u e
  ·exact nit c _ z
theorem Inv.tok(I:Inv X pins σ H s)(t:Nat):Inv X pins σ H {s with toks:=t}:=I.un (h':=s.heap) (t':=t) Un.refl I.hok
theorem Inv.kept{t':Nat}(I:Inv X pins σ H s)(k:∀b u,s.heap.get? b=some u->h'.get? b=some u):Inv X pins σ H {s with heap:=h',toks:=t'}:=I.un (Un.kept k) (I.hok.kept k)
theorem Inv.laid{a:Addr}{o:HO}{t':Nat}(I:Inv X pins σ H s)(k:∀b u,s.heap.get? b=some u->h'.get? b=some u)(hp:s.heap.objs.size<=a)(new:di X.prog X.w (upd H a o) h' a o) :
  Inv X pins σ (upd H a o) {s with heap:=h',toks:=t'}:=I.un (Un.laid k hp (I.hok.fresh hp)) (I.hok.laid k hp new)
theorem Inv.write{x e:Addr}{o:HO}{t':Nat}(I:Inv X pins σ H s)(mu:Gy (H x))(he:e=x\/H e=some (.own x))(k:∀b u,b≠e->s.heap.get? b=some u->h'.get? b=some u)(heo:∃u,h'.get? e=some u)
  (new:di X.prog X.w (upd H x o) h' x o):Inv X pins σ (upd H x o) {s with heap:=h',toks:=t'}:=I.un (Un.write mu he k heo) (I.hok.write mu he k heo new)
theorem Inv.cD{pins':List (Addr×Obj)}(I:Inv X pins σ H s)(h:∀p∈pins',s.heap.get? p.1=some p.2/\H p.1=none/\p.1≠X.env.locals/\p.1∉X.fs/\∀v,p.2.data≠.cell v):Inv X pins' σ H s :=
 ⟨I.ok,I.os,I.bare,I.base,I.loc,I.cell,I.free,I.freeC,fun p hp=>(List.mem_append.mp hp).elim (fun z=>I.pin p (List.mem_append_left _ z)) (h p),I.hok,I.len⟩
theorem ue{N:List Str}(hN:N.Nodup){i j:Nat}{x:Str}(a:N[i]?=some x)(b:N[j]?=some x):i=j:=by
 obtain⟨h1,e1⟩:=List.getElem?_eq_some_iff.mp a
 obtain⟨h2,e2⟩:=List.getElem?_eq_some_iff.mp b
 exact(List.getElem_inj hN).mp (e1.trans e2.symm)
theorem yK{M:Model}{A:Around}{E:Value->Shared->Prop}{i:Nat}{x:Str}{v:V}{u:Value}{Q:Unit->Shared->Prop}(I:Inv X pins σ H s)(hN:X.N.Nodup)(hi:X.N[i]?=some x)(hx:Loc X.env.scope x)(r:RelV v u)
  (h:∀s',Inv X pins (σ.set i (some v)) H s'->(∃a,Heap.SameBut a s.heap s'.heap/\(a=X.env.locals\/X.env.cells.lookup x=some a))->Q () s') (hf:X.fn x=true\/X.env.scope.names.lookup x=some .local:=by first|exact .inl rfl|exact .inr rfl|assumption):wpAny M A (storeName X.env x u) Q E s:=by
 obtain⟨m,hn,hl⟩:=id I.loc
 have hcls:(X.env.scope.kind == .class||(X.env.scope.kind == .module&&X.env.locals != X.env.globals))=false:=by rw[I.ok.kind];rfl
 have hiσ:i<σ.length:=by rw[I.len];exact(List.getElem?_eq_some_iff.mp hi).1
 have EC:=I.EC
 have tracked:∀{a:Addr}{h':Heap},(∃o,s.heap.get? a=some o/\H a=none)->Heap.SameBut a s.heap h'->kK X.prog X.w H h':=fun{a h'} ha hs b ob e=>by
  obtain⟨_,_,hfree⟩:=ha
  refine(I.hok b ob e).stay (fun c w' hc q=>(hs.2 c ?_).trans q) (fun _ q=>q) fun _ _ q=>q
  rintro rfl
  rcases hc with rfl|hc
  ·rw[hfree]at e;cases e
  ·rw[hfree]at hc;cases hc
 rcases hx with hk|hk
 ·refine wpAny_storeName_local hk hn (fun h' hn' hs=>?_) hcls
  obtain⟨oL,_,_,hoL,_⟩:=id hn
  refine h _ ⟨I.ok,I.os,I.bare,⟨fun b o e n hb hx=>?_,fun b o e n hb hx=>?_,I.base.free,fun b o e hx=>?_,I.base.tups,I.base.frzs,I.base.tbls⟩,⟨_,hn',fun j y v' e1 e2 e3=>?_⟩,fun y c e=>?_,I.free,I.freeC,fun p hp=>?_,tracked ⟨oL,hoL,I.free⟩ hs,by simpa using I.len⟩ ⟨_,hs,.inl rfl⟩
  ·exact(hs.2 b (Nat.ne_of_lt (Nat.lt_of_lt_of_le (Heap.lt_size e) I.ok.above))).trans (I.base.keep b o e n hb hx)
  ·obtain⟨sl,e1⟩:=I.base.slot b o e n hb hx
   exact⟨sl,(hs.2 b (Nat.ne_of_lt (Nat.lt_of_lt_of_le (Heap.lt_size e) I.ok.above))).trans e1⟩
  ·obtain⟨o',e1⟩:=I.base.there b o e hx
   exact⟨o',(hs.2 b (Nat.ne_of_lt (Nat.lt_of_lt_of_le (Heap.lt_size e) I.ok.above))).trans e1⟩
  ·by_cases hj:j=i
   ·subst hj
    rw[hi]at e1;cases e1
    rw[List.getElem?_set_self hiσ]at e2
    cases e2
    exact⟨u,r,.inl ⟨hk,by simp⟩⟩
   ·rw[List.getElem?_set_ne (Ne.symm hj)]at e2
    obtain⟨u',r',q⟩:=hl j y v' e1 e2 e3
    refine⟨u',r',?_⟩
    rcases q with⟨k,e⟩|⟨k,c,e,z⟩
    ·refine .inl ⟨k,?_⟩
     have:y≠x:=fun e=>hj (ue hN e1 (e▸hi))
     simp[this,e]
    ·exact .inr ⟨k,c,e,z.sameBut hs (EC y c e)⟩
  ·obtain⟨w',z⟩:=I.cell y c e
   exact⟨w',z.sameBut hs (EC y c e)⟩
  ·obtain⟨e,n,ne,nf,d⟩:=I.pin p hp
   exact⟨(hs.2 p.1 ne).trans e,n,ne,nf,d⟩
 ·have hfn:X.fn x=true:=by
   rcases hf with z|z
   ·exact z
   ·rw[z]at hk;cases hk
  obtain⟨c,hc⟩:=I.ok.has x (.inl hk)
  obtain⟨w',z⟩:=I.cell x c hc
  refine wpAny_storeName_cell I.ok.kind hk hc z (fun h' hc' hs=>?_)
  obtain⟨oc,hoc,hocd⟩:=id z
  refine h {s with heap:=h'} ⟨I.ok,I.os,I.bare,⟨fun b o e n hb hx=>?_,fun b o e n hb hx=>?_,I.base.free,fun b o e hx=>?_,I.base.tups,I.base.frzs,I.base.tbls⟩,⟨m,hn.sameBut hs (Ne.symm (EC x c hc)),fun j y v' e1 e2 e3=>?_⟩,fun y c' e=>?_,I.free,I.freeC,fun p hp=>?_,tracked ⟨oc,hoc,I.freeC x c hc⟩ hs,by simpa using I.len⟩ ⟨c,hs,.inr hc⟩
  ·exact(hs.2 b (Nat.ne_of_lt (Nat.lt_of_lt_of_le (Heap.lt_size e) (I.ok.cab x c hfn hc)))).trans (I.base.keep b o e n hb hx)
  ·obtain⟨sl,e1⟩:=I.base.slot b o e n hb hx
   exact⟨sl,(hs.2 b (Nat.ne_of_lt (Nat.lt_of_lt_of_le (Heap.lt_size e) (I.ok.cab x c hfn hc)))).trans e1⟩
  ·obtain⟨o',e1⟩:=I.base.there b o e hx
   exact⟨o',(hs.2 b (Nat.ne_of_lt (Nat.lt_of_lt_of_le (Heap.lt_size e) (I.ok.cab x c hfn hc)))).trans e1⟩
  ·by_cases hj:j=i
   ·subst hj
    rw[hi]at e1;cases e1
    rw[List.getElem?_set_self hiσ]at e2
    cases e2
    exact⟨u,r,.inr ⟨.inl hk,c,hc,hc'⟩⟩
   ·rw[List.getElem?_set_ne (Ne.symm hj)]at e2
    obtain⟨u',r',q⟩:=hl j y v' e1 e2 e3
    refine⟨u',r',?_⟩
    rcases q with q|⟨k,c',e,z'⟩
    ·exact .inl q
    ·refine .inr ⟨k,c',e,z'.sameBut hs ?_⟩
     rintro rfl
     exact hj (ue hN e1 (I.ok.inj _ _ _ e hc▸hi))
  ·by_cases hcc:c'=c
   ·subst hcc;exact⟨_,hc'⟩
   ·obtain⟨w2,z2⟩:=I.cell y c' e
    exact⟨w2,z2.sameBut hs hcc⟩
  ·obtain⟨e,n,ne,nf,d⟩:=I.pin p hp
   refine⟨(hs.2 p.1 ?_).trans e,n,ne,nf,d⟩
   intro q
   rw[q,hoc]at e
   have q':oc=p.2:=Option.some.inj e
   exact d w' (by rw[←q'];exact hocd)
theorem lK{M:Model}{A:Around}{E:Value->Shared->Prop}{i:Nat}{x:Str}{v:V}{u:Value}{Q:Unit->Shared->Prop}(I:Inv X pins σ H s)(hN:X.N.Nodup)(hi:X.N[i]?=some x)(hx:Loc X.env.scope x)(r:RelV v u)
  (h:∀s',Inv X pins (σ.set i (some v)) H s'->Q () s') (hf:X.fn x=true\/X.env.scope.names.lookup x=some .local:=by first|exact .inl rfl|exact .inr rfl|assumption):wpAny M A (storeName X.env x u) Q E s :=
 yK I hN hi hx r (fun s' I' _=>h s' I') hf
theorem Inv.DZ{s':Shared}{ch:List Addr}(I:Inv X pins σ H s)(ho:s'.os=s.os)(u:Un (frs X.stack) ch H H' s.heap s'.heap)(hok:kK X.prog X.w H' s'.heap)(hg:AllBare s'.gens)
  (hch:∀b∈ch,(b∈X.ex\/X.s₀.heap.objs.size<=b)/\b≠X.env.locals/\(∀x c,X.env.cells.lookup x=some c->c≠b)/\∀p∈X.pn++pins,p.1≠b):Inv X pins σ H' s':=by
 obtain⟨h',g',d',t',o'⟩:=s'
 have e:o'=s.os:=ho
 subst e
 exact I.call (g':=g') (t':=t') (d':=d') u hok hg hch
end
noncomputable abbrev XK:=Value->Option Addr->Hp->Prop
noncomputable abbrev St:=List (Option V)
noncomputable abbrev VK:=V->Hp->Prop
noncomputable abbrev TE:=St->Hp->VK->Prop
noncomputable abbrev TT:=St->Hp->(Bool->Hp->Prop)->Prop
noncomputable abbrev TA:=St->Hp->(List V->Hp->Prop)->Prop
structure Ends where
 nx:St->Hp->Prop
 rt:VK
 bk:St->Hp->Prop:=fun _ _=>False
 ct:St->Hp->Prop:=fun _ _=>False
noncomputable abbrev TS:=Ends->St->Hp->Prop
noncomputable def EP(X:Cx)(pins:List (Addr×Obj))(σ:St)(Q:VK)(u:Value)(s':Shared):Prop:=∃v H',Inv X pins σ H' s'/\RelV v u/\Q v H'
noncomputable def TP(X:Cx)(pins:List (Addr×Obj))(σ:St)(Q:Bool->Hp->Prop)(b:Bool)(s':Shared):Prop:=∃H',Inv X pins σ H' s'/\Q b H'
noncomputable def AP(X:Cx)(pins:List (Addr×Obj))(σ:St)(Q:List V->Hp->Prop)(us:List Value)(s':Shared):Prop:=∃vs H',Inv X pins σ H' s'/\Vals vs us/\Q vs H'
noncomputable def SP(X:Cx)(pins:List (Addr×Obj))(D:Ends)(f:Flow)(s':Shared):Prop :=
 match f with
 |.next=>∃σ' H',Inv X pins σ' H' s'/\D.nx σ' H'
 |.brk=>∃σ' H',Inv X pins σ' H' s'/\D.bk σ' H'
 |.cont=>∃σ' H',Inv X pins σ' H' s'/\D.ct σ' H'
 |.ret u=>∃v σ' H',Inv X pins σ' H' s'/\RelV v u/\D.rt v H'
noncomputable def PE(X:Cx)(e:Expr)(t:TE):Prop :=
 ∀(pins:List (Addr×Obj)) (s:Shared) (σ:St) (H:Hp) (Q:VK),Inv X pins σ H s->t σ H Q->wpAny (model X.prog X.w) X.A (eval e X.env) (EP X pins σ Q) X.xe s
noncomputable def PT(X:Cx)(e:Expr)(t:TT):Prop :=
 ∀(pins:List (Addr×Obj)) (s:Shared) (σ:St) (H:Hp) (Q:Bool->Hp->Prop),Inv X pins σ H s->t σ H Q->wpAny (model X.prog X.w) X.A (isTrue e X.env (eval e X.env)) (TP X pins σ Q) X.xe s
noncomputable def PW(X:Cx)(e:Expr)(t:TT):Prop :=
 ∀(whole:Sem Value) (pins:List (Addr×Obj)) (s:Shared) (σ:St) (H:Hp) (Q:Bool->Hp->Prop),Inv X pins σ H s->t σ H Q->wpAny (model X.prog X.w) X.A (isTrue e X.env whole) (TP X pins σ Q) X.xe s
theorem PW.pt{X:Cx}{e:Expr}{t:TT}(h:PW X e t):PT X e t:=h _
noncomputable def PA(X:Cx)(es:List Expr)(t:TA):Prop :=
 ∀(pos:Pos) (pins:List (Addr×Obj)) (s:Shared) (σ:St) (H:Hp) (Q:List V->Hp->Prop),Inv X pins σ H s->t σ H Q->wpAny (model X.prog X.w) X.A (spliced (backTo pos (starEach es X.env))) (AP X pins σ Q) X.xe s
noncomputable def PS(X:Cx)(st:Stmt)(t:TS):Prop :=
 ∀(pins:List (Addr×Obj)) (s:Shared) (σ:St) (H:Hp) (D:Ends),Inv X pins σ H s->t D σ H->wpAny (model X.prog X.w) X.A (exec st X.env) (SP X pins D) X.xe s
noncomputable def vH(X:Cx)(st:List Stmt)(t:TS):Prop :=
 ∀(pins:List (Addr×Obj)) (s:Shared) (σ:St) (H:Hp) (D:Ends),Inv X pins σ H s->t D σ H->wpAny (model X.prog X.w) X.A (execs st X.env) (SP X pins D) X.xe s
theorem bP{α:Type}{t:Sem α}{Q Q':α->Shared->Prop}{M:Model}{A:Around}{E:Value->Shared->Prop}{s:Shared}(h:wpAny M A t Q E s)(hQ:∀a s,Q a s->Q' a s):wpAny M A t Q' E s:=wpAny_mono h hQ fun _ _ x=>x
section
variable {X:Cx}
noncomputable def iu(i:Nat):TE:=fun σ H Q=>∃v,σ[i]?=some (some v)/\Q v H
noncomputable def tC(v:V):TE:=fun _ H Q=>Q v H
theorem zX{i:Nat}{x:Str}{pos:Pos}(hN:X.N[i]?=some x)(hv:Ij X.env.scope x)(hd:(x == ("__debug__":Str))=false:=by decide)(hcd:(x == ("__classdict__":Str))=false:=by decide):PE X (.Name x pos) (iu i):=by
 intro pins s σ H Q I h
 obtain⟨v,e,h⟩:=h
 obtain⟨m,hn,hl⟩:=I.loc
 obtain⟨u,r,l⟩:=hl i x v hN e hv
 have fin:EP X pins σ Q u s:=⟨v,H,I,r,h⟩
 rcases l with⟨hk,hm⟩|⟨hk,c,hc,hcell⟩
 ·exact wpAny_Name (wpAny_loadName_local I.ok.kind hk hn hm fin) hd
 ·rcases hk with hk|hk
  ·exact wpAny_Name (wpAny_loadName_cell I.ok.kind hk hc hcell fin) hd
  ·exact wpAny_Name (wpAny_loadName_free I.ok.kind hk hc hcell fin hcd) hd
theorem ak{i j pos}:PE X (.Constant (.int i) j pos) (tC (.int i)):=fun _ _ _ H _ I h=>wpAny_Constant_int ⟨.int i,H,I.tok _,⟨_,rfl⟩,h⟩
theorem zY{b j pos}:PE X (.Constant (.bool b) j pos) (tC (.bl b)):=fun _ _ _ H _ I h=>Constant_bool ⟨.bl b,H,I,rfl,h⟩
theorem oH{j pos}:PE X (.Constant .none j pos) (tC .eW):=fun _ _ _ H _ I h=>Constant_none ⟨.eW,H,I,rfl,h⟩
theorem aq{x j pos}:PE X (.Constant (.str x) j pos) (tC (.str x)):=fun _ _ _ H _ I h=>Calls.Constant_str ⟨.str x,H,I.tok _,⟨_,rfl⟩,h⟩
noncomputable def Gl(X:Cx)(x:Str):Prop:=X.env.kindOf x=some .globalImplicit
theorem rP{E:Value->Shared->Prop}{pins:List (Addr×Obj)}{s:Shared}{σ:St}{H:Hp}{x:Str}{u:Value}{pos:Pos}{Q:Value->Shared->Prop}(I:Inv X pins σ H s)(hg:Gl X x)(hm:X.mg x=some u)(h:Q u s)
  (hd:(x == ("__debug__":Str))=false:=by decide):wpAny (model X.prog X.w) X.A (eval (.Name x pos) X.env) Q E s :=
 Calls.Name_function_global I.ok.kind hg (Calls.loadGlobal_global (by rw[I.ok.glob];exact I.mod.glob.keeps I.bk) hm h) hd
theorem kX{E:Value->Shared->Prop}{pins:List (Addr×Obj)}{s:Shared}{σ:St}{H:Hp}{x:Str}{u:Value}{pos:Pos}{Q:Value->Shared->Prop}(I:Inv X pins σ H s)(hg:Gl X x)(hm:X.mg x=none)(hv:bootBuiltins x=some u)(h:Q u s)
  (hn:x≠"__name__":=by decide) (hd:(x == ("__debug__":Str))=false:=by decide):wpAny (model X.prog X.w) X.A (eval (.Name x pos) X.env) Q E s:=by
 obtain⟨mb,h1,h2⟩:=I.mod.blt
 exact Calls.Name_function_global I.ok.kind hg (Calls.loadGlobal_builtin (by rw[I.ok.glob];exact I.mod.glob.keeps I.bk) hm (by rw[I.ok.blt];exact h1.keeps I.bk) ((h2 x hn).trans hv) h) hd
theorem iM{x:Str}{v:V}{u:Value}{pos:Pos}(hg:Gl X x)(hm:X.mg x=some u)(r:RelV v u)(hd:(x == ("__debug__":Str))=false:=by decide):PE X (.Name x pos) (tC v) :=
 fun _ _ _ H _ I h=>rP I hg hm ⟨v,H,I,r,h⟩ hd
variable {a b:Expr}{ta tb:TE}{pos:Pos}
variable {tA tB':TT}{rest:List Expr}
noncomputable def ID(t u:TT):TT:=fun σ H Q=>t σ H fun c H1=>if c=true then u σ H1 Q else Q false H1
noncomputable def Jv(t u:TT):TT:=fun σ H Q=>t σ H fun c H1=>if c=true then Q true H1 else u σ H1 Q
noncomputable def IE(t:TT):TT:=fun σ H Q=>t σ H fun c H1=>Q (!c) H1
theorem iN(ha:PT X a tA):PW X (.BoolOp .And [a] pos) tA:=by
 intro wh pins s σ H Q I h
 refine isTrue_and (bP (ha pins s σ H Q I h) fun c s1 e=>?_)
 cases c with
 |true=>exact isTrue_and_nil e
 |false=>exact e
theorem ED(ha:PT X a tA):PW X (.BoolOp .Or [a] pos) tA:=by
 intro wh pins s σ H Q I h
 refine isTrue_or (bP (ha pins s σ H Q I h) fun c s1 e=>?_)
 cases c with
 |false=>exact isTrue_or_nil e
 |true=>exact e
theorem jx(ha:PT X a tA)(hb:PW X (.BoolOp .And (b::rest) pos) tB'):PW X (.BoolOp .And (a::b::rest) pos) (ID tA tB'):=by
 intro wh pins s σ H Q I h
 refine isTrue_and (bP (ha pins s σ H _ I h) fun c s1 ⟨H1,I1,q1⟩=>?_)
 cases c with
 |true=>exact hb wh pins s1 σ H1 Q I1 q1
 |false=>exact⟨H1,I1,q1⟩
theorem Gz(ha:PT X a tA)(hb:PW X (.BoolOp .Or (b::rest) pos) tB'):PW X (.BoolOp .Or (a::b::rest) pos) (Jv tA tB'):=by
 intro wh pins s σ H Q I h
 refine isTrue_or (bP (ha pins s σ H _ I h) fun c s1 ⟨H1,I1,q1⟩=>?_)
 cases c with
 |true=>exact⟨H1,I1,q1⟩
 |false=>exact hb wh pins s1 σ H1 Q I1 q1
theorem zZ(ha:PT X a tA):PT X (.UnaryOp .Not a pos) (IE tA):=by
 intro pins s σ H Q I h
 exact isTrue_not (ha pins s σ H (fun c H1=>Q (!c) H1) I h)
noncomputable def Jw(t:TT)(ta tb:TE):TE:=fun σ H Q=>t σ H fun c H1=>if c=true then ta σ H1 Q else tb σ H1 Q
theorem jg{c:Expr}(hc:PT X c tA)(ha:PE X a ta)(hb:PE X b tb):PE X (.IfExp c a b pos) (Jw tA ta tb):=by
 intro pins s σ H Q I h
 refine wpAny_IfExp (bP (hc pins s σ H _ I h) fun d s1 ⟨H1,I1,q1⟩=>?_)
 cases d with
 |true=>exact ha pins s1 σ H1 Q I1 q1
 |false=>exact hb pins s1 σ H1 Q I1 q1
end
noncomputable def cR(K:PySem.W.Frag)(H:Hp)(a:Addr)(xs:List V):Prop :=
 Rd H a (.lst xs) \/
  ∃(o:Obj) (its:Array Value) (n:Nat),K.lookup a=some o/\o.cls=.type "list"/\o.dict=none/\o.data=.seq its n/\its.size<=sizeLine/\Vals xs its.toList
noncomputable def bT(K:PySem.W.Frag)(H:Hp)(a:Addr)(xs:List V):Prop :=
 Rd H a (.tup xs) \/
  ∃(o:Obj) (its:Array Value) (n:Nat),K.lookup a=some o/\o.cls=.type "tuple"/\o.data=.seq its n/\its.size<=sizeLine/\Vals xs its.toList/\o.dict=none
noncomputable def IF:Value->Option V
 |.none=>some .eW
 |.bool b=>some (.bl b)
 |.int i _=>some (.int i)
 |.str x _=>some (.str x)
 |.bytes b _=>some (.byt b)
 |.float b _=>some (.flt b)
 |.ref a=>some (.ref a)
 |.type n=>some (.ty n)
 |_=>none
theorem RelV.abs{x:V}{u:Value}(r:RelV x u):IF u=some x:=by
 cases x with
 |eW=>cases r;rfl
 |bl _=>cases r;rfl
 |int _=>obtain⟨t,rfl⟩:=r;rfl
 |str _=>obtain⟨t,rfl⟩:=r;rfl
 |byt _=>obtain⟨t,rfl⟩:=r;rfl
 |flt _=>obtain⟨t,rfl⟩:=r;rfl
 |ref _=>cases r;rfl
 |ty _=>cases r;rfl
theorem RelV.inj{x y:V}{u:Value}(r:RelV x u)(q:RelV y u):x=y:=Option.some.inj (r.abs.symm.trans q.abs)
theorem Vals.inj:∀{xs ys:List V}{us:List Value},Vals xs us->Vals ys us->xs=ys
 |_,_,_,.nil,.nil=>rfl
 |_,_,_,.cons r t,.cons r' t'=>by rw[r.inj r',Vals.inj t t']
section
variable {X:Cx}{pins:List (Addr×Obj)}{σ:St}{H:Hp}{s:Shared}{a:Addr}{xs ys:List V}
theorem cR.of{K:PySem.W.Frag}(h:H a=some (.lst xs)):cR K H a xs:=.inl (.inl h)
theorem bT.of{K:PySem.W.Frag}(h:H a=some (.tup xs)):bT K H a xs:=.inl (.inl h)
theorem Inv.list(I:Inv X pins σ H s)(h:cR X.K H a xs):∃its:List Value,Vals xs its/\PlainL s.heap a its.toArray/\xs.length<=sizeLine:=by
 rcases h with h|⟨o,its,n,hk,hc,hd,hs,hz,r⟩
 ·obtain⟨z,its,n,r,e⟩:=h.ok I.hok
  exact⟨its,r,⟨_,n,e,rfl,rfl,rfl⟩,z⟩
 ·refine⟨its.toList,r,⟨o,n,I.tV a o hk,hc,hd,by simpa using hs⟩,?_⟩
  have e:=r.length
  simp only[Array.length_toList]at e
  omega
theorem Inv.tuple(I:Inv X pins σ H s)(h:bT X.K H a xs):∃its:List Value,Vals xs its/\IsTup s.heap a its.toArray/\xs.length<=sizeLine:=by
 rcases h with h|⟨o,its,n,hk,hc,hs,hz,r,_⟩
 ·obtain⟨z,its,r,p,_⟩:=h.ok I.hok
  exact⟨its,r,p,z⟩
 ·refine⟨its.toList,r,⟨o,I.tV a o hk,hc,n,by simpa using hs⟩,?_⟩
  have e:=r.length
  simp only[Array.length_toList]at e
  omega
theorem Inv.Aa(I:Inv X pins σ H s)(h:cR X.K H a xs)(h':cR X.K H a ys):xs=ys:=by
 obtain⟨its,r,⟨o,n,e,_,_,d⟩,_⟩:=I.list h
 obtain⟨its',r',⟨o',n',e',_,_,d'⟩,_⟩:=I.list h'
 rw[e]at e';cases e'
 rw[d]at d'
 injection d' with d1 _
 have:its=its':=by simpa using congrArg Array.toList d1
 subst this
 exact r.inj r'
theorem Inv.qB(I:Inv X pins σ H s)(h:bT X.K H a xs)(h':bT X.K H a ys):xs=ys:=by
 obtain⟨its,r,⟨o,e,_,n,d⟩,_⟩:=I.tuple h
 obtain⟨its',r',⟨o',e',_,n',d'⟩,_⟩:=I.tuple h'
 rw[e]at e';cases e'
 rw[d]at d'
 injection d' with d1 _
 have:its=its':=by simpa using congrArg Array.toList d1
 subst this
 exact r.inj r'
end
noncomputable abbrev Cx.qj(X:Cx)(E:Value->Shared->Prop):Cx:={X with xe:=E}
noncomputable abbrev Cx.tX(X:Cx):Cx:=X.qj fun _ _=>False
theorem Cx.Ok.qj{X:Cx}(ok:X.Ok)(E:Value->Shared->Prop):(X.qj E).Ok :=
 ⟨ok.mod,ok.kind,ok.glob,ok.blt,ok.above,ok.inj,ok.has,ok.cab,ok.hd,ok.frames,ok.stk,ok.exf,ok.bs,ok.bsz,ok.noex,ok.exfs,ok.nJ,ok.frf⟩
theorem Cx.Ok.jS{X:Cx}{E:Value->Shared->Prop}(ok:(X.qj E).Ok):X.Ok :=
 ⟨ok.mod,ok.kind,ok.glob,ok.blt,ok.above,ok.inj,ok.has,ok.cab,ok.hd,ok.frames,ok.stk,ok.exf,ok.bs,ok.bsz,ok.noex,ok.exfs,ok.nJ,ok.frf⟩
section
variable {X:Cx}{pins:List (Addr×Obj)}{σ:St}{H:Hp}{s:Shared}{E:Value->Shared->Prop}
theorem Inv.qj(I:Inv X pins σ H s)(E:Value->Shared->Prop):Inv (X.qj E) pins σ H s:=⟨I.ok.qj E,I.os,I.bare,I.base,I.loc,I.cell,I.free,I.freeC,I.pin,I.hok,I.len⟩
theorem Inv.jS(I:Inv (X.qj E) pins σ H s):Inv X pins σ H s:=⟨I.ok.jS,I.os,I.bare,I.base,I.loc,I.cell,I.free,I.freeC,I.pin,I.hok,I.len⟩
theorem SP.jS{D:Ends}{f:Flow}{s':Shared}(h:SP (X.qj E) pins D f s'):SP X pins D f s':=by
 cases f with
 |next=>obtain⟨σ',H',I,q⟩:=h;exact⟨σ',H',I.jS,q⟩
 |brk=>obtain⟨σ',H',I,q⟩:=h;exact⟨σ',H',I.jS,q⟩
 |cont=>obtain⟨σ',H',I,q⟩:=h;exact⟨σ',H',I.jS,q⟩
 |ret u=>obtain⟨v,σ',H',I,r,q⟩:=h;exact⟨v,σ',H',I.jS,r,q⟩
theorem vH.tX{st:List Stmt}{t:TS}(h:vH X.tX st t):vH X st t:=fun pins s σ H D I hw =>
 wpAny_mono (h pins s σ H D (I.qj _) hw) (fun _ _ q=>q.jS) fun _ _ z=>False.elim z
end
section
variable {X:Cx}{st:Stmt}{rest:List Stmt}{t u:TS}{e:Expr}{te:TE}{pos:Pos}
noncomputable def D7:TS:=fun D σ H=>D.nx σ H
noncomputable def aT(t u:TS):TS:=fun D σ H=>t {D with nx:=u D} σ H
theorem iO:vH X [] D7:=fun _ _ σ H _ I h=>wpAny_execs_nil ⟨σ,H,I,h⟩
theorem cz(h1:PS X st t)(h2:vH X rest u):vH X (st::rest) (aT t u):=by
 intro pins s σ H D I h
 refine wpAny_execs_cons (bP (h1 pins s σ H {D with nx:=u D} I h) fun f s1 q=>?_)
 cases f with
 |next =>
  obtain⟨σ',H',I',q⟩:=q
  exact h2 pins s1 σ' H' D I' q
 |ret v=>exact q
 |brk=>exact q
 |cont=>exact q
theorem dH(h1:PS X st t):vH X [st] t:=by
 intro pins s σ H D I h
 refine wpAny_execs_cons (bP (h1 pins s σ H D I h) fun f s1 q=>?_)
 cases f with
 |next=>exact wpAny_execs_nil q
 |ret v=>exact q
 |brk=>exact q
 |cont=>exact q
theorem Inv.quiet{pins:List (Addr×Obj)}{σ:St}{H:Hp}{s:Shared}(I:Inv X pins σ H s):interactive X.env=false:=by simp[interactive,I.ok.kind]
noncomputable def GA(te:TE):TS:=fun D σ H=>te σ H fun _ H1=>D.nx σ H1
theorem CB(he:PE X e te)(hs:swapsWith e none pos.line X.env=pure false:=by rfl):PS X (.Expr e pos) (GA te):=by
 intro pins s σ H D I h
 exact wpAny_Expr_any (bP (he pins s σ H _ I h) fun v s1 ⟨x,H1,I1,r1,q1⟩=>⟨σ,H1,I1,q1⟩) I.quiet hs
noncomputable def EE(te:TE):TS:=fun D σ H=>te σ H D.rt
theorem iz(he:PE X e te):PS X (.Return (some e) pos) (EE te):=by
 intro pins s σ H D I h
 exact wpAny_Return_some (bP (he pins s σ H _ I h) fun v s1 ⟨x,H1,I1,r1,q1⟩=>⟨x,σ,H1,I1,r1,q1⟩)
noncomputable def IG(c:TT)(t u:TS):TS:=fun D σ H=>c σ H fun b H1=>if b=true then t D σ H1 else u D σ H1
theorem dU{c:Expr}{a b:List Stmt}{tc:TT}(hc:PT X c tc)(ha:vH X a t)(hb:vH X b u):PS X (.If c a b pos) (IG tc t u):=by
 intro pins s σ H D I h
 refine wpAny_If (bP (hc pins s σ H _ I h) fun d s1 ⟨H1,I1,q1⟩=>?_)
 cases d with
 |true=>exact ha pins s1 σ H1 D I1 q1
 |false=>exact hb pins s1 σ H1 D I1 q1
noncomputable def EF:TS:=fun _ _ _=>False
theorem Ab:PS X st EF:=fun _ _ _ _ _ _ h=>h.elim
end
noncomputable abbrev TG:=V->St->Hp->(St->Hp->Prop)->Prop
noncomputable abbrev D8:=List V->St->Hp->(St->Hp->Prop)->Prop
noncomputable def PG(X:Cx)(target:Expr)(t:TG):Prop :=
 ∀(pins:List (Addr×Obj)) (s:Shared) (σ:St) (H:Hp) (v:V) (u:Value) (Q:St->Hp->Prop),Inv X pins σ H s->RelV v u->t v σ H Q ->
  wpAny (model X.prog X.w) X.A (assign target X.env u) (fun _ s'=>∃σ' H',Inv X pins σ' H' s'/\Q σ' H') X.xe s
noncomputable def GB(X:Cx)(ts:List Expr)(t:D8):Prop :=
 ∀(pins:List (Addr×Obj)) (s:Shared) (σ:St) (H:Hp) (vs:List V) (us:List Value) (Q:St->Hp->Prop),Inv X pins σ H s->Vals vs us->t vs σ H Q ->
  wpAny (model X.prog X.w) X.A (assignInOrder ((assignEach ts X.env).map (·.2)) us) (fun _ s'=>∃σ' H',Inv X pins σ' H' s'/\Q σ' H') X.xe s
noncomputable abbrev EG:=V->V->V->Hp->(Hp->Prop)->Prop
noncomputable def GC(X:Cx)(t:EG):Prop :=
 ∀(pins:List (Addr×Obj)) (s:Shared) (σ:St) (H:Hp) (o i v:V) (ov iv u:Value) (Q:Hp->Prop),Inv X pins σ H s->RelV o ov->RelV i iv->RelV v u->t o i v H Q ->
  wpAny (model X.prog X.w) X.A (setItem ov iv u) (fun _ s'=>∃H',Inv X pins σ H' s'/\Q H') X.xe s
section
variable {X:Cx}{pos:Pos}
noncomputable def dW(i:Nat):TG:=fun v σ H Q=>Q (σ.set i (some v)) H
theorem gY{i:Nat}{x:Str}(hN:X.N.Nodup)(hi:X.N[i]?=some x)(hx:Loc X.env.scope x)(hf:X.fn x=true\/X.env.scope.names.lookup x=some .local:=by first|exact .inl rfl|exact .inr rfl|assumption):PG X (.Name x pos) (dW i):=by
 intro pins s σ H v u Q I r h
 exact wpAny_assign_Name (lK I hN hi hx r (fun s' I'=>⟨_,H,I',h⟩) hf)
noncomputable def vJ:D8:=fun vs σ H Q=>vs=[]/\Q σ H
noncomputable def iB(t:TG)(u:D8):D8:=fun vs σ H Q=>∃v r,vs=v::r/\t v σ H fun σ' H'=>u r σ' H' Q
theorem bh:GB X [] vJ:=by
 intro pins s σ H vs us Q I r h
 obtain⟨e,h⟩:=h
 subst e
 cases r
 exact assignInOrder_nil ⟨σ,H,I,h⟩
theorem aQ{e:Expr}{es:List Expr}{t:TG}{u:D8}(h1:PG X e t)(h2:GB X es u)
  (hs:(assignEach (e::es) X.env).map (·.2)=assign e X.env::(assignEach es X.env).map (·.2):=by rfl):GB X (e::es) (iB t u):=by
 intro pins s σ H vs us Q I r h
 obtain⟨v,vr,e1,h⟩:=h
 subst e1
 cases r with
 |cons r rr =>
  rw[hs]
  refine assignInOrder_cons (bP (h1 pins s σ H _ _ _ I r h) fun _ s1 ⟨σ1,H1,I1,q1⟩=>?_)
  exact h2 pins s1 σ1 H1 _ _ Q I1 rr q1
noncomputable def uf(K:PySem.W.Frag)(n:Nat)(t:D8):TG:=fun v σ H Q=>∃a xs,v=.ref a/\bT K H a xs/\xs.length=n/\t xs σ H Q
theorem EH{es:List Expr}{k:Nat}{t:D8}{n:Nat}(hc:X.calm=true)(h:GB X es t)
  (hn:(assignEach es X.env).length=n:=by rfl) (hst:(assignEach es X.env).findIdx? (·.1)=none:=by rfl):PG X (.Tuple es k pos) (uf X.K n t):=by
 intro pins s σ H v u Q I r hw
 obtain⟨a,xs,e1,hq,hl,hw⟩:=hw
 subst e1
 cases r
 obtain⟨its,rv,ht,hz⟩:=I.tuple hq
 refine assign_Tuple_tuple (I.ok.hd hc) ht (by simp[hn,←hl,rv.length]) hst fun h' hx=>?_
 have I1:Inv X pins σ H {s with heap:=h'}:=I.kept (t':=s.toks) fun b o e=>hx b o (Nat.ne_of_lt (Heap.lt_size e)) e
 exact h pins _ σ H xs _ Q I1 (by simpa using rv) hw
noncomputable def II(to ti:TE)(t:EG):TG:=fun v σ H Q=>to σ H fun o H1=>ti σ H1 fun i H2=>t o i v H2 fun H3=>Q σ H3
theorem vK{o i:Expr}{to ti:TE}{t:EG}(ho:PE X o to)(hi:PE X i ti)(hs:GC X t)
  (ha:∀v,assign (.Subscript o i pos) X.env v=(do
   let ov ←holding [v] (eval o X.env)
   let iv ←holding [v,ov] (eval i X.env)
   standAt pos
   holding [v,ov,iv] (setItem ov iv v)
   release [v,ov,iv] []):=by intro _;rfl):PG X (.Subscript o i pos) (II to ti t):=by
 intro pins s σ H v u Q I r h
 rw[ha]
 refine wpAny_bind (wpAny_holding (bP (ho pins s σ H _ I h) fun ov s1 ⟨x,H1,I1,r1,q1⟩=>?_))
 refine wpAny_bind (wpAny_holding (bP (hi pins s1 σ H1 _ I1 q1) fun iv s2 ⟨y,H2,I2,r2,q2⟩=>?_))
 refine wpAny_bind (wpAny_standAt (wpAny_bind (wpAny_holding (bP (hs pins s2 σ H2 x y v ov iv u _ I2 r1 r2 r q2) fun _ s3 ⟨H3,I3,q3⟩=>?_))))
 exact wpAny_release ⟨σ,H3,I3,q3⟩
noncomputable def nK(te:TE)(g:TG):TS:=fun D σ H=>te σ H fun x H1=>g x σ H1 D.nx
theorem vL{tg e:Expr}{te:TE}{g:TG}(he:PE X e te)(hg:PG X tg g)(hs:swapsWithSole [tg] e pos.line X.env=pure false:=by rfl)(hw:swappedStores [tg] e X.env=pure none:=by rfl)
  (h1:(assignEach [tg] X.env).map (·.2)=[assign tg X.env]:=by rfl):PS X (.Assign [tg] e pos) (nK te g):=by
 intro pins s σ H D I h
 refine wpAny_Assign_stores (bP (he pins s σ H _ I h) fun v s1 ⟨x,H1,I1,r1,q1⟩=>?_) hs hw
 rw[h1]
 exact bP (hg pins s1 σ H1 x v _ I1 r1 q1) fun _ s2 q=>q
theorem jy{i:Nat}{x:Str}{e:Expr}{te:TE}{pos':Pos}(hN:X.N.Nodup)(hi:X.N[i]?=some x)(hx:Loc X.env.scope x)(he:PE X e te)(hs:swapsWith e (some (.Name x pos')) pos.line X.env=pure false:=by rfl)(hf:X.fn x=true\/X.env.scope.names.lookup x=some .local:=by first|exact .inl rfl|exact .inr rfl|assumption) :
  PS X (.Assign [.Name x pos'] e pos) (nK te (dW i)):=by
 intro pins s σ H D I h
 refine wpAny_Assign_Name (bP (he pins s σ H _ I h) fun v s1 ⟨y,H1,I1,r1,q1⟩=>?_) hs
 exact lK I1 hN hi hx r1 (fun s2 I2=>⟨_,H1,I2,q1⟩) hf
noncomputable def GD(i j:Nat)(ta:TA):TS:=fun D σ H=>ta σ H fun vs H1=>∃v w,vs=[v,w]/\D.nx ((σ.set i (some v)).set j (some w)) H1
theorem kY{i j:Nat}{x y:Str}{a b:Expr}{ta:TA}{px py pt:Pos}{kt k2 pt2}(hc:X.calm=true)(hN:X.N.Nodup)(hi:X.N[i]?=some x)(hj:X.N[j]?=some y)(hij:i≠j)
  (hx:X.env.scope.names.lookup x=some .local) (hy:X.env.scope.names.lookup y=some .local) (ha:PA X [a,b] ta)
  (hw:swappedStores [.Tuple [.Name x px,.Name y py] kt pt] (.Tuple [a,b] k2 pt2) X.env=pure (some [x,y]))
  (hs:swapsWithSole [.Tuple [.Name x px,.Name y py] kt pt] (.Tuple [a,b] k2 pt2) pos.line X.env=pure false:=by rfl) :
  PS X (.Assign [.Tuple [.Name x px,.Name y py] kt pt] (.Tuple [a,b] k2 pt2) pos) (GD i j ta):=by
 intro pins s σ H D I h
 rw[exec_Assign_arm]
 refine wpAny_bind (wpAny_standAt ?_)
 rw[hs]
 refine wpAny_bind (wpAny_pure ?_)
 rw[if_neg (by decide)]
 refine wpAny_bind (Tuple_ (bP (ha _ pins s σ H _ I h) fun us s1 ⟨vs,H1,I1,r1,q1⟩=>?_))
 obtain⟨v,w,e1,q1⟩:=q1
 subst e1
 obtain⟨u1,u2,rfl,rv,rw'⟩:∃u1 u2,us=[u1,u2]/\RelV v u1/\RelV w u2:=by
  cases r1 with
  |cons p q =>
   cases q with
   |cons p' q' =>
    cases q'
    exact⟨_,_,rfl,p,p'⟩
 refine wpAny_newObj_type ?_ (by show 2<=sizeLine;decide)
 have I2:Inv X pins σ H1 {s1 with heap:=s1.heap.push {cls:=.type "tuple",data:=.seq [u1,u2].toArray}}:=I1.kept (t':=s1.toks) fun b o e=>Heap.get?_push_of_some _ e
 rw[hw]
 refine wpAny_bind (wpAny_pure ?_)
 show wpAny (model X.prog X.w) X.A (do rule "assign.swapped-stores";let items ←unpackItems (.ref s1.heap.objs.size) 2 none;assignInOrder [fun v=>bindName X.env y v,fun v=>bindName X.env x v] items.reverse;pure Flow.next) _ _ _
 refine wpAny_bind (wpAny_rule (wpAny_bind (unpackItems_tuple (items:=#[u1,u2]) (I.ok.hd hc) (IsTup.new s1.heap _) fun h' hx'=>?_)))
 have I3:=I2.kept (h':=h') (t':=s1.toks) fun b o e=>hx' b o (Nat.ne_of_lt (Heap.lt_size e)) e
 show wpAny _ _ (assignInOrder [fun v=>bindName X.env y v,fun v=>bindName X.env x v] [u2,u1]>>=fun _=>pure Flow.next) _ _ _
 refine wpAny_bind (assignInOrder_cons (wpAny_bindName (lK I3 hN hj (.inl hy) rw' (fun s2 I4=>?_) (.inr hy))))
 refine assignInOrder_cons (wpAny_bindName (lK I4 hN hi (.inl hx) rv (fun s3 I5=>assignInOrder_nil (wpAny_pure ?_)) (.inr hx)))
 rw[List.set_comm _ _ (Ne.symm hij)]at I5
 exact⟨_,H1,I5,q1⟩
end
section
variable {X:Cx}{pos:Pos}
noncomputable def EI(c:TT)(tb:TS):TS:=fun D σ H=>∃W:Nat->St->Hp->Prop,(∃m,W m σ H)/\∀m σ H,W m σ H ->
 c σ H fun b H1=>if b=true then ∃N:St->Hp->Prop,(∀σ' H',N σ' H'->∃m',m' < m/\W m' σ' H')/\tb {D with nx:=N,ct:=N,bk:=D.nx} σ H1 else D.nx σ H1
theorem Ac{c:Expr}{body:List Stmt}{tc:TT}{tb:TS}(hp:PassesOwn (model X.prog X.w) X.A X.env X.xe)(hc:PT X c tc)(hb:vH X body tb):PS X (.While c body [] pos) (EI tc tb):=by
 intro pins s σ H D I h
 obtain⟨W,⟨m0,w0⟩,turn⟩:=h
 refine wpAny_While (codeAny_whileLoop (fun n s'=>∃σ' H',Inv X pins σ' H' s'/\W n σ' H') ?_ m0 ⟨σ,H,I,w0⟩)
 rintro n s1 ⟨σ1,H1,I1,w1⟩
 refine wpAny_passesOwn hp (bP (hc pins s1 σ1 H1 _ I1 (turn n σ1 H1 w1)) fun b s2 ⟨H2,I2,q2⟩=>?_)
 cases b with
 |true =>
  obtain⟨N,hN,q2⟩:=q2
  rw[if_pos rfl]
  refine wpAny_passesOwn hp (bP (hb pins s2 σ1 H2 _ I2 q2) fun f s3 q3=>?_)
  cases f with
  |next =>
   obtain⟨σ3,H3,I3,n3⟩:=q3
   obtain⟨m',hm,w3⟩:=hN σ3 H3 n3
   exact⟨m',hm,σ3,H3,I3,w3⟩
  |cont =>
   obtain⟨σ3,H3,I3,n3⟩:=q3
   obtain⟨m',hm,w3⟩:=hN σ3 H3 n3
   exact⟨m',hm,σ3,H3,I3,w3⟩
  |brk=>exact q3
  |ret v=>exact q3
 |false =>
  rw[if_neg Bool.false_ne_true]
  exact wpAny_execs_nil ⟨σ1,H2,I2,q2⟩
end
structure It where
 go:Nat->Hp->Prop
 yld:Nat->Hp->V->Hp->Prop
 stop:Nat->Hp->Prop
noncomputable def mT(X:Cx)(pins:List (Addr×Obj))(H:Hp)(b:Addr):Prop :=
 H b=none/\b≠X.env.locals/\b∉X.fs/\(b∈X.ex\/X.s₀.heap.objs.size<=b)/\(∀x c,X.env.cells.lookup x=some c->c≠b)/\∀p∈X.pn++pins,p.1≠b
theorem Inv.EJ{X:Cx}{pins:List (Addr×Obj)}{σ:St}{H H':Hp}{s:Shared}{b:Addr}(I:Inv X pins σ H s)(hb:s.heap.objs.size<=b)(hn:H' b=none):mT X pins H' b:=by
 refine⟨hn,Nat.ne_of_gt (Nat.lt_of_lt_of_le I.lt hb),I.vI hb,.inr (Nat.le_trans I.sz hb),fun x c e z=>?_,fun p hp z=>?_⟩
 ·obtain⟨v,q⟩:=I.cell x c e
  exact absurd (Nat.lt_of_lt_of_le q.lt (by rw[z];exact hb)) (Nat.lt_irrefl _)
 ·exact absurd (Nat.lt_of_lt_of_le (Heap.lt_size (I.pin p hp).1) (by rw[z];exact hb)) (Nat.lt_irrefl _)
structure Turn(P:Program) (w:World) (K:PySem.W.Frag) (tg:Expr) (J:It) (fp:List Addr) (it:Addr) (tn:Nat->Heap->Prop):Prop where
 mem:it∈fp
 obj:∀i h,tn i h->∀b∈fp,∃o,h.get? b=some o/\∀v,o.data≠.cell v
 keep:∀i h h',tn i h->(∀b∈fp,∀o,h.get? b=some o->h'.get? b=some o)->tn i h'
 item:∀(X:Cx),X.prog=P->X.w=w->X.K=K->X.calm=true->∀(i:Nat) (pins:List (Addr×Obj)) (s:Shared) (σ:St) (H:Hp) (E:Value->Shared->Prop),Inv X pins σ H s->(∀b∈fp,mT X pins H b)->tn i s.heap->J.go i H ->
  wpAny (model P w) X.A (pyNext (.ref it)) (fun r s1=>∃u,r=some u /\
   wpAny (model P w) X.A (letOwnedTupleGo tg (.ref it) u) (fun _ s2=>∃x H',Inv X pins σ H' s2/\RelV x u/\J.yld i H x H'/\tn (i+1) s2.heap/\∀b∈fp,H' b=none) E s1) E s
 done:∀(X:Cx),X.prog=P->X.w=w->X.K=K->X.calm=true->∀(i:Nat) (pins:List (Addr×Obj)) (s:Shared) (σ:St) (H:Hp) (E:Value->Shared->Prop),Inv X pins σ H s->(∀b∈fp,mT X pins H b)->tn i s.heap->J.stop i H ->
  wpAny (model P w) X.A (pyNext (.ref it)) (fun r s1=>r=none/\Inv X pins σ H s1) E s
 self:∀(A:Around) (i:Nat) (s:Shared) (Q:Value->Shared->Prop) (E:Value->Shared->Prop),tn i s.heap->Q (.ref it) s->wpAny (model P w) A (pyIter (.ref it)) Q E s
noncomputable abbrev TI:=St->Hp->(It->Hp->Prop)->Prop
noncomputable def Jo(X:Cx)(pins:List (Addr×Obj))(σ:St)(tg:Expr)(R:It->Hp->Prop)(itv:Value)(s2:Shared):Prop :=
 ∃(it:Addr) (fp:List Addr) (tn:Nat->Heap->Prop) (J:It) (H':Hp),itv=.ref it/\Inv X pins σ H' s2/\Turn X.prog X.w X.K tg J fp it tn/\tn 0 s2.heap/\(∀b∈fp,mT X pins H' b)/\R J H'
noncomputable def PI(X:Cx)(tg iter:Expr)(wi:TI):Prop :=
 ∀(pins:List (Addr×Obj)) (s:Shared) (σ:St) (H:Hp) (R:It->Hp->Prop),Inv X pins σ H s->wi σ H R ->
  wpAny (model X.prog X.w) X.A (eval iter X.env) (fun v s1=>wpAny (model X.prog X.w) X.A (pyIter v) (Jo X pins σ tg R) X.xe s1) X.xe s
theorem Ad {M : Model} {A : Around} {E : Value → Shared → Prop} {s : Shared} {tg : Expr} {it : Addr} {u : Value} {o : Obj} {n : String} {vs : Array Value} {Q : Unit → Shared → Prop} (ho : s.heap.get? it = some o) (hc : o.cls = .type n) (hd : o.data = .fields vs)
    (hn : ["enumerate", "zip", "dict_itemiterator", "dict_reverseitemiterator", "odict_iterator", "itertools.zip_longest", "itertools.pairwise"].contains n = false) (hQ : Q () s) : wpAny M A (letOwnedTupleGo tg (.ref it) u) Q E s := by
  unfold letOwnedTupleGo
  cases tg <;> first
    | exact wpAny_pure hQ
    | (cases u <;> first
        | exact wpAny_pure hQ
        | (refine wpAny_bind (wpAny_load ho ?_)
           rw [hc, hd]
           show wpAny M A (if (["enumerate", "zip", "dict_itemiterator", "dict_reverseitemiterator", "odict_iterator", "itertools.zip_longest", "itertools.pairwise"].contains n && vs[0]? == some (rawInt _)) = true then _ else _) Q E s
           rw [if_neg (by intro h; rw [hn, Bool.false_and] at h; cases h)]
           exact wpAny_pure hQ))
noncomputable def EK(K:PySem.W.Frag)(a:Addr):It :=
 ⟨fun i H=>∃xs x,cR K H a xs/\xs[i]?=some x,fun i H x H'=>H'=H/\∀xs,cR K H a xs->xs[i]?=some x,fun i H=>∃xs,cR K H a xs/\xs.length<=i⟩
noncomputable def EL(K:PySem.W.Frag)(a:Addr):It :=
 ⟨fun i H=>∃xs x,bT K H a xs/\xs[i]?=some x,fun i H x H'=>H'=H/\∀xs,bT K H a xs->xs[i]?=some x,fun i H=>∃xs,bT K H a xs/\xs.length<=i⟩
noncomputable def EM(lo:Int)(n:Nat):It:=⟨fun i _=>i<n,fun i H x H'=>H'=H/\x=.int (lo+i),fun i _=>n<=i⟩
theorem yL{P:Program}{w:World}{K:PySem.W.Frag}{tg:Expr}(a it:Addr):Turn P w K tg (EK K a) [it] it (fun i h=>h.IsListIter it a i) where
 mem:=by simp
 obj:=fun i h st b hb=>by
  have e:b=it:=by simpa using hb
  subst e
  obtain⟨o,e,c,d⟩:=st
  exact⟨o,e,fun v z=>by rw[d]at z;cases z⟩
 keep:=fun i h h' st k=>st.at fun o e=>k it (by simp) o e
 item:=by
  intro X hP hw hK hc i pins s σ H E I hf st hg
  subst hP hw hK
  obtain⟨xs,x,hq,hx⟩:=hg
  obtain⟨its,rv,p,hz⟩:=I.list hq
  obtain⟨u,hu,ru⟩:=rv.get hx
  obtain⟨f0,f1,f2,f3,f4,f5⟩:=hf it (by simp)
  refine wpAny_pyNext_list_item st p.isList (x:=u) (by simpa using hu) fun h' st' sb=>?_
  have I1:Inv X pins σ H {s with heap:=h'}:=I.turned (t':=s.toks) (fun b o hb e=>(sb.2 b hb).trans e) f0 f1 f3 f4 f5
  obtain⟨o,e,c,d⟩:=id st'
  exact⟨u,rfl,Ad (s:={s with heap:=h'}) e c d (by decide) ⟨x,H,I1,ru,⟨rfl,fun ys hy=>by rw[I.Aa hy hq];exact hx⟩,st',fun b hb=>(hf b hb).1⟩⟩
 done:=by
  intro X hP hw hK hc i pins s σ H E I hf st hg
  subst hP hw hK
  obtain⟨xs,hq,hx⟩:=hg
  obtain⟨its,rv,p,hz⟩:=I.list hq
  obtain⟨f0,f1,f2,f3,f4,f5⟩:=hf it (by simp)
  have hl:=rv.length
  exact wpAny_pyNext_list_end (I.ok.hd hc) st p.isList (by simp;omega) fun h' eb=>⟨rfl,I.turned (t':=s.toks) (fun b o hb e=>eb b o hb e) f0 f1 f3 f4 f5⟩
 self:=fun _ _ _ _ _ st h=>wpAny_pyIter_listiter st h
theorem vM{P:Program}{w:World}{K:PySem.W.Frag}{tg:Expr}(a it:Addr):Turn P w K tg (EL K a) [it] it (fun i h=>h.IsTupleIter it a i) where
 mem:=by simp
 obj:=fun i h st b hb=>by
  have e:b=it:=by simpa using hb
  subst e
  obtain⟨o,e,c,d⟩:=st
  exact⟨o,e,fun v z=>by rw[d]at z;cases z⟩
 keep:=fun i h h' st k=>st.at fun o e=>k it (by simp) o e
 item:=by
  intro X hP hw hK hc i pins s σ H E I hf st hg
  subst hP hw hK
  obtain⟨xs,x,hq,hx⟩:=hg
  obtain⟨its,rv,p,hz⟩:=I.tuple hq
  obtain⟨u,hu,ru⟩:=rv.get hx
  obtain⟨f0,f1,f2,f3,f4,f5⟩:=hf it (by simp)
  refine wpAny_pyNext_tuple_item st (show s.heap.IsTuple a its.toArray from p) (x:=u) (by simpa using hu) fun h' st' sb=>?_
  have I1:Inv X pins σ H {s with heap:=h'}:=I.turned (t':=s.toks) (fun b o hb e=>(sb.2 b hb).trans e) f0 f1 f3 f4 f5
  obtain⟨o,e,c,d⟩:=id st'
  exact⟨u,rfl,Ad (s:={s with heap:=h'}) e c d (by decide) ⟨x,H,I1,ru,⟨rfl,fun ys hy=>by rw[I.qB hy hq];exact hx⟩,st',fun b hb=>(hf b hb).1⟩⟩
 done:=by
  intro X hP hw hK hc i pins s σ H E I hf st hg
  subst hP hw hK
  obtain⟨xs,hq,hx⟩:=hg
  obtain⟨its,rv,p,hz⟩:=I.tuple hq
  obtain⟨f0,f1,f2,f3,f4,f5⟩:=hf it (by simp)
  have hl:=rv.length
  exact wpAny_pyNext_tuple_end (I.ok.hd hc) st (show s.heap.IsTuple a its.toArray from p) (by simp;omega) fun h' eb=>⟨rfl,I.turned (t':=s.toks) (fun b o hb e=>eb b o hb e) f0 f1 f3 f4 f5⟩
 self:=fun _ _ _ _ _ st h=>wpAny_pyIter_tupleiter st h
theorem vN{P:Program}{w:World}{K:PySem.W.Frag}{tg:Expr}(it:Addr)(lo:Int)(n:Nat):Turn P w K tg (EM lo n) [it] it (fun i h=>IsRangeIter h it (lo+(i:Nat)*1) ((n:Int) - (i:Nat)) 1) where
 mem:=by simp
 obj:=fun i h st b hb=>by
  have e:b=it:=by simpa using hb
  subst e
  exact⟨_,st,fun v z=>by
   have z':Data.fields _=Data.cell v:=z
   cases z'⟩
 keep:=fun i h h' st k=>k it (by simp) _ st
 item:=by
  intro X hP hw hK hc i pins s σ H E I hf st hg
  subst hP hw hK
  obtain⟨f0,f1,f2,f3,f4,f5⟩:=hf it (by simp)
  have W:=Walks.range (prog:=X.prog) (w:=X.w) (I.ok.hd hc) it lo 1 n
  refine W.item i s _ _ hg st fun v h' tk hv st' kk=>?_
  obtain⟨t,rfl⟩:=hv
  have I1:Inv X pins σ H {s with heap:=h',toks:=tk}:=I.turned (fun b o hb e=>kk b o (by simpa using hb) e) f0 f1 f3 f4 f5
  refine⟨_,rfl,Ad (s:={s with heap:=h',toks:=tk}) (n:="range_iterator") st' rfl rfl (by decide) ⟨.int (lo+i),H,I1,⟨t,?_⟩,⟨rfl,rfl⟩,st',fun b hb=>(hf b hb).1⟩⟩
  rw[Int.mul_one]
 done:=by
  intro X hP hw hK hc i pins s σ H E I hf st hg
  subst hP hw hK
  obtain⟨f0,f1,f2,f3,f4,f5⟩:=hf it (by simp)
  exact wpAny_pyNext_range_end (I.ok.hd hc) st (by have:n<=i:=hg;omega) fun h' eb=>⟨rfl,I.turned (t':=s.toks) (fun b o hb e=>eb b o hb e) f0 f1 f3 f4 f5⟩
 self:=fun _ _ _ _ _ st h=>wpAny_pyIter_rangeiter st h
section
variable {X:Cx}{tg:Expr}
noncomputable def GF(K:PySem.W.Frag)(tl:TE):TI:=fun σ H R=>tl σ H fun x H1=>∃a,x=.ref a/\(∃xs,cR K H1 a xs)/\R (EK K a) H1
noncomputable def GG(K:PySem.W.Frag)(tl:TE):TI:=fun σ H R=>tl σ H fun x H1=>∃a,x=.ref a/\(∃xs,bT K H1 a xs)/\R (EL K a) H1
theorem lN{l:Expr}{tl:TE}(hl:PE X l tl):PI X tg l (GF X.K tl):=by
 intro pins s σ H R I h
 refine bP (hl pins s σ H _ I h) fun v s1 ⟨x,H1,I1,r1,q1⟩=>?_
 obtain⟨a,e,⟨xs,hq⟩,q⟩:=q1
 subst e
 cases r1
 obtain⟨its,rv,p,hz⟩:=I1.list hq
 refine wpAny_pyIter_list p.isList ?_
 refine⟨s1.heap.objs.size,[s1.heap.objs.size],_,_,H1,rfl,I1.kept (t':=s1.toks) fun b o e=>Heap.get?_push_of_some _ e,yL a _,⟨_,Heap.get?_push_size _ rfl,rfl,rfl⟩,fun b hb=>?_,q⟩
 have e:b=s1.heap.objs.size:=by simpa using hb
 subst e
 exact I1.EJ (Nat.le_refl _) (I1.hok.fresh (Nat.le_refl _))
theorem jT{l:Expr}{tl:TE}(hl:PE X l tl):PI X tg l (GG X.K tl):=by
 intro pins s σ H R I h
 refine bP (hl pins s σ H _ I h) fun v s1 ⟨x,H1,I1,r1,q1⟩=>?_
 obtain⟨a,e,⟨xs,hq⟩,q⟩:=q1
 subst e
 cases r1
 obtain⟨its,rv,p,hz⟩:=I1.tuple hq
 refine wpAny_pyIter_tuple (show s1.heap.IsTuple a its.toArray from p) ?_
 refine⟨s1.heap.objs.size,[s1.heap.objs.size],_,_,H1,rfl,I1.kept (t':=s1.toks) fun b o e=>Heap.get?_push_of_some _ e,vM a _,⟨_,Heap.get?_push_size _ rfl,rfl,rfl⟩,fun b hb=>?_,q⟩
 have e:b=s1.heap.objs.size:=by simpa using hb
 subst e
 exact I1.EJ (Nat.le_refl _) (I1.hok.fresh (Nat.le_refl _))
theorem Ae{pins:List (Addr×Obj)}{σ:St}{H:Hp}{s:Shared}{R:It->Hp->Prop}{E:Value->Shared->Prop}{lo hi:Int}{t u v:Tok}{tk:Nat}(I:Inv X pins σ H s)(h1:-(2 ^ 62)<=lo)(h2:lo<2 ^ 62)(h3:-(2 ^ 62)<=hi)(h4:hi<2 ^ 62)
  (q:R (EM lo (hi-lo).toNat) H):wpAny (model X.prog X.w) X.A (pyIter (.ref s.heap.objs.size)) (Jo X pins σ tg R) E {s with heap:=s.heap.push {cls:=.type "range",data:=.fields #[.int lo t,.int hi u,.int 1 v]},toks:=tk}:=by
 refine wpAny_pyIter_range (IsRange.new ..) (small_one h1 h2 h3 h4) ?_
 have I1:Inv X pins σ H {s with heap:=s.heap.push {cls:=.type "range",data:=.fields #[.int lo t,.int hi u,.int 1 v]},toks:=tk}:=I.kept fun b o e=>Heap.get?_push_of_some _ e
 refine⟨(s.heap.push {cls:=.type "range",data:=.fields #[.int lo t,.int hi u,.int 1 v]}).objs.size,[(s.heap.push {cls:=.type "range",data:=.fields #[.int lo t,.int hi u,.int 1 v]}).objs.size],_,_,H,rfl,
  I1.kept (t':=tk) fun b o e=>Heap.get?_push_of_some _ e,vN _ lo (hi-lo).toNat,?_,fun b hb=>?_,q⟩
 ·have e1:lo+((0:Nat):Int)*1=lo:=by simp
  have e2:(((hi-lo).toNat:Nat):Int) - ((0:Nat):Int)=Builtin.Range.rangeSize lo hi 1:=by rw[rangeSize_one];split<;>omega
  show IsRangeIter _ _ (lo+((0:Nat):Int)*1) ((((hi-lo).toNat:Nat):Int) - ((0:Nat):Int)) 1
  rw[e1,e2]
  exact Heap.get?_push_size _ rfl
 ·have e:b=(s.heap.push {cls:=.type "range",data:=.fields #[.int lo t,.int hi u,.int 1 v]}).objs.size:=by simpa using hb
  subst e
  exact I1.EJ (Nat.le_refl _) (I1.hok.fresh (Nat.le_refl _))
noncomputable def GH(ta:TA):TI:=fun σ H R=>ta σ H fun vs H1=>∃j:Int,vs=[.int j]/\-(2 ^ 62)<=j/\j<2 ^ 62/\R (EM 0 j.toNat) H1
theorem jh{a:Expr}{ta:TA}{p pos:Pos}(hg:Gl X "range")(hm:X.mg "range"=none)(ha:PA X [a] ta)(hs:starEach [a] X.env=[(false,eval a X.env)]:=by rfl):PI X tg (.Call (.Name "range" p) [a] [] pos) (GH ta):=by
 intro pins s σ H R I h
 refine Call_ (kX I hg hm boot_range (PyProof.Rows.callWith_type1 (bP (ha pos pins s σ H _ I h) fun us s1 ⟨vs,H1,I1,r1,q1⟩=>?_) hs rfl))
 obtain⟨j,e,q1,q2,q⟩:=q1
 subst e
 cases r1 with
 |cons r rr =>
  cases rr
  obtain⟨t,rfl⟩:=r
  exact call_range_1 (Ae I1 (by omega) (by omega) q1 q2 (by simpa using q))
noncomputable def IJ(wi:TI)(g:TG)(tb:TS):TS:=fun D σ H=>wi σ H fun J H1=>∃W:Nat->Nat->St->Hp->Prop,(∃m,W 0 m σ H1)/\∀i m σ H,W i m σ H ->
 (J.stop i H/\D.nx σ H)\/(J.go i H/\∃N:St->Hp->Prop,(∀σ' H',N σ' H'->∃m',m' < m/\W (i+1) m' σ' H')/\∀x H',J.yld i H x H'->g x σ H' fun σ2 H2=>tb {D with nx:=N,ct:=N,bk:=D.nx} σ2 H2)
noncomputable def jU(fp:List Addr)(h:Heap):List (Addr×Obj):=fp.filterMap fun b=>(h.get? b).map fun o=>(b,o)
theorem cS{fp:List Addr}{h:Heap}{b:Addr}{o:Obj}(hb:b∈fp)(e:h.get? b=some o):(b,o)∈jU fp h:=List.mem_filterMap.mpr ⟨b,hb,by rw[e];rfl⟩
theorem yM{fp:List Addr}{h:Heap}{p:Addr×Obj}(hp:p∈jU fp h):p.1∈fp/\h.get? p.1=some p.2:=by
 obtain⟨b,hb,e⟩:=List.mem_filterMap.mp hp
 cases q:h.get? b with
 |none=>rw[q]at e;cases e
 |some o =>
  rw[q]at e
  have e':(b,o)=p:=Option.some.inj e
  subst e'
  exact⟨hb,q⟩
theorem Inv.pinned{pins:List (Addr×Obj)}{σ:St}{H:Hp}{s:Shared}{fp:List Addr}(I:Inv X pins σ H s)(hf:∀b∈fp,mT X pins H b)(ho:∀b∈fp,∃o,s.heap.get? b=some o/\∀v,o.data≠.cell v):Inv X (pins++jU fp s.heap) σ H s :=
 I.cD fun p hp=>(List.mem_append.mp hp).elim (fun z=>I.pin p (List.mem_append_right _ z)) fun z=>by
  obtain⟨hb,e⟩:=yM z
  obtain⟨f0,f1,f2,_⟩:=hf p.1 hb
  obtain⟨o,e',d⟩:=ho p.1 hb
  rw[e]at e';cases e'
  exact⟨e,f0,f1,f2,d⟩
theorem Inv.oJ{pins pl:List (Addr×Obj)}{σ:St}{H:Hp}{s:Shared}(I:Inv X (pins++pl) σ H s):Inv X pins σ H s:=I.cD fun p hp=>I.pin p (List.mem_append_right _ (List.mem_append_left _ hp))
theorem Af{iter:Expr}{body:List Stmt}{wi:TI}{g:TG}{tb:TS}{pos:Pos}(hp:PassesOwn (model X.prog X.w) X.A X.env X.xe)(hc:X.calm=true)(hi:PI X tg iter wi)(hg:PG X tg g)(hb:vH X body tb)
  (hs:∀x,foldedSetIterable iter X.env x=pure x:=by intro _;rfl):PS X (.For tg iter body [] pos) (IJ wi g tb):=by
 intro pins s σ H D I h
 refine wpAny_For (bP (hi pins s σ H _ I h) fun v s1 h1=>bP h1 fun itv s2 h2=>?_) hs
 obtain⟨it,fp,tn,J,H2,e,I2,T,st2,f2,W,⟨m0,w0⟩,turn⟩:=h2
 subst e
 -- what stays true of the iterator's objects through the loop
 have stat:∀{H':Hp},(∀b∈fp,H' b=none)->∀b∈fp,mT X pins H' b:=fun hn b hb=>⟨hn b hb,(f2 b hb).2⟩
 refine codeAny_forLoop_any (fun n s'=>∃i σ' H',Inv X pins σ' H' s'/\tn i s'.heap/\(∀b∈fp,H' b=none)/\W i n σ' H') ?_ m0 ⟨0,σ,H2,I2,st2,fun b hb=>(f2 b hb).1,w0⟩
 rintro n s3 ⟨i,σ3,H3,I3,st3,fr3,w3⟩
 rcases turn i n σ3 H3 w3 with⟨stop,qn⟩|⟨go,N,hN,step⟩
 ·refine wpAny_passesOwn hp (bP (T.done X rfl rfl rfl hc i pins s3 σ3 H3 X.xe I3 (stat fr3) st3 stop) fun r s4 ⟨hr,I4⟩=>?_)
  subst hr
  exact wpAny_execs_nil ⟨σ3,H3,I4,qn⟩
 ·refine wpAny_passesOwn hp (bP (T.item X rfl rfl rfl hc i pins s3 σ3 H3 X.xe I3 (stat fr3) st3 go) fun r s4 ⟨u,hr,h4⟩=>?_)
  subst hr
  refine wpAny_passesOwn hp (bP h4 fun _ s5 ⟨x,H5,I5,r5,y5,st5,fr5⟩=>?_)
  have I5':=I5.pinned (stat fr5) (T.obj _ _ st5)
  refine wpAny_passesOwn hp (bP (hg _ s5 σ3 H5 x u _ I5' r5 (step x H5 y5)) fun _ s6 ⟨σ6,H6,I6,q6⟩=>?_)
  refine wpAny_passesOwn hp (bP (hb _ s6 σ6 H6 _ I6 q6) fun f s7 q7=>?_)
  have again:∀{σ7:St}{H7:Hp},Inv X (pins++jU fp s5.heap) σ7 H7 s7->N σ7 H7->∃m,m<n/\∃i σ' H',Inv X pins σ' H' s7/\tn i s7.heap/\(∀b∈fp,H' b=none)/\W i m σ' H':=fun{σ7 H7} I7 n7=>by
   obtain⟨m',hm,w7⟩:=hN σ7 H7 n7
   refine⟨m',hm,i+1,σ7,H7,I7.oJ,T.keep _ _ _ st5 fun b hb o e=>(I7.pin (b,o) (List.mem_append_right _ (List.mem_append_right _ (cS hb e)))).1,fun b hb=>?_,w7⟩
   obtain⟨o,e,d⟩:=T.obj _ _ st5 b hb
   exact(I7.pin (b,o) (List.mem_append_right _ (List.mem_append_right _ (cS hb e)))).2.1
  cases f with
  |next=>obtain⟨σ7,H7,I7,n7⟩:=q7;exact again I7 n7
  |cont=>obtain⟨σ7,H7,I7,n7⟩:=q7;exact again I7 n7
  |brk=>obtain⟨σ7,H7,I7,q7⟩:=q7;exact⟨σ7,H7,I7.oJ,q7⟩
  |ret v=>obtain⟨x7,σ7,H7,I7,r7,q7⟩:=q7;exact⟨x7,σ7,H7,I7.oJ,r7,q7⟩
end
theorem Ag{K:PySem.W.Frag}{a:Addr}{xs:List V}{g:TG}{tb:TS}{D:Ends}{σ:St}{H:Hp}(Pv:Nat->St->Hp->Prop)(h0:Pv 0 σ H)(hl:∀i σ H,i<=xs.length->Pv i σ H->cR K H a xs)
  (hs:∀i x σ H,xs[i]?=some x->Pv i σ H->g x σ H fun σ2 H2=>tb {D with nx:=Pv (i+1),ct:=Pv (i+1),bk:=D.nx} σ2 H2) (hd:∀σ H,Pv xs.length σ H->D.nx σ H) :
  ∃W:Nat->Nat->St->Hp->Prop,(∃m,W 0 m σ H)/\∀i m σ H,W i m σ H ->
   ((EK K a).stop i H/\D.nx σ H)\/((EK K a).go i H/\∃N:St->Hp->Prop,(∀σ' H',N σ' H'->∃m',m' < m/\W (i+1) m' σ' H')/\∀x H',(EK K a).yld i H x H'->g x σ H' fun σ2 H2=>tb {D with nx:=N,ct:=N,bk:=D.nx} σ2 H2):=by
 refine⟨fun i m σ H=>m=xs.length-i/\i<=xs.length/\Pv i σ H,⟨xs.length,by simp,Nat.zero_le _,h0⟩,?_⟩
 rintro i m σ H ⟨rfl,hi,p⟩
 have q:=hl i σ H hi p
 by_cases hlt:i<xs.length
 ·refine .inr ⟨⟨xs,xs[i],q,by simp[hlt]⟩,Pv (i+1),fun σ' H' p'=>⟨xs.length - (i+1),by omega,rfl,hlt,p'⟩,fun x H' y=>?_⟩
  obtain⟨e,y⟩:=y
  subst e
  exact hs i x σ _ (y xs q) p
 ·have e:i=xs.length:=by omega
  subst e
  exact .inl ⟨⟨xs,q,Nat.le_refl _⟩,hd σ H p⟩
theorem yN{lo:Int}{n:Nat}{g:TG}{tb:TS}{D:Ends}{σ:St}{H:Hp}(Pv:Nat->St->Hp->Prop)(h0:Pv 0 σ H)
  (hs:∀i σ H,i<n->Pv i σ H->g (.int (lo+i)) σ H fun σ2 H2=>tb {D with nx:=Pv (i+1),ct:=Pv (i+1),bk:=D.nx} σ2 H2) (hd:∀σ H,Pv n σ H->D.nx σ H) :
  ∃W:Nat->Nat->St->Hp->Prop,(∃m,W 0 m σ H)/\∀i m σ H,W i m σ H ->
   ((EM lo n).stop i H/\D.nx σ H)\/((EM lo n).go i H/\∃N:St->Hp->Prop,(∀σ' H',N σ' H'->∃m',m' < m/\W (i+1) m' σ' H')/\∀x H',(EM lo n).yld i H x H'->g x σ H' fun σ2 H2=>tb {D with nx:=N,ct:=N,bk:=D.nx} σ2 H2):=by
 refine⟨fun i m σ H=>m=n-i/\i<=n/\Pv i σ H,⟨n,by simp,Nat.zero_le _,h0⟩,?_⟩
 rintro i m σ H ⟨rfl,hi,p⟩
 by_cases hlt:i<n
 ·refine .inr ⟨hlt,Pv (i+1),fun σ' H' p'=>⟨n - (i+1),by omega,rfl,hlt,p'⟩,fun x H' y=>?_⟩
  obtain⟨e,y⟩:=y
  subst e y
  exact hs i σ _ hlt p
 ·have e:i=n:=by omega
  subst e
  exact .inl ⟨Nat.le_refl _,hd σ H p⟩
noncomputable abbrev R2:=V->V->Hp->VK->Prop
noncomputable def lO(X:Cx)(f:Value->Value->Sem Value)(r:R2):Prop :=
 ∀(pins:List (Addr×Obj)) (s:Shared) (σ:St) (H:Hp) (x y:V) (v u:Value) (Q:VK),Inv X pins σ H s->RelV x v->RelV y u->r x y H Q ->
  wpAny (model X.prog X.w) X.A (f v u) (EP X pins σ Q) X.xe s
noncomputable def IK(X:Cx)(f:Value->Sem Value)(r:V->Hp->VK->Prop):Prop :=
 ∀(pins:List (Addr×Obj)) (s:Shared) (σ:St) (H:Hp) (x:V) (v:Value) (Q:VK),Inv X pins σ H s->RelV x v->r x H Q ->
  wpAny (model X.prog X.w) X.A (f v) (EP X pins σ Q) X.xe s
noncomputable def kL(X:Cx)(f:Value)(r:List V->Hp->VK->Prop):Prop :=
 ∀(pins:List (Addr×Obj)) (s:Shared) (σ:St) (H:Hp) (xs:List V) (us:List Value) (Q:VK),Inv X pins σ H s->Vals xs us->r xs H Q ->
  wpAny (model X.prog X.w) X.A (call f us) (EP X pins σ Q) X.xe s
noncomputable def IM(X:Cx)(r:V->Hp->(Bool->Hp->Prop)->Prop):Prop :=
 ∀(pins:List (Addr×Obj)) (s:Shared) (σ:St) (H:Hp) (x:V) (v:Value) (Q:Bool->Hp->Prop),Inv X pins σ H s->RelV x v->r x H Q ->
  wpAny (model X.prog X.w) X.A (truthy v) (TP X pins σ Q) X.xe s
noncomputable def qk(r:R2)(ta tb:TE):TE:=fun σ H Q=>ta σ H fun x H1=>tb σ H1 fun y H2=>r x y H2 Q
noncomputable def Jx(r:V->Hp->VK->Prop)(ta:TE):TE:=fun σ H Q=>ta σ H fun x H1=>r x H1 Q
noncomputable def rI(C:Int->Int->Prop)(g:Int->Int->V):R2:=fun x y H Q=>∃i j,x=.int i/\y=.int j/\C i j/\Q (g i j) H
noncomputable def EO(g:Int->Int->V):R2:=fun x y H Q=>∃i j,x=.int i/\y=.int j/\Q (g i j) H
noncomputable def rU(g:Int->V):V->Hp->VK->Prop:=fun x H Q=>∃i,x=.int i/\Q (g i) H
section
variable {X:Cx}{a b c:Expr}{ta tb tc:TE}{pos:Pos}
theorem ER(ha:PE X a ta)(hb:PE X b tb){pins:List (Addr×Obj)}{s:Shared}{σ:St}{H:Hp}{R:V->V->Hp->Prop}(I:Inv X pins σ H s)
  (h:ta σ H fun x H1=>tb σ H1 fun y H2=>R x y H2) {Q:Value->Shared->Prop}{f:Value->Value->Sem Value}
  (hf:∀v u s2 x y H2,Inv X pins σ H2 s2->RelV x v->RelV y u->R x y H2->wpAny (model X.prog X.w) X.A (f v u) Q X.xe s2) :
  wpAny (model X.prog X.w) X.A (eval a X.env) (fun v s₁=>wpAny (model X.prog X.w) X.A (eval b X.env) (fun u s₂=>wpAny (model X.prog X.w) X.A (f v u) Q X.xe s₂) X.xe s₁) X.xe s:=by
 refine bP (ha pins s σ H _ I h) fun v s1 ⟨x,H1,I1,r1,q1⟩=>?_
 refine bP (hb pins s1 σ H1 _ I1 q1) fun u s2 ⟨y,H2,I2,r2,q2⟩=>?_
 exact hf v u s2 x y H2 I2 r1 r2 q2
theorem bK{op:Operator}{r:R2}(ho:lO X (binaryOp op) r)(ha:PE X a ta)(hb:PE X b tb):PE X (.BinOp a op b pos) (qk r ta tb):=by
 intro pins s σ H Q I h
 exact wpAny_BinOp (ER ha hb I h fun v u s2 x y H2 I2 rx ry q=>ho pins s2 σ H2 x y v u Q I2 rx ry q)
theorem oK{op:UnaryOp}{r:V->Hp->VK->Prop}(ho:IK X (unaryOp op) r)(ha:PE X a ta):PE X (.UnaryOp op a pos) (Jx r ta):=by
 intro pins s σ H Q I h
 exact UnaryOp_ (bP (ha pins s σ H _ I h) fun v s1 ⟨x,H1,I1,r1,q1⟩=>ho pins s1 σ H1 x v Q I1 r1 q1)
theorem Ik{f:Value->Value->Sem Value}{C:Int->Int->Prop}{g:Int->Int->Int}
  (rule:∀(i j:Int) (t u:Tok) (s:Shared) (Q:Value->Shared->Prop) (E:Value->Shared->Prop),C i j->Q (.int (g i j) s.toks) {s with toks:=s.toks+1}->wpAny (model X.prog X.w) X.A (f (.int i t) (.int j u)) Q E s) :
  lO X f (rI C fun i j=>.int (g i j)):=by
 intro pins s σ H x y v u Q I rx ry h
 obtain⟨i,j,rfl,rfl,hc,q⟩:=h
 obtain⟨t,rfl⟩:=rx
 obtain⟨t',rfl⟩:=ry
 exact rule i j t t' s _ _ hc ⟨.int (g i j),H,I.tok _,⟨_,rfl⟩,q⟩
theorem GI{f:Value->Value->Sem Value}{g:Int->Int->Int}
  (rule:∀(i j:Int) (t u:Tok) (s:Shared) (Q:Value->Shared->Prop) (E:Value->Shared->Prop),Q (.int (g i j) s.toks) {s with toks:=s.toks+1}->wpAny (model X.prog X.w) X.A (f (.int i t) (.int j u)) Q E s) :
  lO X f (EO fun i j=>.int (g i j)):=by
 intro pins s σ H x y v u Q I rx ry h
 obtain⟨i,j,rfl,rfl,q⟩:=h
 obtain⟨t,rfl⟩:=rx
 obtain⟨t',rfl⟩:=ry
 exact rule i j t t' s _ _ ⟨.int (g i j),H,I.tok _,⟨_,rfl⟩,q⟩
theorem ES{f:Value->Value->Sem Value}{g:Int->Int->Bool}
  (rule:∀(i j:Int) (t u:Tok) (s:Shared) (Q:Value->Shared->Prop) (E:Value->Shared->Prop),Q (.bool (g i j)) s->wpAny (model X.prog X.w) X.A (f (.int i t) (.int j u)) Q E s) :
  lO X f (EO fun i j=>.bl (g i j)):=by
 intro pins s σ H x y v u Q I rx ry h
 obtain⟨i,j,rfl,rfl,q⟩:=h
 obtain⟨t,rfl⟩:=rx
 obtain⟨t',rfl⟩:=ry
 exact rule i j t t' s _ _ ⟨.bl (g i j),H,I,rfl,q⟩
noncomputable def ET(i j:Int):Prop:=0<j/\j<1073741824
noncomputable def GJ(i j:Int):Prop:=0<=j/\j<=1000000/\i.natAbs<2 ^ 64
noncomputable def yO(i j:Int):Prop:=(-(2 ^ 64)<i/\i<2 ^ 64)\/(-(2 ^ 64)<j/\j<2 ^ 64)
theorem yO.ok{i j:Int}(h:yO i j):IntMulOk i j:=by
 rcases h with⟨h1,h2⟩|⟨h1,h2⟩
 ·exact .of_left (intBits_le_64 h1 h2)
 ·exact .of_right (intBits_le_64 h1 h2)
theorem eT:lO X (binaryOp .Add) (EO fun i j=>.int (i+j)):=GI fun _ _ _ _ _ _ _ q=>add_int q
theorem iY:lO X (binaryOp .Sub) (EO fun i j=>.int (i-j)):=GI fun _ _ _ _ _ _ _ q=>sub_int q
theorem fU:lO X (binaryOp .Mult) (rI yO fun i j=>.int (i*j)):=Ik fun _ _ _ _ _ _ _ hc q=>mul_int q hc.ok
theorem rQ:lO X (binaryOp .FloorDiv) (rI ET fun i j=>.int (i / j)):=Ik fun i j _ _ _ _ _ hc q=>by
 have h1:(0:Int)<j:=hc.1
 have h2:j<1073741824:=hc.2
 exact floordiv_int (by omega) (by rw[Int.fdiv_eq_ediv_of_nonneg i (by omega)];exact q) (.inl (PyProof.noPylong_small (by omega)))
theorem fg:lO X (binaryOp .Mod) (rI (fun _ j=>0<j) fun i j=>.int (i % j)):=Ik fun i j _ _ _ _ _ hc q=>by
 have h1:(0:Int)<j:=hc
 exact mod_int' (by omega) (by rw[Int.fmod_eq_emod_of_nonneg i (by omega)];exact q)
theorem EU:lO X (binaryOp .Pow) (rI GJ fun i j=>.int (i ^ j.toNat)):=Ik fun _ _ _ _ _ _ _ hc q=>pow_int_small hc.1 hc.2.1 hc.2.2 q
theorem Jy{f:Value->Sem Value}{g:Int->Int}
  (rule:∀(i:Int) (t:Tok) (s:Shared) (Q:Value->Shared->Prop) (E:Value->Shared->Prop),Q (.int (g i) s.toks) {s with toks:=s.toks+1}->wpAny (model X.prog X.w) X.A (f (.int i t)) Q E s) :
  IK X f (rU fun i=>.int (g i)):=by
 intro pins s σ H x v Q I rx h
 obtain⟨i,rfl,q⟩:=h
 obtain⟨t,rfl⟩:=rx
 exact rule i t s _ _ ⟨.int (g i),H,I.tok _,⟨_,rfl⟩,q⟩
theorem kZ:IK X (unaryOp .USub) (rU fun i=>.int (-i)):=Jy fun _ _ _ _ _ q=>neg_int q
end
noncomputable def GK:V->V->Bool
 |.eW,.eW=>true|.eW,.int _=>true|.int _,.eW=>true|.eW,.bl _=>true|.bl _,.eW=>true|.eW,.str _=>true|.str _,.eW=>true
 |.int _,.int _=>true|.bl _,.bl _=>true|.str _,.str _=>true|.byt _,.byt _=>true
 |.int _,.str _=>true|.str _,.int _=>true|.bl _,.str _=>true|.str _,.bl _=>true
 |_,_=>false
noncomputable def Jz:R2:=fun x y H Q=>GK x y=true/\Q (.bl (decide (x=y))) H
noncomputable def JA:R2:=fun x y H Q=>GK x y=true/\Q (.bl (!decide (x=y))) H
theorem xM{i j:Int}:decide (V.int i=V.int j)=(i == j):=by
 rw[Bool.eq_iff_iff]
 simp
theorem Ah{i j:Bool}:decide (V.bl i=V.bl j)=(i == j):=by
 rw[Bool.eq_iff_iff]
 simp
theorem xN{i j:Str}:decide (V.str i=V.str j)=(i == j):=by
 rw[Bool.eq_iff_iff]
 simp
theorem xO{i j:Array UInt8}:decide (V.byt i=V.byt j)=(i.toList == j.toList):=by
 rw[Bool.eq_iff_iff]
 cases i
 cases j
 simp
section
variable {X:Cx}{a b c:Expr}{ta tb tc:TE}{pos:Pos}
theorem bL{pins:List (Addr×Obj)}{σ:St}{H:Hp}{s:Shared}{Q:VK}{k k':Bool}(I:Inv X pins σ H s)(q:Q (.bl k) H)(e:k=k'):EP X pins σ Q (.bool k') s:=by
 subst e
 exact⟨.bl k,H,I,rfl,q⟩
theorem gQ:lO X (compareOp .Eq) Jz:=by
 intro pins s σ H x y v u Q I rx ry h
 obtain⟨hs,q⟩:=h
 cases x with
 |eW =>
  cases rx
  cases y with
  |eW=>cases ry;exact PySem.EqNone.eq_none_none (bL I q (by simp))
  |bl j=>cases ry;exact PySem.EqNone.eq_none_bool (bL I q (by simp))
  |int j=>obtain⟨t',rfl⟩:=ry;exact PySem.EqNone.eq_none_int (bL I q (by simp))
  |str j=>obtain⟨t',rfl⟩:=ry;exact PySem.EqNone.eq_none_str (bL I q (by simp))
  |_=>exact absurd (show false=true from hs) Bool.false_ne_true
 |bl i =>
  cases rx
  cases y with
  |eW=>cases ry;exact PySem.EqNone.eq_bool_none (bL I q (by simp))
  |bl j=>cases ry;exact eq_bool (bL I q Ah)
  |str j=>obtain⟨t',rfl⟩:=ry;exact PySem.EqMixed.eq_bool_str (bL I q (by simp))
  |_=>exact absurd (show false=true from hs) Bool.false_ne_true
 |int i =>
  obtain⟨t,rfl⟩:=rx
  cases y with
  |eW=>cases ry;exact PySem.EqNone.eq_int_none (bL I q (by simp))
  |int j=>obtain⟨t',rfl⟩:=ry;exact eq_int (bL I q xM)
  |str j=>obtain⟨t',rfl⟩:=ry;exact PySem.EqMixed.eq_int_str (bL I q (by simp))
  |_=>exact absurd (show false=true from hs) Bool.false_ne_true
 |str i =>
  obtain⟨t,rfl⟩:=rx
  cases y with
  |eW=>cases ry;exact PySem.EqNone.eq_str_none (bL I q (by simp))
  |bl j=>cases ry;exact PySem.EqMixed.eq_str_bool (bL I q (by simp))
  |int j=>obtain⟨t',rfl⟩:=ry;exact PySem.EqMixed.eq_str_int (bL I q (by simp))
  |str j=>obtain⟨t',rfl⟩:=ry;exact eq_str (bL I q xN)
  |_=>exact absurd (show false=true from hs) Bool.false_ne_true
 |byt i =>
  obtain⟨t,rfl⟩:=rx
  cases y with
  |byt j=>obtain⟨t',rfl⟩:=ry;exact PySem.W.eq_bytes (bL I q xO)
  |_=>exact absurd (show false=true from hs) Bool.false_ne_true
 |_=>cases y<;>exact absurd (show false=true from hs) Bool.false_ne_true
theorem D9:lO X (compareOp .NotEq) JA:=by
 intro pins s σ H x y v u Q I rx ry h
 obtain⟨hs,q⟩:=h
 cases x with
 |eW =>
  cases rx
  cases y with
  |eW=>cases ry;exact PySem.EqNone.ne_none_none (bL I q (by simp))
  |bl j=>cases ry;exact PySem.EqNone.ne_none_bool (bL I q (by simp))
  |int j=>obtain⟨t',rfl⟩:=ry;exact PySem.EqNone.ne_none_int (bL I q (by simp))
  |str j=>obtain⟨t',rfl⟩:=ry;exact PySem.EqNone.ne_none_str (bL I q (by simp))
  |_=>exact absurd (show false=true from hs) Bool.false_ne_true
 |bl i =>
  cases rx
  cases y with
  |eW=>cases ry;exact PySem.EqNone.ne_bool_none (bL I q (by simp))
  |bl j=>cases ry;exact ne_bool (bL I q (congrArg not Ah))
  |str j=>obtain⟨t',rfl⟩:=ry;exact PySem.EqMixed.ne_bool_str (bL I q (by simp))
  |_=>exact absurd (show false=true from hs) Bool.false_ne_true
 |int i =>
  obtain⟨t,rfl⟩:=rx
  cases y with
  |eW=>cases ry;exact PySem.EqNone.ne_int_none (bL I q (by simp))
  |int j=>obtain⟨t',rfl⟩:=ry;exact ne_int (bL I q (congrArg not xM))
  |str j=>obtain⟨t',rfl⟩:=ry;exact PySem.EqMixed.ne_int_str (bL I q (by simp))
  |_=>exact absurd (show false=true from hs) Bool.false_ne_true
 |str i =>
  obtain⟨t,rfl⟩:=rx
  cases y with
  |eW=>cases ry;exact PySem.EqNone.ne_str_none (bL I q (by simp))
  |bl j=>cases ry;exact PySem.EqMixed.ne_str_bool (bL I q (by simp))
  |int j=>obtain⟨t',rfl⟩:=ry;exact PySem.EqMixed.ne_str_int (bL I q (by simp))
  |str j=>obtain⟨t',rfl⟩:=ry;exact ne_str (bL I q (congrArg not xN))
  |_=>exact absurd (show false=true from hs) Bool.false_ne_true
 |byt i =>
  obtain⟨t,rfl⟩:=rx
  cases y with
  |byt j=>obtain⟨t',rfl⟩:=ry;exact PySem.W.ne_bytes (bL I q (congrArg not xO))
  |_=>exact absurd (show false=true from hs) Bool.false_ne_true
 |_=>cases y<;>exact absurd (show false=true from hs) Bool.false_ne_true
theorem jP:lO X (compareOp .Lt) (EO fun i j=>.bl (decide (i<j))):=ES fun _ _ _ _ _ _ _ q=>lt_int q
theorem ug:lO X (compareOp .Gt) (EO fun i j=>.bl (decide (j<i))):=ES fun _ _ _ _ _ _ _ q=>gt_int q
theorem GL:lO X (compareOp .GtE) (EO fun i j=>.bl (decide (j<=i))):=ES fun _ _ _ _ _ _ _ q=>ge_int q
theorem EV:lO X (compareOp .Is) (fun x y H Q=>y=.eW/\Q (.bl (decide (x=.eW))) H):=by
 intro pins s σ H x y v u Q I rx ry h
 obtain⟨rfl,q⟩:=h
 cases ry
 refine is_none_gen (bL I q ?_)
 cases x<;>first
  |(cases rx;rfl)
  |(obtain⟨t,rfl⟩:=rx;rfl)
theorem cV(b:Expr){op:CmpOp}(h:op≠.In:=by decide)(h2:op≠.NotIn:=by decide):behindInMarks op b=false:=by
 have e1:(op == CmpOp.In)=false:=by cases op<;>first|rfl|exact absurd rfl h
 have e2:(op == CmpOp.NotIn)=false:=by cases op<;>first|rfl|exact absurd rfl h2
 cases b<;>simp[behindInMarks,e1,e2]
theorem gZ{op:CmpOp}{r:R2}(ho:lO X (compareOp op) r)(ha:PE X a ta)(hb:PE X b tb)(hm:behindInMarks op b=false):PE X (.Compare a [op] [b] pos) (qk r ta tb):=by
 intro pins s σ H Q I h
 exact wpAny_Compare1 (ER ha hb I h fun v u s2 x y H2 I2 rx ry q=>ho pins s2 σ H2 x y v u Q I2 rx ry q) hm
noncomputable def GN(t:TE):TT:=fun σ H Q=>t σ H fun x H'=>∃k,x=.bl k/\Q k H'
theorem cM{op:CmpOp}{r:R2}(ho:lO X (compareOp op) r)(ha:PE X a ta)(hb:PE X b tb)(hm:behindInMarks op b=false):PT X (.Compare a [op] [b] pos) (GN (qk r ta tb)):=by
 intro pins s σ H Q I h
 refine wpAny_isTrue_Compare1 (bP (ha pins s σ H _ I h) fun v s1 ⟨x,H1,I1,r1,q1⟩=>bP (hb pins s1 σ H1 _ I1 q1) fun u s2 ⟨y,H2,I2,r2,q2⟩ =>
  bP (ho pins s2 σ H2 x y v u _ I2 r1 r2 q2) fun c s3 ⟨z,H3,I3,r3,k,e,q3⟩=>?_) hm
 subst e
 cases r3
 exact wpAny_truthy_bool ⟨H3,I3,q3⟩
noncomputable def EW(K:PySem.W.Frag)(x:V)(H:Hp)(k:Bool):Prop :=
 match x with
 |.eW=>k=false
 |.bl b=>k=b
 |.int i=>k=(i != 0)
 |.str y=>y.length<=sizeLine/\k=((y.length:Int) != 0)
 |.byt y=>y.size<=sizeLine/\k=((y.size:Int) != 0)
 |.ref p=>(∃xs,cR K H p xs/\k=!xs.isEmpty)\/(∃xs,bT K H p xs/\k=!xs.isEmpty)\/∃kvs,H p=some (.dK kvs)/\k=!kvs.isEmpty
 |_=>False
theorem vO{κ:Type}{kvs:List (κ×V)}{vs:List (κ×Value)}(r:KV kvs vs):(!vs.isEmpty)=!kvs.isEmpty:=by
 cases r<;>rfl
theorem oM{xs:List V}{its:List Value}(r:Vals xs its):(!its.toArray.isEmpty)=!xs.isEmpty:=by
 cases r<;>simp
theorem k9:(sizeLine:Nat)<2 ^ 63:=by rw[sizeLine_eq];decide
theorem EX:IM X (fun x H Q=>∃k,EW X.K x H k/\Q k H):=by
 intro pins s σ H x v Q I rx h
 obtain⟨k,e,q⟩:=h
 have hl:=k9
 have hs:sizeLine=16777216:=sizeLine_eq
 cases x with
 |eW =>
  cases rx
  have e':k=false:=e
  subst e'
  exact truthy_none ⟨H,I,q⟩
 |bl b =>
  cases rx
  have e':k=b:=e
  subst e'
  exact wpAny_truthy_bool ⟨H,I,q⟩
 |int i =>
  obtain⟨t,rfl⟩:=rx
  have e':k=(i != 0):=e
  subst e'
  exact PySem.P.truthy_int ⟨H,I,q⟩
 |str y =>
  obtain⟨t,rfl⟩:=rx
  obtain⟨hy,e'⟩:y.length<=sizeLine/\k=((y.length:Int) != 0):=e
  subst e'
  exact PySem.P.truthy_str (by omega) ⟨H,I.tok _,q⟩
 |byt y =>
  obtain⟨t,rfl⟩:=rx
  obtain⟨hy,e'⟩:y.size<=sizeLine/\k=((y.size:Int) != 0):=e
  subst e'
  exact PySem.W.truthy_bytes (by omega) ⟨H,I.tok _,q⟩
 |ref p =>
  cases rx
  have e':(∃xs,cR X.K H p xs/\k=!xs.isEmpty)\/(∃xs,bT X.K H p xs/\k=!xs.isEmpty)\/∃kvs,H p=some (.dK kvs)/\k=!kvs.isEmpty:=e
  rcases e' with⟨xs,hx,e'⟩|⟨xs,hx,e'⟩|⟨kvs,hx,e'⟩
  ·subst e'
   obtain⟨its,r,pl,hz⟩:=I.list hx
   have hlen:=r.length
   exact wpAny_truthy_list pl.isList (by simp only[List.size_toArray];omega) ⟨H,I.tok _,by rw[oM r];exact q⟩
  ·subst e'
   obtain⟨its,r,pl,hz⟩:=I.tuple hx
   have hlen:=r.length
   exact truthy_tuple pl (by simp only[List.size_toArray];omega) ⟨H,I.tok _,by rw[oM r];exact q⟩
  ·subst e'
   obtain⟨hz,hS,vs,r,m⟩:kvs.length<=sizeLine/\(p == sysModules)=false/\∃vs,KV kvs vs/\s.heap.DictOf (bx X.prog X.w) p vs:=I.hok p _ hx
   have hlen:kvs.length=vs.length:=Paired.length r
   exact wpAny_truthy_dict hS m (by omega) ⟨H,I.tok _,by rw[vO r];exact q⟩
 |_=>exact(show False from e).elim
theorem cW(ha:PE X a ta)(he:∀whole,isTrue a X.env whole=(do let v ←whole;standAt a.pos;holding [v] (truthy v))) :
  PT X a (fun σ H Q=>ta σ H fun x H'=>∃k,EW X.K x H' k/\Q k H'):=by
 intro pins s σ H Q I h
 exact isTrue_plain (bP (ha pins s σ H _ I h) fun v s1 ⟨x,H1,I1,r1,q1⟩=>EX pins s1 σ H1 x v Q I1 r1 q1) (he _)
theorem jz:lO X (binaryOp .Add) (fun x y H Q=>∃i j,x=.str i/\y=.str j/\i.length+j.length<=sizeLine/\Q (.str (i++j)) H):=by
 intro pins s σ H x y v u Q I rx ry h
 obtain⟨i,j,rfl,rfl,hz,q⟩:=h
 obtain⟨t,rfl⟩:=rx
 obtain⟨t',rfl⟩:=ry
 exact add_str (fun t' tk=>⟨.str (i++j),H,I.tok _,⟨_,rfl⟩,q⟩) hz
theorem vals1{x:V}{us:List Value}(r:Vals [x] us):∃u,us=[u]/\RelV x u:=by
 cases r with
 |cons r1 r2=>cases r2;exact⟨_,rfl,r1⟩
theorem vals2{x y:V}{us:List Value}(r:Vals [x,y] us):∃u w',us=[u,w']/\RelV x u/\RelV y w':=by
 cases r with
 |cons r1 r2 =>
  cases r2 with
  |cons r3 r4=>cases r4;exact⟨_,_,rfl,r1,r3⟩
theorem yP(hc:X.calm=true):kL X (.builtin "max") (fun xs H Q=>∃i j,xs=[.int i,.int j]/\Q (.int (if j>i then j else i)) H):=by
 intro pins s σ H xs us Q I r h
 obtain⟨i,j,rfl,q⟩:=h
 obtain⟨u,w',rfl,⟨t,rfl⟩,⟨t',rfl⟩⟩:=vals2 r
 refine max_two_ints (I.ok.hd hc) fun h' tk k=>⟨_,H,I.kept k,?_,q⟩
 by_cases hj:j>i
 ·rw[if_pos hj,if_pos hj];exact⟨_,rfl⟩
 ·rw[if_neg hj,if_neg hj];exact⟨_,rfl⟩
theorem iq:kL X (.type "int") (fun xs H Q=>(∃i,xs=[.int i]/\Q (.int i) H)\/∃k,xs=[.bl k]/\Q (.int (if k then 1 else 0)) H):=by
 intro pins s σ H xs us Q I r h
 rcases h with⟨i,rfl,q⟩|⟨k,rfl,q⟩
 ·obtain⟨u,rfl,t,rfl⟩:=vals1 r
  exact call_int_int ⟨.int i,H,I,⟨_,rfl⟩,q⟩
 ·obtain⟨u,rfl,r1⟩:=vals1 r
  cases r1
  exact call_int_bool ⟨.int (if k then 1 else 0),H,I.tok _,⟨_,rfl⟩,q⟩
end
structure vP(h:Heap) (x dx C:Addr) (mA:Str->Option Value):Prop where
 obj:h.get? x=some (PySem.W.instObj C dx)
 ns:h.Ns1 dx mA
 ne:dx≠x
theorem yQ{h:Heap}{dx:Addr}{mA:Str->Option Value}(n:h.Ns1 dx mA):∃od,h.get? dx=some od/\∀name,PySem.W.lookIn name od=some (mA name):=by
 obtain⟨o,es,ep,ho,hd,hk,_,hm⟩:=n
 refine⟨o,ho,fun name=>?_⟩
 have e:=hm name
 unfold nsFind findBy at e
 rw[←Array.find?_toList]at e
 unfold PySem.W.lookIn
 rw[hd]
 dsimp only
 split
 ·rename_i y q
  rw[q]at e
  exact congrArg some e
 ·rename_i q
  rw[q]at e
  have a:es.toList.any (·.refKey)=false:=by
   rw[List.any_eq_false]
   intro y hy
   obtain⟨z,t,hkey⟩:=hk y (Array.mem_toList_iff.mp hy)
   simp[DictEntry.refKey,hkey]
  have a':¬es.toList.any (·.refKey)=true:=by rw[a];exact Bool.false_ne_true
  rw[if_neg a']
  exact congrArg some e
theorem vP.look{h:Heap}{x dx C:Addr}{mA:Str->Option Value}(I:vP h x dx C mA):∃od,PySem.W.InstAt h x (PySem.W.instObj C dx) C (some od)/\∀name,PySem.W.lookIn name od=some (mA name) :=
 let⟨od,ho,hl⟩:=yQ I.ns
 ⟨od,⟨I.obj,rfl,rfl,ho⟩,hl⟩
section
variable {prog:Program}{w:World}{A:Around}{E:Value->Shared->Prop}{s:Shared}{K:PySem.W.Frag}{x dx C f:Addr}{mA:Str->Option Value}{name:Str}{v:Value}
theorem get_map{expr:Bool}{Q:Value->Shared->Prop}(X:K.In s.heap)(I:vP s.heap x dx C mA)(hg:PySem.W.plainGet K C name=true)(hh:PySem.W.hasDictIn K C=true)
  (ha:PySem.W.findIn K (.ref C) name=some none) (hv:mA name=some v) (hv':PySem.W.handedIn v=true) (h:Q v {s with toks:=s.toks+1}) :
  wpAny (model prog w) A (getAttr (.ref x) name expr) Q E s:=by
 obtain⟨od,J,hl⟩:=I.look
 exact PySem.W.get_value X J (PySem.W.plainGet_of hg).1 (PySem.W.findObj_own hh ha rfl (by rw[hl,hv])) hv' h
theorem Ai{pl:Sem Bool}{Q:Value×List Value->Shared->Prop}(X:K.In s.heap)(I:vP s.heap x dx C mA)(hg:PySem.W.plainGet K C name=true)
  (hf:PySem.W.findIn K (.ref C) name=some (some (.ref f))) (ht:PySem.W.isFn K (.ref f)=true) (hv:mA name=none) (h:Q (.ref f,[.ref x]) s) :
  wpAny (model prog w) A (getMethod (.ref x) name pl) Q E s:=by
 obtain⟨od,J,hl⟩:=I.look
 exact PySem.W.method_fn X J (PySem.W.plainGet_of hg).1 (PySem.W.plainGet_of hg).2 hf (beq_iff_eq.mp ht) (by show(PySem.W.lookIn name od).map (·.isSome)=some false;rw[hl,hv];rfl) h
theorem CC{ns:List Str}{Q:Unit->Shared->Prop}(X:K.In s.heap)(I:vP s.heap x dx C mA)
  (hs:PySem.W.findIn K (.ref C) "__setattr__"=some (some (.builtin "object.__setattr__"))) (hp:PySem.W.plainOver K C=true) (ht:PySem.W.takerIn K C name=some none) (hh:PySem.W.hasDictIn K C=true)
  (hw:PySem.Within mA ns) (hsz:ns.length<=sizeLine)
  (h:∀h',vP h' x dx C (fun y=>if y=name then some v else mA y)->Heap.SameBut dx s.heap h'->Q () {s with heap:=h',toks:=s.toks+2}) :
  wpAny (model prog w) A (setAttr (.ref x) name v) Q E s:=by
 obtain⟨od,J,hl⟩:=I.look
 refine PySem.W.set_plain X J hs (PySem.W.osa_open (s:={s with toks:=s.toks+1}) (r:=none) X J hp ht fun b=>?_)
 obtain⟨cd,hc,hd'⟩:=PySem.W.any_some hh
 have hx:s.heap.get? x=some ⟨.ref C,some dx,.plain,#[]⟩:=I.obj
 refine wpAny_bind (wpAny_pure (wpAny_bind (wpAny_bind (wpAny_loadPart hx (wpAny_bind (PySem.W.Looks.here (s:={s with toks:=s.toks+1}) (PySem.W.looks_clsIn X hc) ?_))))))
 rw[hd']
 refine wpAny_pure (a:=some dx) (wpAny_bind (wpAny_pure (wpAny_bind ?_)))
 refine wpAny_nsSet1 (s:={s with toks:=s.toks+1}) I.ns fun h' hn2 hs2=>?_
 obtain⟨oD,esD,epD,hoD,hdD,hcD⟩:=hn2.count (PySem.Within.cons name v hw)
 refine wpAny_bind (wpAny_lookBehind hoD (by rw[hdD];exact pastItsLine_dict (Nat.le_trans hcD (by rw[List.length_cons];omega))) ?_)
 exact wpAny_pure (h _ ⟨(hs2.2 _ (Ne.symm I.ne)).trans I.obj,hn2,I.ne⟩ hs2)
theorem Aj{R:Result->Shared->Prop}{vs:List Value}{kw:List (Str×Value)}(X:K.In s.heap)(hm:PySem.W.makesIn K C=true)
  (hi:PySem.W.findIn K (.ref C) "__init__"=some (some (.ref f))) (hf:PySem.W.typeIn K (.ref f)=some (.type "function"))
  (h:codeAny (model prog w) (A.under (.builtin "type.__call__" ⟨.ref C::vs,kw⟩)) (.call (.ref f) ⟨.ref (s.heap.objs.size+1)::vs,kw⟩) (PySem.W.InitBack (s.heap.objs.size+1) R)
   {s with heap:=(s.heap.push PySem.W.emptyDict).push (PySem.W.instObj C s.heap.objs.size)}) :
  codeAny (model prog w) A (.call (.ref C) ⟨vs,kw⟩) R s:=by
 obtain⟨hh,g,d,t,os⟩:=s
 exact PySem.W.make_core (PySem.W.makes_of X hm) (PySem.W.looks_findIn X hi) (fun self=>PySem.W.bind_fn X self hf) (.inl rfl) h
end
noncomputable def fB(f:Str)(v:V):List (Str×V)->List (Str×V)
 | []=>[(f,v)]
 |(g,x)::r=>if g=f then(g,v)::r else(g,x)::fB f v r
theorem ni(f g:Str)(v:V):∀fs:List (Str×V),(fB f v fs).lookup g=if g=f then some v else fs.lookup g
 | []=>by
  show List.lookup g [(f,v)]=_
  by_cases h:g=f
  ·have hb:(g == f)=true:=beq_iff_eq.mpr h
   simp only[List.lookup,hb,if_pos h]
  ·have hb:(g == f)=false:=beq_eq_false_iff_ne.mpr h
   simp only[List.lookup,hb,if_neg h]
 |(k,x)::r=>by
  have ih:=ni f g v r
  rw[show fB f v ((k,x)::r)=(if k=f then(k,v)::r else(k,x)::fB f v r)from rfl]
  by_cases hk:k=f
  ·rw[if_pos hk]
   by_cases h:g=k
   ·have hb:(g == k)=true:=beq_iff_eq.mpr h
    simp only[List.lookup,hb,if_pos (h.trans hk)]
   ·have hb:(g == k)=false:=beq_eq_false_iff_ne.mpr h
    simp only[List.lookup,hb,if_neg (fun e:g=f=>h (e.trans hk.symm))]
  ·rw[if_neg hk]
   by_cases h:g=k
   ·have hb:(g == k)=true:=beq_iff_eq.mpr h
    simp only[List.lookup,hb,if_neg (fun e:g=f=>hk (h.symm.trans e))]
   ·have hb:(g == k)=false:=beq_eq_false_iff_ne.mpr h
    simp only[List.lookup,hb]
    exact ih
theorem mU(f:Str)(v:V):∀fs:List (Str×V),f∈(fB f v fs).map (·.1)/\∀g,g∈fs.map (·.1)->g∈(fB f v fs).map (·.1)
 | []=>⟨by simp[fB],fun g h=>by simp at h⟩
 |(k,x)::r=>by
  obtain⟨i1,i2⟩:=mU f v r
  rw[show fB f v ((k,x)::r)=(if k=f then(k,v)::r else(k,x)::fB f v r)from rfl]
  by_cases hk:k=f
  ·rw[if_pos hk]
   subst hk
   exact⟨by simp,fun g h=>by simpa using h⟩
  ·rw[if_neg hk]
   refine⟨?_,fun g h=>?_⟩
   ·rw[List.map_cons]
    exact List.mem_cons_of_mem _ i1
   ·rw[List.map_cons]at h⊢
    rcases List.mem_cons.mp h with e|e
    ·exact List.mem_cons.mpr (.inl e)
    ·exact List.mem_cons_of_mem _ (i2 g e)
theorem nj(f:Str)(v:V):∀fs:List (Str×V),(fB f v fs).length<=fs.length+1
 | []=>by simp[fB]
 |(k,x)::r=>by
  have ih:=nj f v r
  rw[show fB f v ((k,x)::r)=(if k=f then(k,v)::r else(k,x)::fB f v r)from rfl]
  by_cases hk:k=f
  ·rw[if_pos hk,List.length_cons,List.length_cons];omega
  ·rw[if_neg hk,List.length_cons,List.length_cons];omega
theorem iX.some_of{v:V}{o:Option Value}(r:iX (some v) o):∃u,o=some u/\RelV v u:=by
 cases o with
 |none=>exact(show False from r).elim
 |some u=>exact⟨u,rfl,r⟩
theorem iX.none_of{o:Option Value}(r:iX none o):o=none:=by
 cases o with
 |none=>rfl
 |some u=>exact(show False from r).elim
theorem yR{v:V}{u:Value}(r:RelV v u):PySem.W.handedIn u=true:=by
 cases v with
 |eW=>cases(show u=Value.none from r);rfl
 |bl b=>cases(show u=Value.bool b from r);rfl
 |int i=>obtain⟨t,e⟩:=(show ∃t,u=Value.int i t from r);cases e;rfl
 |str x=>obtain⟨t,e⟩:=(show ∃t,u=Value.str x t from r);cases e;rfl
 |byt b=>obtain⟨t,e⟩:=(show ∃t,u=Value.bytes b t from r);cases e;rfl
 |flt b=>obtain⟨t,e⟩:=(show ∃t,u=Value.float b t from r);cases e;rfl
 |ref a=>cases(show u=Value.ref a from r);rfl
 |ty n=>cases(show u=Value.type n from r);rfl
section
variable {P:Program}{w:World}{H H':Hp}{h h':Heap}{a C dx:Addr}{fs fs':List (Str×V)}
theorem rR(hok:kK P w H h)(e:H a=some (.ins C dx fs)):∃mA,vP h a dx C mA/\(∀f,iX (fs.lookup f) (mA f))/\PySem.Within mA (fs.map (·.1))/\fs.length<=1000/\H dx=some (.own a):=by
 obtain⟨d,z,ne,ob,mA,n,r,q⟩:=(show di P w H h a (.ins C dx fs)from hok a _ e)
 exact⟨mA,⟨ob,n,ne⟩,r,q,z,d⟩
end
structure zS(K:PySem.W.Frag) (C:Addr):Prop where
 pg:PySem.W.plainGet K C Str.empty=true
 hd:PySem.W.hasDictIn K C=true
 po:PySem.W.plainOver K C=true
 sa:PySem.W.findIn K (.ref C) "__setattr__"=some (some (.builtin "object.__setattr__"))
theorem zS.get{K:PySem.W.Frag}{C:Addr}(c:zS K C)(f:Str):PySem.W.plainGet K C f=true:=c.pg
noncomputable def fD(K:PySem.W.Frag)(C:Addr)(f:Str):Prop:=PySem.W.findIn K (.ref C) f=some none
theorem fD.GO{K:PySem.W.Frag}{C:Addr}{f:Str}(n:fD K C f):PySem.W.takerIn K C f=some none:=by
 unfold PySem.W.takerIn
 rw[show PySem.W.findIn K (.ref C) f=some none from n]
 rfl
structure Meth(K:PySem.W.Frag) (C:Addr) (m:Str) (f:Addr):Prop where
 at_:PySem.W.findIn K (.ref C) m=some (some (.ref f))
 fn:PySem.W.isFn K (.ref f)=true
 kp:PySem.W.keepIn K (.ref f)=true
section
variable {X:Cx}{pins:List (Addr×Obj)}{σ:St}{H:Hp}{s:Shared}{a C dx:Addr}{fs:List (Str×V)}{f:Str}{v:V}{A:Around}{E:Value->Shared->Prop}
theorem oN{b:Bool}{Q:Value->Shared->Prop}(I:Inv X pins σ H s)(e:H a=some (.ins C dx fs))(c:zS X.K C)(n:fD X.K C f)(l:fs.lookup f=some v)
  (h:∀u s',Inv X pins σ H s'->RelV v u->Q u s'):wpAny (model X.prog X.w) A (getAttr (.ref a) f b) Q E s:=by
 obtain⟨mA,O,r,_,_,_⟩:=rR I.hok e
 obtain⟨u,hu,ru⟩:=iX.some_of (v:=v) (o:=mA f) (by rw[←l];exact r f)
 exact get_map I.tV O (c.get f) c.hd n hu (yR ru) (h u _ (I.tok _) ru)
theorem oO{m:Str}{g:Addr}{pl:Sem Bool}{Q:Value×List Value->Shared->Prop}(I:Inv X pins σ H s)(e:H a=some (.ins C dx fs))(c:zS X.K C)(k:Meth X.K C m g)(l:fs.lookup m=none)
  (h:Q (.ref g,[.ref a]) s):wpAny (model X.prog X.w) A (getMethod (.ref a) m pl) Q E s:=by
 obtain⟨mA,O,r,_,_,_⟩:=rR I.hok e
 have hn:mA m=none:=iX.none_of (by rw[←l];exact r m)
 exact Ai I.tV O (c.get m) k.at_ k.fn hn h
theorem oQ{y:V}{u:Value}{Q:Unit->Shared->Prop}(I:Inv X pins σ H s)(e:H a=some (.ins C dx fs))(c:zS X.K C)(n:fD X.K C f)(hl:fs.length<1000)(ry:RelV y u)
  (h:∀s',Inv X pins σ (upd H a (.ins C dx (fB f y fs))) s'->Q () s'):wpAny (model X.prog X.w) A (setAttr (.ref a) f u) Q E s:=by
 obtain⟨mA,O,r,wi,_,ho⟩:=rR I.hok e
 have hz:(fs.map (·.1)).length<=sizeLine:=by rw[List.length_map,sizeLine_eq];omega
 refine CC I.tV O c.sa c.po n.GO c.hd wi hz fun h' O' sb=>h _ ?_
 have hd:∃o,h'.get? dx=some o:=let⟨o,_,_,e',_⟩:=O'.ns;⟨o,e'⟩
 refine I.write (x:=a) (e:=dx) (by rw[e];exact True.intro) (.inr ho) (fun b q hb z=>(sb.2 b hb).trans z) hd ?_
 refine⟨by rw[au O.ne];exact ho,?_,O.ne,O'.obj,_,O'.ns,fun g=>?_,fun g hg=>?_⟩
 ·have:=nj f y fs;omega
 ·show iX ((fB f y fs).lookup g) (if g=f then some u else mA g)
  rw[ni]
  by_cases q:g=f
  ·rw[if_pos q,if_pos q];exact ry
  ·rw[if_neg q,if_neg q];exact r g
 ·by_cases q:g=f
  ·rw[q];exact(mU f y fs).1
  ·refine(mU f y fs).2 g (wi g fun z=>hg ?_)
   show(if g=f then some u else mA g)=none
   rw[if_neg q];exact z
theorem Inv.made(I:Inv X pins σ H s):Inv X pins σ (upd (upd H s.heap.objs.size (.own (s.heap.objs.size+1))) (s.heap.objs.size+1) (.ins C s.heap.objs.size []))
  {s with heap:=(s.heap.push PySem.W.emptyDict).push (PySem.W.instObj C s.heap.objs.size)}:=by
 have e1:(s.heap.push PySem.W.emptyDict).get? s.heap.objs.size=some PySem.W.emptyDict:=Heap.get?_push_size s.heap rfl
 have e2:((s.heap.push PySem.W.emptyDict).push (PySem.W.instObj C s.heap.objs.size)).get? (s.heap.objs.size+1)=some (PySem.W.instObj C s.heap.objs.size):=by
  have:=Heap.get?_push_size (s.heap.push PySem.W.emptyDict) (o:=PySem.W.instObj C s.heap.objs.size) rfl
  rwa [Heap.size_push]at this
 have e3:(s.heap.push PySem.W.emptyDict).Ns s.heap.objs.size (fun _=>none):=⟨PySem.W.emptyDict,#[],_,e1,rfl,(fun e he=>absurd he (by simp)),fun _=>rfl⟩
 have I1:=I.laid (a:=s.heap.objs.size) (o:=.own (s.heap.objs.size+1)) (h':=s.heap.push PySem.W.emptyDict) (t':=s.toks) (fun b u q=>Heap.get?_push_of_some _ q) (Nat.le_refl _) ⟨_,e1⟩
 refine I1.laid (a:=s.heap.objs.size+1) (o:=.ins C s.heap.objs.size []) (t':=s.toks) (fun b u q=>Heap.get?_push_of_some _ q) (Nat.le_of_eq (Heap.size_push _ _)) ?_
 have ne:s.heap.objs.size≠s.heap.objs.size+1:=Nat.ne_of_lt (Nat.lt_succ_self _)
 refine⟨by rw[au ne,ah],Nat.zero_le _,ne,e2,fun _=>none,(Heap.Ns1.of_empty e3).at fun o q=>Heap.get?_push_of_some _ q,fun _=>True.intro,fun y hy=>absurd rfl hy⟩
theorem CD{prog:Program}{w:World}{env:Env}{e:Expr}{f:Str}{pos:Pos}{s:Shared}{Q:Value->Shared->Prop}(hb:attributeBase e f env (eval e env)=eval e env)
  (h:wpAny (model prog w) A (eval e env) (fun o s₁=>wpAny (model prog w) A (getAttr o f true) Q E s₁) E s):wpAny (model prog w) A (eval (.Attribute e f pos) env) Q E s :=
 Attribute_any_ h (by rw[arm_eval_Attribute,hb])
end
noncomputable def GQ(K:PySem.W.Frag)(ta:TE)(f:Str):TE:=fun σ H Q=>ta σ H fun x H1=>∃a C dx fs v,x=.ref a/\H1 a=some (.ins C dx fs)/\zS K C/\fD K C f/\fs.lookup f=some v/\Q v H1
noncomputable def IP(K:PySem.W.Frag)(ta tv:TE)(f:Str):TS:=fun D σ H=>tv σ H fun y H1=>ta σ H1 fun x H2=>∃a C dx fs,x=.ref a/\H2 a=some (.ins C dx fs)/\zS K C/\fD K C f/\fs.length<1000 /\
 D.nx σ (upd H2 a (.ins C dx (fB f y fs)))
noncomputable def GS(X:Cx)(op:Operator)(rd:V->V->Hp->VK->Prop):Prop :=
 ∀(pins:List (Addr×Obj)) (s:Shared) (σ:St) (H:Hp) (x y:V) (u v:Value) (Q:VK),Inv X pins σ H s->RelV x u->RelV y v->rd x y H Q->wpAny (model X.prog X.w) X.A (inplaceOp op u v) (EP X pins σ Q) X.xe s
noncomputable def CF(K:PySem.W.Frag)(ta tv:TE)(rd:V->V->Hp->VK->Prop)(f:Str):TS:=fun D σ H=>ta σ H fun x H1=>∃a C dx fs v,x=.ref a/\H1 a=some (.ins C dx fs)/\zS K C/\fD K C f/\fs.lookup f=some v /\
 tv σ H1 fun y H2=>rd v y H2 fun z H3=>∃dx' fs',H3 a=some (.ins C dx' fs')/\fs'.length<1000/\D.nx σ (upd H3 a (.ins C dx' (fB f z fs')))
section
variable {X:Cx}{o e value:Expr}{f:Str}{pos pos' tpos:Pos}{ta tv:TE}
theorem dI(he:PE X e ta)(hb:attributeBase e f X.env (eval e X.env)=eval e X.env):PE X (.Attribute e f pos) (GQ X.K ta f):=by
 intro pins s σ H Q I h
 refine CD hb (bP (he pins s σ H _ I h) fun u s1 ⟨x,H1,I1,rx,a,C,dx,fs,v,ex,ea,c,n,l,q⟩=>?_)
 subst ex
 obtain rfl:u=Value.ref a:=rx
 exact oN I1 ea c n l fun u' s2 I2 ru=>⟨v,H1,I2,ru,q⟩
theorem jA(ha:PE X o ta)(hv:PE X value tv)(hs:swapsWith value (some (.Attribute o f pos')) pos.line X.env=pure false):PS X (.Assign [.Attribute o f pos'] value pos) (IP X.K ta tv f):=by
 intro pins s σ H D I h
 refine plainObj_wpAny_Assign_Attribute (bP (hv pins s σ H _ I h) fun u s1 ⟨y,H1,I1,ry,q⟩=>bP (ha pins s1 σ H1 _ I1 q) fun ov s2 ⟨x,H2,I2,rx,a,C,dx,fs,ex,ea,c,n,l,q2⟩=>?_) hs
 subst ex
 obtain rfl:ov=Value.ref a:=rx
 exact oQ I2 ea c n l ry fun s3 I3=>⟨σ,_,I3,q2⟩
theorem yS{op:Operator}{rd:V->V->Hp->VK->Prop}(ha:PE X o ta)(hv:PE X value tv)(hop:GS X op rd):PS X (.AugAssign (.Attribute o f tpos) op value pos) (CF X.K ta tv rd f):=by
 intro pins s σ H D I h
 refine wpAny_AugAssign_AttributeAny (bP (ha pins s σ H _ I h) fun ov s1 ⟨x,H1,I1,rx,a,C,dx,fs,v,ex,ea,c,n,l,q⟩=>?_)
 subst ex
 obtain rfl:ov=Value.ref a:=rx
 refine oN I1 ea c n l fun u s2 I2 ru=>bP (hv pins s2 σ H1 _ I2 q) fun w3 s3 ⟨y,H2,I3,ry,q3⟩=>bP (hop pins s3 σ H2 v y u w3 _ I3 ru ry q3) fun w4 s4 ⟨z,H3,I4,rz,dx',fs',ea',l',q4⟩=>?_
 exact oQ I4 ea' c n l' rz fun s5 I5=>⟨σ,_,I5,q4⟩
noncomputable def IQ:V->V->Hp->VK->Prop:=fun x y H Q=>∃i j,x=.int i/\y=.int j/\Q (.int (i+j)) H
theorem EY:GS X .Add IQ:=by
 rintro pins s σ H x y u v Q I rx ry ⟨i,j,rfl,rfl,q⟩
 obtain⟨t,rfl⟩:=(show ∃t,u=Value.int i t from rx)
 obtain⟨t',rfl⟩:=(show ∃t',v=Value.int j t' from ry)
 exact PyProof.Rows.iadd_int ⟨.int (i+j),H,I.tok _,⟨_,rfl⟩,q⟩
end
section
variable {X:Cx}{pins:List (Addr×Obj)}{σ:St}{H:Hp}{s:Shared}{A:Around}{E:Value->Shared->Prop}{Q:Value->Shared->Prop}{c:Value}{b:Bool}
end
structure cT(k:Nat) (A:Around):Prop where
 hd:A.handled=none
 dp:A.depth+3*k+5<recursionLimit
 un:A.units+16*k+200<cLine
 gd:A.guards=some []
theorem cT.mono{j k:Nat}{A:Around}(r:cT k A)(h:j<=k):cT j A:=⟨r.hd,by have:=r.dp;omega,by have:=r.un;omega,r.gd⟩
theorem cT.deeper{k:Nat}{A:Around}(r:cT (k+1) A)(env:Env):cT k (A.deeper env) :=
 ⟨r.hd,by have:=r.dp;show A.depth+1+3*k+5<_;omega,by have:=r.un;show A.units+3+16*k+200<_;omega,r.gd⟩
theorem vQ{A:Around}{C:Addr}{us:List Value}{kw:List (Str×Value)}:(A.under (.builtin "type.__call__" ⟨.ref C::us,kw⟩)).depth=A.depth+1:=by
 first|rfl|simp[Around.under,Code.weight,Code.isCreation,Code.isGuard,Code.isCaller,Code.frames,Code.isFrame,guardIds]
theorem vR{A:Around}{C:Addr}{us:List Value}{kw:List (Str×Value)}:(A.under (.builtin "type.__call__" ⟨.ref C::us,kw⟩)).units=A.units+1:=by
 first|rfl|simp[Around.under,Code.cUnits,Code.frames,Code.isFrame]
theorem uh{A:Around}{C:Addr}{us:List Value}{kw:List (Str×Value)}:(A.under (.builtin "type.__call__" ⟨.ref C::us,kw⟩)).guards=A.guards:=by
 first|rfl|simp[Around.under,pushGuards,Code.guards,Code.isGuard,guardIds]
theorem cT.make{k:Nat}{A:Around}(r:cT (k+1) A)(C:Addr)(us:List Value)(kw:List (Str×Value)):cT k (A.under (.builtin "type.__call__" ⟨.ref C::us,kw⟩)) :=
 ⟨r.hd,by have:=r.dp;rw[vQ];omega,by have:=r.un;rw[vR];omega,by rw[uh];exact r.gd⟩
theorem cT.depth{k:Nat}{A:Around}(r:cT k A):A.depth<recursionLimit:=by have:=r.dp;omega
theorem cT.units{k:Nat}{A:Around}(r:cT k A):A.units+64<cLine:=by have:=r.un;omega
noncomputable def nL:TA:=fun _ H Q=>Q [] H
noncomputable def gq(ta:TE)(tr:TA):TA:=fun σ H Q=>ta σ H fun x H1=>tr σ H1 fun xs H2=>Q (x::xs) H2
section
variable {X:Cx}{e:Expr}{es:List Expr}{te:TE}{t:TA}{pos:Pos}
theorem aj:PA X [] nL:=fun _ _ _ _ H Q I h=>Calls.spliced_nil ⟨[],H,I,.nil,h⟩
theorem aU(ha:PE X e te)(hr:PA X es t)(hs:starEach (e::es) X.env=(false,eval e X.env)::starEach es X.env:=by rfl):PA X (e::es) (gq te t):=by
 intro pos pins s σ H Q I h
 rw[hs]
 show wpAny _ _ (spliced ((false,eval e X.env)::backTo pos (starEach es X.env))) _ _ s
 refine Calls.spliced_cons (bP (ha pins s σ H _ I h) fun u s1 ⟨x,H1,I1,r1,q1⟩=>?_)
 exact bP (hr pos pins s1 σ H1 _ I1 q1) fun us s2 ⟨xs,H2,I2,r2,q2⟩=>⟨x::xs,H2,I2,.cons r1 r2,q2⟩
noncomputable def vS(t:TA):TE:=fun σ H Q=>t σ H fun xs H1=>xs.length<=sizeLine/\∀p,H1 p=none->Q (.ref p) (upd H1 p (.tup xs))
noncomputable def yT(t:TA):TE:=fun σ H Q=>t σ H fun xs H1=>xs.length<=sizeLine/\∀p,H1 p=none->Q (.ref p) (upd H1 p (.lst xs))
theorem bV{x1}(h:PA X es t):PE X (.Tuple es x1 pos) (vS t):=by
 intro pins s σ H Q I hq
 refine wpAny_Tuple_spliced (bP (h pos pins s σ H _ I hq) fun us s1 ⟨xs,H1,I1,r,z,q⟩=>⟨by rw[←r.length];exact z,?_⟩)
 have hf:H1 s1.heap.objs.size=none:=I1.hok.fresh (Nat.le_refl _)
 refine⟨.ref s1.heap.objs.size,upd H1 s1.heap.objs.size (.tup xs),I1.laid (t':=s1.toks) (fun b u e=>Heap.get?_push_of_some _ e) (Nat.le_refl _) ?_,rfl,q _ hf⟩
 exact⟨z,us,r,⟨_,Heap.get?_push_size _ rfl,rfl,_,rfl⟩,_,Heap.get?_push_size _ rfl,rfl⟩
theorem b8(h:PA X es t):PE X (.List es pos) (yT t):=by
 intro pins s σ H Q I hq
 refine wpAny_List_spliced (bP (h pos pins s σ H _ I hq) fun us s1 ⟨xs,H1,I1,r,z,q⟩=>⟨by rw[←r.length];exact z,?_⟩)
 have hf:H1 s1.heap.objs.size=none:=I1.hok.fresh (Nat.le_refl _)
 refine⟨.ref s1.heap.objs.size,upd H1 s1.heap.objs.size (.lst xs),I1.laid (t':=s1.toks) (fun b u e=>Heap.get?_push_of_some _ e) (Nat.le_refl _) ?_,rfl,q _ hf⟩
 exact⟨z,us,0,r,Heap.get?_push_size _ rfl⟩
end
noncomputable abbrev Sp:=List V->Hp->VK->XK->Prop
noncomputable abbrev zT:=List Env->Hp->Shared->XK->Value->Shared->Prop
structure vU(P:Program) (w:World) (K:PySem.W.Frag) (mg:Str->Option Value) (base:Heap) (A:Around) (outer:List Env) (s:Shared) (H:Hp):Prop where
 frames:A.frames=some outer
 mod:Mod K mg base
 bs:∀b o,base.get? b=some o->s.heap.get? b=some o/\H b=none
 bsz:base.objs.size<=s.heap.objs.size
 nJ:s.heap.FunFrames base outer
 frf:∀b∈frs outer,H b=none
 hok:kK P w H s.heap
 bare:AllBare s.gens
noncomputable def CE(outer:List Env)(P:Program)(w:World)(H:Hp)(s:Shared)(Q:VK)(u:Value)(s':Shared):Prop :=
 ∃v H',s'.os=s.os/\AllBare s'.gens/\Un (frs outer) [] H H' s.heap s'.heap/\kK P w H' s'.heap/\RelV v u/\Q v H'
noncomputable def CR(CX:zT)(outer:List Env)(P:Program)(w:World)(H:Hp)(s:Shared)(Q:VK)(E:XK)(r:Result)(s':Shared):Prop :=
 match r with
 |.ok (.ret u)=>CE outer P w H s Q u s'
 |.ok _=>False
 |.error e=>CX outer H s E e s'
structure bF(P:Program) (w:World) (K:PySem.W.Frag) (mg:Str->Option Value) (base:Heap) (CX:zT) (k:Nat) (f:Addr) (fd:FuncData) (ps:List Str) (sp:Sp):Prop where
 len:∀vs H Q E,sp vs H Q E->vs.length=ps.length
 run:∀(A:Around) (outer:List Env) (s:Shared) (H:Hp) (args:Args) (us:List Value) (vs:List V) (Q:VK) (E:XK),cT k A->vU P w K mg base A outer s H->BindsTo s fd args (ps.zip us)->Vals vs us->sp vs H Q E ->
  codeAny (model P w) A (.call (.ref f) args) (CR CX outer P w H s Q E) s
theorem vU.make{P:Program}{w:World}{K:PySem.W.Frag}{mg:Str->Option Value}{base:Heap}{A:Around}{outer:List Env}{s:Shared}{H:Hp}(e:vU P w K mg base A outer s H)(C:Addr)(us:List Value)(kw:List (Str×Value)) :
  vU P w K mg base (A.under (.builtin "type.__call__" ⟨.ref C::us,kw⟩)) outer s H:=⟨by first|exact e.frames|(simpa[Around.under,Code.envs,Code.isFrame,pushEnvs]using e.frames),e.mod,e.bs,e.bsz,e.nJ,e.frf,e.hok,e.bare⟩
section
variable {X:Cx}{pins:List (Addr×Obj)}{σ:St}{H:Hp}{s s':Shared}
theorem Inv.GU(I:Inv X pins σ H s):vU X.prog X.w X.K X.mg X.base X.A X.stack s H :=
 ⟨I.ok.frames,I.ok.mod,I.bs,Nat.le_trans I.ok.bsz I.sz,I.stack,I.xK,I.hok,I.bare⟩
theorem Inv.after{Q:VK}{u:Value}(I:Inv X pins σ H s)(h:CE X.stack X.prog X.w H s Q u s'):EP X pins σ Q u s':=by
 obtain⟨v,H',os,bare,un,hok,r,q⟩:=h
 obtain⟨hh,g,d,t,os'⟩:=s'
 obtain rfl:os'=s.os:=os
 exact⟨v,H',I.call (h':=hh) (g':=g) (d':=d) (t':=t) (ch:=[]) un hok bare (fun b z=>absurd z (by simp)),r,q⟩
end
noncomputable def uo(sp:Sp)(dvs:List V)(E:XK)(t:TA):TE:=fun σ H Q=>t σ H fun vs H1=>sp (vs++dvs) H1 Q E
noncomputable def Ea(C:Addr)(m:Str)(sp:Sp)(dvs:List V)(E:XK)(ta:TE)(t:TA):TE:=fun σ H Q=>ta σ H fun x H1=>∃a dx fs,x=.ref a/\H1 a=some (.ins C dx fs)/\fs.lookup m=none /\
 t σ H1 fun vs H2=>sp (x::(vs++dvs)) H2 Q E
noncomputable def GV(C:Addr)(sp:Sp)(dvs:List V)(E:XK)(t:TA):TE:=fun σ H Q=>t σ H fun vs H1=>∀x dx,H1 x=none->H1 dx=none->dx≠x ->
 sp (.ref x::(vs++dvs)) (upd (upd H1 dx (.own x)) x (.ins C dx [])) (fun v H2=>v=.eW/\Q (.ref x) H2) E
noncomputable def Binds(K:PySem.W.Frag)(fd:FuncData)(ps:List Str)(ds:List Value):Prop :=
 ∀(s:Shared) (us:List Value),K.In s.heap->(us++ds).length=ps.length->BindsTo s fd ⟨us,[]⟩ (ps.zip (us++ds))
theorem Binds.all{K:PySem.W.Frag}{fd:FuncData}{ps:List Str}(h:∀us:List Value,us.length=ps.length->bindArgs fd ⟨us,[]⟩=pure (ps.zip us)):Binds K fd ps []:=fun s us _ hl=>by
 rw[List.append_nil]at hl⊢
 exact .of_eq (h us hl)
noncomputable def Passes(CX:zT)(X:Cx)(E:XK):Prop:=∀(pins:List (Addr×Obj)) (σ:St) (H:Hp) (s:Shared) (e:Value) (s':Shared),Inv X pins σ H s->CX X.stack H s E e s'->X.xe e s'
section
variable {X:Cx}{CX:zT}{k:Nat}{f C:Addr}{fd:FuncData}{ps:List Str}{sp:Sp}{dvs:List V}{ds:List Value}{E:XK}{x m:Str}{p pos apos:Pos}{e o:Expr}{es:List Expr}{ta:TE}{t:TA}
theorem rS{pins:List (Addr×Obj)}{σ:St}{H:Hp}{s:Shared}{Q:VK}{us:List Value}{vs:List V}(F:bF X.prog X.w X.K X.mg X.base CX k f fd ps sp)(hr:cT k X.A)(hb:Binds X.K fd ps ds)(hd:Vals dvs ds)(hx:Passes CX X E)
  (I:Inv X pins σ H s) (r:Vals vs us) (h:sp (vs++dvs) H Q E):wpAny (model X.prog X.w) X.A (call (.ref f) us) (EP X pins σ Q) X.xe s:=by
 have r2:Vals (vs++dvs) (us++ds):=r.append hd
 have hl:(us++ds).length=ps.length:=by rw[←r2.length];exact F.len _ _ _ _ h
 refine wpAny_call (codeAny_mono (F.run X.A X.stack s H ⟨us,[]⟩ (us++ds) (vs++dvs) Q E hr I.GU (hb s us I.tV hl) r2 h) fun r s' hq=>?_)
 cases r with
 |error e=>exact hx pins σ H s e s' I hq
 |ok fl =>
  cases fl with
  |ret u=>exact I.after hq
  |next=>exact False.elim hq
  |brk=>exact False.elim hq
  |cont=>exact False.elim hq
theorem xP(F:bF X.prog X.w X.K X.mg X.base CX k f fd ps sp)(hr:cT k X.A)(hg:Gl X x)(hm:X.mg x=some (.ref f))(hk:PySem.W.keepIn X.K (.ref f)=true)(hb:Binds X.K fd ps ds)(hd:Vals dvs ds)(hx:Passes CX X E)
  (ha:PA X (e::es) t) (hdb:(x == ("__debug__":Str))=false:=by decide) (he:starEach (e::es) X.env=(false,eval e X.env)::starEach es X.env:=by rfl) (hpl:(backTo pos (starEach es X.env)).any (·.1)=false:=by rfl) :
  PE X (.Call (.Name x p) (e::es) [] pos) (uo sp dvs E t):=by
 intro pins s σ H Q I h
 refine wpAny_Call_Name_kw (rP I hg hm ?_ hdb)
 refine PySem.W.callWith_K (h₀:=X.base) I.ok.mod.kin hk (bP (ha pos pins s σ H _ I h) fun us s1 ⟨vs,H1,I1,r,q⟩=>⟨I1.tV,?_⟩) he hpl
 exact rS F hr hb hd hx I1 r q
theorem rT{pl:Sem Bool}(he:PE X o ta)(c:zS X.K C)(hm:Meth X.K C m f)(F:bF X.prog X.w X.K X.mg X.base CX k f fd ps sp)(hr:cT k X.A)(hb:Binds X.K fd ps ds)(hd:Vals dvs ds)(hx:Passes CX X E)(ha:PA X (e::es) t)
  (hst:starEach (e::es) X.env=(false,eval e X.env)::starEach es X.env:=by rfl) (hpl:(backTo pos (starEach es X.env)).any (·.1)=false:=by rfl)
  (ht:eval (.Call (.Attribute o m apos) (e::es) [] pos) X.env=(do
   let ov ←eval o X.env
   standAt apos.atName
   let(f,first) ←holding [ov] (getMethod ov m pl)
   callWith pos f first (backTo pos (starEach (e::es) X.env)) (backToKw pos (keywordEach [] X.env))):=by rfl) :
  PE X (.Call (.Attribute o m apos) (e::es) [] pos) (Ea C m sp dvs E ta t):=by
 intro pins s σ H Q I h
 refine PySem.W.methodCall_KW (pl:=pl) (bP (he pins s σ H _ I h) fun u s1 ⟨x,H1,I1,rx,a,dx,fs,ex,ea,l,q⟩=>?_) ht
 subst ex
 obtain rfl:u=Value.ref a:=rx
 refine oO I1 ea c hm l ?_
 refine PySem.W.callWith_K (first:=[.ref a]) (h₀:=X.base) I.ok.mod.kin hm.kp (bP (ha pos pins s1 σ H1 _ I1 q) fun us s2 ⟨vs,H2,I2,r,q2⟩=>⟨I2.tV,?_⟩) hst hpl
 exact rS (us:=.ref a::us) (vs:=.ref a::vs) F hr hb hd hx I2 (.cons rfl r) q2
theorem gr{pl:Sem Bool}(he:PE X o ta)(c:zS X.K C)(hm:Meth X.K C m f)(F:bF X.prog X.w X.K X.mg X.base CX k f fd ps sp)(hr:cT k X.A)(hb:Binds X.K fd ps ds)(hd:Vals dvs ds)(hx:Passes CX X E)
  (ht:eval (.Call (.Attribute o m apos) [] [] pos) X.env=(do
   let ov ←eval o X.env
   standAt apos.atName
   let(f,first) ←holding [ov] (getMethod ov m pl)
   callWith pos f first (backTo pos (starEach [] X.env)) (backToKw pos (keywordEach [] X.env))):=by rfl) :
  PE X (.Call (.Attribute o m apos) [] [] pos) (Ea C m sp dvs E ta nL):=by
 intro pins s σ H Q I h
 refine PySem.W.methodCall_KW (pl:=pl) (bP (he pins s σ H _ I h) fun u s1 ⟨x,H1,I1,rx,a,dx,fs,ex,ea,l,q⟩=>?_) ht
 subst ex
 obtain rfl:u=Value.ref a:=rx
 refine oO I1 ea c hm l ?_
 exact PySem.W.callWith_K0 (first:=[.ref a]) I1.tV hm.kp (rS (us:=[.ref a]) (vs:=[.ref a]) F hr hb hd hx I1 (.cons rfl .nil) q)
structure Mk(K:PySem.W.Frag) (C f:Addr):Prop where
 makes:PySem.W.makesIn K C=true
 init:PySem.W.findIn K (.ref C) "__init__"=some (some (.ref f))
 fn:PySem.W.isFn K (.ref f)=true
 kp:PySem.W.keepIn K (.ref C)=true
theorem Ak{pins:List (Addr×Obj)}{σ:St}{H:Hp}{s:Shared}{Q:VK}{us:List Value}{vs:List V}(M:Mk X.K C f)(F:bF X.prog X.w X.K X.mg X.base CX k f fd ps sp)(hr:cT (k+1) X.A)(hb:Binds X.K fd ps ds)(hd:Vals dvs ds)
  (hx:Passes CX X E) (I:Inv X pins σ H s) (r:Vals vs us)
  (h:∀x dx,H x=none->H dx=none->dx≠x->sp (.ref x::(vs++dvs)) (upd (upd H dx (.own x)) x (.ins C dx [])) (fun v H2=>v=.eW/\Q (.ref x) H2) E) :
  wpAny (model X.prog X.w) X.A (call (.ref C) us) (EP X pins σ Q) X.xe s:=by
 have hq:=h (s.heap.objs.size+1) s.heap.objs.size (I.hok.fresh (Nat.le_succ _)) (I.hok.fresh (Nat.le_refl _)) (Nat.ne_of_lt (Nat.lt_succ_self _))
 have I2:=Inv.made (C:=C) I
 have r2:Vals (V.ref (s.heap.objs.size+1)::(vs++dvs)) (Value.ref (s.heap.objs.size+1)::(us++ds)):=.cons rfl (r.append hd)
 have hl:(Value.ref (s.heap.objs.size+1)::us++ds).length=ps.length:=by
  have e:=r2.length
  rw[F.len _ _ _ _ hq]at e
  exact e.symm
 refine wpAny_call (Aj (f:=f) I.tV M.makes M.init (beq_iff_eq.mp M.fn) (codeAny_mono (F.run _ X.stack _ _ ⟨Value.ref (s.heap.objs.size+1)::us,[]⟩ (Value.ref (s.heap.objs.size+1)::(us++ds)) _ _ E (hr.make C us [])
  (I2.GU.make C us []) (hb _ (Value.ref (s.heap.objs.size+1)::us) I2.tV hl) r2 hq) fun r s' hq'=>?_))
 cases r with
 |error e=>exact hx pins σ _ _ e s' I2 hq'
 |ok fl =>
  cases fl with
  |ret u =>
   obtain⟨v,H',I3,rv,ev,q3⟩:=I2.after hq'
   subst ev
   exact⟨rv,⟨V.ref (s.heap.objs.size+1),H',I3,rfl,q3⟩⟩
  |next=>exact False.elim hq'
  |brk=>exact False.elim hq'
  |cont=>exact False.elim hq'
theorem CG(M:Mk X.K C f)(F:bF X.prog X.w X.K X.mg X.base CX k f fd ps sp)(hr:cT (k+1) X.A)(hg:Gl X x)(hm:X.mg x=some (.ref C))(hb:Binds X.K fd ps ds)(hd:Vals dvs ds)(hx:Passes CX X E)
  (ha:PA X (e::es) t) (hdb:(x == ("__debug__":Str))=false:=by decide) (he:starEach (e::es) X.env=(false,eval e X.env)::starEach es X.env:=by rfl) (hpl:(backTo pos (starEach es X.env)).any (·.1)=false:=by rfl) :
  PE X (.Call (.Name x p) (e::es) [] pos) (GV C sp dvs E t):=by
 intro pins s σ H Q I h
 refine wpAny_Call_Name_kw (rP I hg hm ?_ hdb)
 refine PySem.W.callWith_K (h₀:=X.base) I.ok.mod.kin M.kp (bP (ha pos pins s σ H _ I h) fun us s1 ⟨vs,H1,I1,r,q⟩=>⟨I1.tV,?_⟩) he hpl
 exact Ak M F hr hb hd hx I1 r q
end
section
variable {X:Cx}{CX:zT}{k:Nat}{f C:Addr}{fd:FuncData}{ps ks:List Str}{sp:Sp}{E:XK}{x m:Str}{p pos apos kpos:Pos}{e o:Expr}{es:List Expr}{kws:List Keyword}{te ta:TE}{t tk:TA}{nm:Option Str}
variable {g:List Value->List Value->List Value}{gV:List V->List V->List V}
end
structure aM(N P:List Str) (sc:Scope):Prop where
 kind:sc.kind=.function
 co:sc.isCoroutine=false
 gen:sc.isGenerator=false
 nd:N.Nodup
 pre:N.take P.length=P
 par:∀x∈P,sc.names.lookup x=some .local\/sc.names.lookup x=some .cell
 nofree:∀y∈sc.names,y.2≠.free
theorem qC{kindOf:Str->Option NameKind}{x:Str}:∀{binds:List (Str×Value)}{m:Str->Option Value},(∀v,(x,v)∉binds)->bindL kindOf binds m x=m x
 | [],_,_=>rfl
 |(n,v)::r,m,h=>by
  unfold bindL
  rw[qC fun w hw=>h w (List.mem_cons_of_mem _ hw)]
  split
  ·have:x≠n:=by rintro rfl;exact h v List.mem_cons_self
   simp[this]
  ·rfl
theorem qD{kindOf:Str->Option NameKind}{x:Str}:∀{binds:List (Str×Value)}{m:Str->Option Value},(∀v,(x,v)∉binds)->bindC kindOf binds m x=m x
 | [],_,_=>rfl
 |(n,v)::r,m,h=>by
  unfold bindC
  rw[qD fun w hw=>h w (List.mem_cons_of_mem _ hw)]
  split
  ·rfl
  ·have:x≠n:=by rintro rfl;exact h v List.mem_cons_self
   simp[this]
theorem qE{kindOf:Str->Option NameKind}{x:Str}{v:Value}:∀{P:List Str}{vs:List Value}{i:Nat}{m:Str->Option Value},P.Nodup->P[i]?=some x->vs[i]?=some v->kindOf x=some .local ->
  bindL kindOf (P.zip vs) m x=some v
 | [],_,_,_,_,h,_,_=>by simp at h
 |_::_,[],_,_,_,_,h,_=>by simp at h
 |p::P,w::vs,0,m,nd,h1,h2,hk=>by
  simp at h1 h2;subst h1;subst h2
  show bindL kindOf ((p,w)::P.zip vs) m p=_
  unfold bindL
  rw[qC fun v hv=>(List.nodup_cons.mp nd).1 (List.of_mem_zip hv).1,if_pos hk]
  simp
 |p::P,w::vs,i+1,m,nd,h1,h2,hk=>by
  show bindL kindOf ((p,w)::P.zip vs) m x=_
  unfold bindL
  exact qE (i:=i) (List.nodup_cons.mp nd).2 (by simpa using h1) (by simpa using h2) hk
theorem qF{kindOf:Str->Option NameKind}{x:Str}{v:Value}:∀{P:List Str}{vs:List Value}{i:Nat}{m:Str->Option Value},P.Nodup->P[i]?=some x->vs[i]?=some v->kindOf x≠some .local ->
  bindC kindOf (P.zip vs) m x=some v
 | [],_,_,_,_,h,_,_=>by simp at h
 |_::_,[],_,_,_,_,h,_=>by simp at h
 |p::P,w::vs,0,m,nd,h1,h2,hk=>by
  simp at h1 h2;subst h1;subst h2
  show bindC kindOf ((p,w)::P.zip vs) m p=_
  unfold bindC
  rw[qD fun v hv=>(List.nodup_cons.mp nd).1 (List.of_mem_zip hv).1,if_neg hk]
  simp
 |p::P,w::vs,i+1,m,nd,h1,h2,hk=>by
  show bindC kindOf ((p,w)::P.zip vs) m x=_
  unfold bindC
  exact qF (i:=i) (List.nodup_cons.mp nd).2 (by simpa using h1) (by simpa using h2) hk
noncomputable def start(N:List Str)(vs:List V):St:=vs.map some++List.replicate (N.length-vs.length) none
noncomputable def ji(CX:zT)(P:Program)(w:World)(K:PySem.W.Frag)(mg:Str->Option Value)(base:Heap)(N:List Str)(qual:Str)(scope:Scope)(f:Addr)(cd:Value)(A:Around)(outer:List Env)(s:Shared)(H:Hp)(E:XK):Cx where
 prog:=P
 w:=w
 K:=K
 mg:=mg
 base:=base
 A:=A.deeper (envOfC qual scope s.heap.objs.size f cd)
 N:=N
 s₀:=s
 H₀:=H
 env:=envOfC qual scope s.heap.objs.size f cd
 outer:=outer
 stack:=envOfC qual scope s.heap.objs.size f cd::outer
 ex:=[]
 calm:=true
 fn:=fun _=>true
 pn:=[]
 xe:=fun e s'=>wpAny (model P w) (A.deeper (envOfC qual scope s.heap.objs.size f cd)) (leaving (envOfC qual scope s.heap.objs.size f cd) e) (fun _ s''=>CX outer H s E e s'') (fun e' s''=>CX outer H s E e' s'') s'
theorem uq{sc:Scope}{n:Nat}{x:Str}(h:sc.names.lookup x=some .cell):∃c,(cellsFrom n sc.names []).lookup x=some c:=by
 have q:=PySem.W.cellsFrom_some sc.names n [] (.inl h)
 exact Option.isSome_iff_exists.mp q
theorem yU{CX:zT}{P:Program}{w:World}{K:PySem.W.Frag}{mg:Str->Option Value}{base:Heap}{N ps:List Str}{qual:Str}{scope:Scope}{f:Addr}{cd:Value}{A:Around}{outer:List Env}{s s1:Shared}{H:Hp}{E:XK}{us:List Value}{vs:List V}
  (S:aM N ps scope) (hd:A.handled=none) (e0:vU P w K mg base A outer s H) (hl:vs.length=ps.length) (r:Vals vs us)
  (x:InCallC s s.heap.objs.size (bindL (envOfC qual scope s.heap.objs.size f cd).kindOf (ps.zip us) fun _=>none) (cellsFrom (s.heap.objs.size+1) scope.names []) (bindC (envOfC qual scope s.heap.objs.size f cd).kindOf (ps.zip us) fun _=>none) s1) :
  Inv (ji CX P w K mg base N qual scope f cd A outer s H E) [] (start N vs) H s1:=by
 have hpl:ps.length<=N.length:=by have:=congrArg List.length S.pre;rw[List.length_take]at this;omega
 obtain⟨h1,tk,rfl,hk⟩:=x.done
 have noA:∀b:Addr,b∉(ji CX P w K mg base N qual scope f cd A outer s H E).ex:=fun b z=>absurd (show b∈([]:List Addr)from z) (by simp)
 refine⟨⟨e0.mod,S.kind,rfl,rfl,Nat.le_refl _,fun y z c h1 h2=>?_,fun y hy=>?_,fun y c _ h=>?_,fun _=>hd,Around.frames_deeper e0.frames,.inr ⟨rfl,rfl⟩,fun b z=>absurd z (noA b),e0.bs,e0.bsz,fun b _ _=>noA b,fun b z=>absurd z (noA b),e0.nJ,e0.frf⟩,
  rfl,e0.bare,Un.kept hk,⟨_,x.toInCall.ns,fun i y v h1 h2 h3=>?_⟩,fun y c h=>⟨_,x.cell y c h⟩,e0.hok.fresh (Nat.le_refl _),fun y c h=>?_,fun p hp=>absurd (show p∈([]:List (Addr×Obj))from hp) (by simp),e0.hok.kept hk,?_⟩
 ·exact name_of_addr x.apart (PySem.mem_of_lookup h1) (PySem.mem_of_lookup h2)
 ·have hy:scope.names.lookup y=some .cell\/scope.names.lookup y=some .free:=hy
  rcases hy with hy|hy
  ·exact uq hy
  ·exact absurd rfl (S.nofree _ (PySem.mem_of_lookup hy))
 ·exact Nat.le_of_lt (x.above y c (PySem.mem_of_lookup h))
 ·have hi:i<vs.length:=by
   unfold start at h2
   by_cases hi:i<vs.length
   ·exact hi
   ·rw[List.getElem?_append_right (by simpa using hi)]at h2
    rw[List.getElem?_replicate]at h2
    split at h2<;>cases h2
  have ha:vs[i]?=some v:=by
   unfold start at h2
   rw[List.getElem?_append_left (by simpa using hi),List.getElem?_map]at h2
   cases e:vs[i]? with
   |none=>rw[e]at h2;cases h2
   |some a=>rw[e]at h2;cases h2;rfl
  obtain⟨u,hu,rv⟩:=r.get ha
  have hp:ps[i]?=some y:=by
   rw[←S.pre,List.getElem?_take_of_lt (by omega)];exact h1
  have ndP:ps.Nodup:=by rw[←S.pre];exact S.nd.sublist (List.take_sublist _ _)
  refine⟨u,rv,?_⟩
  rcases S.par y (List.mem_of_getElem? hp)with k|k
  ·exact .inl ⟨k,qE ndP hp hu k⟩
  ·obtain⟨c,e⟩:=uq (n:=s.heap.objs.size+1) k
   refine .inr ⟨.inl k,c,e,?_⟩
   have q:=x.cell y c e
   rw[qF ndP hp hu (by show scope.names.lookup y≠_;rw[k];decide)]at q
   exact q
 ·exact e0.hok.fresh (Nat.le_of_lt (x.above y c (PySem.mem_of_lookup h)))
 ·unfold start
  show _=N.length
  rw[List.length_append,List.length_map,List.length_replicate]
  omega
theorem GW{CX:zT}{P:Program}{w:World}{K:PySem.W.Frag}{mg:Str->Option Value}{base:Heap}{k:Nat}{f:Addr}{name qual:Str}{params:Arguments}{body:List Stmt}{scope:Scope}{dV kV doc pm cdv ct oc:Value}{an od:Option Addr}
  {osl:Array (Option Value)}{N ps:List Str}{sp:Sp}(lk:K.lookup f=some ⟨oc,od,.func (PySem.W.fnOf name qual params body scope dV kV doc pm an cdv ct),osl⟩) (hcd:PySem.W.codeIn K cdv qual=true) (S:aM N ps scope)
  (len:∀vs H Q E,sp vs H Q E->vs.length=ps.length)
  (hbody:∀(A:Around) (outer:List Env) (s:Shared) (H:Hp) (vs:List V) (Q:VK) (E:XK),cT k (A.deeper (envOfC qual scope s.heap.objs.size f cdv))->sp vs H Q E ->
   ∃t,vH (ji CX P w K mg base N qual scope f cdv A outer s H E) body t/\t {nx:=fun _ H'=>Q .eW H',rt:=Q} (start N vs) H) :
  bF P w K mg base CX (k+1) f (PySem.W.fnOf name qual params body scope dV kV doc pm an cdv ct) ps sp:=by
 refine⟨len,fun A outer s H args us vs Q E hr e0 hb r hsp=>?_⟩
 have hl:=len _ _ _ _ hsp
 have KX:K.In s.heap:=e0.mod.kin.keeps fun b o e=>(e0.bs b o e).1
 have lim:s.heap.NoLimit:=e0.mod.nolimit.keeps fun b o e=>(e0.bs b o e).1
 have hkind:∀y∈ps.zip us,scope.names.lookup y.1=some .local\/(scope.names.lookup y.1=some .cell/\((cellsFrom (s.heap.objs.size+1) scope.names []).lookup y.1).isSome=true):=fun⟨n,v⟩ hy=>by
  rcases S.par n (List.of_mem_zip hy).1 with q|q
  ·exact .inl q
  ·exact .inr ⟨q,PySem.W.cellsFrom_some _ _ _ (.inl q)⟩
 refine codeAny_call_function hr.depth (KX _ _ lk) rfl S.co S.gen rfl (PySem.W.codeRec_of KX hcd) (hb _ _ _ _ ?_)
 refine wpAny_newFunctionEnv_cells S.kind hkind fun env he s1 x=>?_
 subst he
 refine⟨lim.keeps x.toInCall.keep,codeAny_func ?_⟩
 obtain⟨t,ht,hq⟩:=hbody A outer s H vs Q E (hr.deeper _) hsp
 have I:Inv (ji CX P w K mg base N qual scope f cdv A outer s H E) [] (start N vs) H s1:=yU S hr.hd e0 hl r x
 refine wpAny_mono (ht [] s1 (start N vs) H _ I hq) (fun fl s' hs=>?_) fun e s' hs=>hs
 have fin:∀{σ':St}{H':Hp}{v:V}{u:Value},Inv (ji CX P w K mg base N qual scope f cdv A outer s H E) [] σ' H' s'->RelV v u->Q v H'->CE outer P w H s Q u s' :=
  fun{σ' H' v u} J rv q=>⟨v,H',J.os,J.bare,J.base,J.hok,rv,q⟩
 cases fl with
 |ret u =>
  obtain⟨v,σ',H',J,rv,q⟩:=hs
  exact fin J rv q
 |next =>
  obtain⟨σ',H',J,q⟩:=hs
  exact fin (v:=V.eW) (u:=Value.none) J rfl q
 |brk =>
  obtain⟨_,_,_,q⟩:=hs
  exact False.elim q
 |cont =>
  obtain⟨_,_,_,q⟩:=hs
  exact False.elim q
section
variable {X:Cx}{x:Str}{p pos:Pos}{e:Expr}{es:List Expr}{t:TA}{id T:String}{r:List V->Hp->VK->Prop}
noncomputable def Jp(r:List V->Hp->VK->Prop)(t:TA):TE:=fun σ H Q=>t σ H fun vs H1=>r vs H1 Q
theorem gu(hc:kL X (.builtin id) r)(hg:Gl X x)(hm:X.mg x=none)(hv:bootBuiltins x=some (.builtin id))(ha:PA X (e::es) t)(hn:x≠"__name__":=by decide)(hdb:(x == ("__debug__":Str))=false:=by decide)
  (he:starEach (e::es) X.env=(false,eval e X.env)::starEach es X.env:=by rfl) (hpl:(backTo pos (starEach es X.env)).any (·.1)=false:=by rfl):PE X (.Call (.Name x p) (e::es) [] pos) (Jp r t):=by
 intro pins s σ H Q I h
 refine wpAny_Call_Name_kw (kX I hg hm hv ?_ hn hdb)
 exact PyProof.Rows.callWith_builtin1 (bP (ha pos pins s σ H _ I h) fun us s1 ⟨vs,H1,I1,r1,q1⟩=>hc pins s1 σ H1 vs us Q I1 r1 q1) he hpl
theorem yV(hc:kL X (.type T) r)(hg:Gl X x)(hm:X.mg x=none)(hv:bootBuiltins x=some (.type T))(ha:PA X (e::es) t)(hn:x≠"__name__":=by decide)(hdb:(x == ("__debug__":Str))=false:=by decide)
  (he:starEach (e::es) X.env=(false,eval e X.env)::starEach es X.env:=by rfl) (hpl:(backTo pos (starEach es X.env)).any (·.1)=false:=by rfl):PE X (.Call (.Name x p) (e::es) [] pos) (Jp r t):=by
 intro pins s σ H Q I h
 refine wpAny_Call_Name_kw (kX I hg hm hv ?_ hn hdb)
 exact PyProof.Rows.callWith_type1 (bP (ha pos pins s σ H _ I h) fun us s1 ⟨vs,H1,I1,r1,q1⟩=>hc pins s1 σ H1 vs us Q I1 r1 q1) he hpl
end
end L2
namespace HT
open PySem PyProof.Rows
section
open PySem.SeqAt
open PySem.AutoSeq1 (wpAny_loadPart')
open PySem.MeetsSeq PySem.MeetsSeq2 PySem.MeetsSeq3
end
section
variable {prog:Program}{w:World}{A:Around}{E:Value->Shared->Prop}{s:Shared}
theorem CH{t b:Addr}{vs ws:List Value}{Q:Value->Shared->Prop}(ht:IsTup s.heap t vs.toArray)(hb:IsTup s.heap b ws.toArray)(hv:vs≠[])
  (h1:ws=[]->Q (.ref t) s) (h2:ws≠[]->Q (.ref s.heap.objs.size) {s with heap:=s.heap.push {cls:=.type "tuple",data:=.seq (vs++ws).toArray}})
  (hsz:vs.length+ws.length<=sizeLine):wpAny (model prog w) A (binaryOp .Add (.ref t) (.ref b)) Q E s:=by
 obtain⟨⟨cls,dd,data,sl⟩,ho,hc,n,hd⟩:=id ht
 obtain⟨⟨cls2,dd2,data2,sl2⟩,ho2,hc2,n2,hd2⟩:=id hb
 simp only at hc hd hc2 hd2
 subst hc hd hc2 hd2
 have e:vs.toArray++ws.toArray=(vs++ws).toArray:=by simp
 by_cases hw:ws=[]
 ·exact concat_meets ⟨_,ho,rfl⟩ ⟨_,ho2,rfl⟩ noFill_tuple_add seq_tuple_add PySem.F.slot_tuple_add PySem.F.entry_tuple_add (PySem.F.args_tuple_add_2 _ _)
   (tuple_addW1 t b vs.toArray ws.toArray n n2 dd dd2 sl sl2 (by simpa using hv) (by simp[hw])) ⟨ho,ho2,h1 hw⟩
 ·refine concat_meets ⟨_,ho,rfl⟩ ⟨_,ho2,rfl⟩ noFill_tuple_add seq_tuple_add PySem.F.slot_tuple_add PySem.F.entry_tuple_add (PySem.F.args_tuple_add_2 _ _)
   (tuple_addW2 t b vs.toArray ws.toArray n n2 dd dd2 sl sl2 (by simpa using hv) (by simpa using hw) (by rw[List.size_toArray,List.size_toArray];exact hsz)) ⟨ho,ho2,?_⟩
  rw[e]
  exact h2 hw
noncomputable def fE(n d:Nat):Option Int->Nat
 |none=>d
 |some v=>if v<0 then(v+(n:Int)).toNat else min v.toNat n
theorem ur(n d:Nat):fE n d none=d:=rfl
theorem rV(n d k:Nat):fE n d (some (k:Int))=min k n:=by
 show(if(k:Int)<0 then((k:Int)+(n:Int)).toNat else min (k:Int).toNat n)=min k n
 rw[if_neg (by omega),Int.toNat_natCast]
theorem EZ(n d:Nat)(hd:d<=n)(o:Option Int):fE n d o<=n:=by
 cases o with
 |none=>exact hd
 |some v =>
  show(if v<0 then(v+(n:Int)).toNat else min v.toNat n)<=n
  by_cases hv:v<0
  ·rw[if_pos hv];omega
  ·rw[if_neg hv];exact Nat.min_le_right _ _
theorem xQ(v:Int)(n d:Nat):(if v<0 then max (v+(n:Int)) 0 else min v (n:Int))=((fE n d (some v):Nat):Int):=by
 show(if v<0 then max (v+(n:Int)) 0 else min v (n:Int))=(((if v<0 then(v+(n:Int)).toNat else min v.toNat n):Nat):Int)
 by_cases hv:v<0
 ·simp only[if_pos hv];omega
 ·simp only[if_neg hv];omega
theorem vV(lo hi:Option Int)(n:Nat):Builtin.Slice.sliceAdjust lo hi 1 (n:Int)=(((fE n 0 lo:Nat):Int),((fE n n hi:Nat):Int)):=by
 have h1:¬((1:Int)<0):=by omega
 unfold Builtin.Slice.sliceAdjust
 simp only[h1,if_false]
 refine Prod.ext ?_ ?_
 ·cases lo with
  |none=>rfl
  |some v=>exact xQ v n 0
 ·cases hi with
  |none=>rfl
  |some v=>exact xQ v n n
theorem vW(i j:Nat):Builtin.Slice.slicePlaces (i:Int) (j:Int) 1=j-i:=by
 unfold Builtin.Slice.slicePlaces
 have h1:(1:Int)>0:=by omega
 simp only[h1,if_true,Int.ediv_one]
 split<;>omega
theorem oR{v:Value}{o:Option Int}{Q:Option Int->Shared->Prop}(p:IsPart v o)(h:Q o s):wpAny (model prog w) A (Builtin.Slice.slicePartIndex v) Q E s:=by
 cases p with
 |none=>exact slicePart_none h
 |int i t=>exact slicePart_int h
theorem mV{sl:Addr}{vl vu:Value}{lo hi:Option Int}{n:Nat}{Q:Int×Int×Nat->Shared->Prop}(hs:s.heap.IsSliceOf sl vl vu .none)(pl:IsPart vl lo)(pu:IsPart vu hi)
  (h:Q (((fE n 0 lo:Nat):Int),1,fE n n hi-fE n 0 lo) s):wpAny (model prog w) A (Builtin.Slice.sliceApplied (.ref sl) (pure (n:Int))) Q E s:=by
 obtain⟨os,hos,hcs,hds⟩:=id hs
 unfold Builtin.Slice.sliceApplied Builtin.Slice.sliceFields
 refine wpAny_bind (wpAny_bind (wpAny_field hos hds (x:=vl) rfl (wpAny_bind (wpAny_field hos hds (x:=vu) rfl (wpAny_bind (wpAny_field hos hds (x:=.none) rfl (wpAny_pure ?_)))))))
 refine wpAny_bind (slicePart_none ?_)
 show wpAny _ _ (if((1:Int) == 0)=true then _ else _) _ _ s
 rw[if_neg (by decide)]
 refine wpAny_bind (oR pl (wpAny_bind (oR pu (wpAny_bind (wpAny_pure ?_)))))
 show wpAny _ _ (match Builtin.Slice.sliceAdjust lo hi 1 (n:Int)with|(lo,hi)=>pure (lo,(1:Int),Builtin.Slice.slicePlaces lo hi 1)) _ _ s
 rw[vV lo hi n]
 show wpAny _ _ (pure (((fE n 0 lo:Nat):Int),(1:Int),Builtin.Slice.slicePlaces ((fE n 0 lo:Nat):Int) ((fE n n hi:Nat):Int) 1)) _ _ s
 rw[vW]
 exact wpAny_pure h
theorem Al(xs:Array Value)(i k:Nat):((List.range k).filterMap fun(m:Nat)=>xs[((i:Int)+(m:Int)*1).toNat]?).toArray=((xs.toList.drop i).take k).toArray:=by
 have e:(fun(m:Nat)=>xs[((i:Int)+(m:Int)*1).toNat]?)=fun m=>xs[i+m]?:=by
  funext m
  have:((i:Int)+(m:Int)*1).toNat=i+m:=by omega
  rw[this]
 rw[e]
 have:=pick_run xs i k
 rw[List.filterMap_map]at this
 have e2:((fun x=>xs[x]?) ∘ fun x=>i+x)=fun m=>xs[i+m]?:=rfl
 rw[e2]at this
 rw[this]
theorem lQ{t sl:Addr}{items:Array Value}{vl vu:Value}{lo hi:Option Int}{Q:Value->Shared->Prop}(ht:IsTup s.heap t items)(hs:s.heap.IsSliceOf sl vl vu .none)(pl:IsPart vl lo)(pu:IsPart vu hi)
  (hw:¬(fE items.size 0 lo=0/\fE items.size items.size hi=items.size))
  (h:Q (.ref s.heap.objs.size) {s with heap:=s.heap.push {cls:=.type "tuple",data:=.seq ((items.toList.drop (fE items.size 0 lo)).take (fE items.size items.size hi-fE items.size 0 lo)).toArray}})
  (hsz:items.size<=sizeLine):wpAny (model prog w) A (getItem (.ref t) (.ref sl)) Q E s:=by
 have htake:sizeOk (.seq ((items.toList.drop (fE items.size 0 lo)).take (fE items.size items.size hi-fE items.size 0 lo)).toArray):=by
  show((items.toList.drop (fE items.size 0 lo)).take (fE items.size items.size hi-fE items.size 0 lo)).toArray.size<=sizeLine
  rw[List.size_toArray,List.length_take,List.length_drop,Array.length_toList]
  omega
 have hj:fE items.size items.size hi<=items.size:=EZ _ _ (Nat.le_refl _) hi
 obtain⟨os,hos,hcs,hds⟩:=id hs
 have hTs:s.TypeIs (.ref sl) "slice":=⟨os,hos,hcs⟩
 unfold getItem
 try with_reducible refine wpAny_holding ?_
 first|refine wpAny_bind (wpAny_pure ?_)|skip
 refine wpAny_bind (wpAny_sequenceKey ht.typeIs (by decide) ?_)
 refine wpAny_bind (wpAny_callSpecial?_slot (name:=Str.ofString "__getitem__") ht.typeIs PyProof.Rows.slot_tuple_getitem
  (wpAny_call_entry PyProof.Rows.slot_tuple_getitem ht.typeIs entry_tuple_getitem ?_ (args_tuple_getitem _ _)))
 show wpAny _ _ (Builtin.Tuple.tupleItemsOf (.ref t)>>=_) _ _ s
 refine wpAny_bind (tupleItemsOf_ ht ?_)
 refine wpAny_bind (wpAny_typeOf hTs ?_)
 rw[if_pos (by decide)]
 refine wpAny_bind (mV hs pl pu ?_)
 have hno:¬((((fE items.size 0 lo:Nat):Int) == 0&&(1:Int) == 1&&(fE items.size items.size hi-fE items.size 0 lo) == items.size)=true):=by
  intro q
  rw[Bool.and_eq_true,Bool.and_eq_true]at q
  have q1:((fE items.size 0 lo:Nat):Int)=0:=eq_of_beq q.1.1
  have q2:fE items.size items.size hi-fE items.size 0 lo=items.size:=eq_of_beq q.2
  exact hw ⟨by omega,by omega⟩
 show wpAny _ _ (if(((fE items.size 0 lo:Nat):Int) == 0&&(1:Int) == 1&&(fE items.size items.size hi-fE items.size 0 lo) == items.size)=true then _ else _) _ _ s
 rw[if_neg hno,Al]
 first
  |exact wpAny_bind (m:=Builtin.Tuple.tupleExact _) (wpAny_newObj_type (wpAny_pure ⟨_,rfl,wpAny_pure h⟩) htake)
  |exact wpAny_bind (m:=Builtin.Tuple.tupleExact _) (wpAny_newObj_type (wpAny_bind (wpAny_pure (wpAny_pure ⟨_,rfl,wpAny_pure h⟩))) htake)
  |exact wpAny_bind (wpAny_bind (m:=Builtin.Tuple.tupleExact _) (wpAny_newObj_type (wpAny_pure (wpAny_pure ⟨_,rfl,wpAny_pure h⟩)) htake))
  |exact wpAny_bind (wpAny_bind (m:=Builtin.Tuple.tupleExact _) (wpAny_newObj_type (wpAny_pure ⟨_,rfl,wpAny_pure h⟩) htake))
end
end HT
namespace L2
open PySem PySem.Spec PyProof.Rows
noncomputable abbrev TO:=St->Hp->(Option Int->Hp->Prop)->Prop
noncomputable def PO(X:Cx)(e:Option Expr)(t:TO):Prop :=
 ∀(pins:List (Addr×Obj)) (s:Shared) (σ:St) (H:Hp) (Q:Option Int->Hp->Prop),Inv X pins σ H s->t σ H Q ->
  wpAny (model X.prog X.w) X.A (evalPart e X.env) (fun u s'=>∃o H',Inv X pins σ H' s'/\IsPart u o/\Q o H') X.xe s
noncomputable def CI:TO:=fun _ H Q=>Q none H
noncomputable def GX(t:TE):TO:=fun σ H Q=>t σ H fun x H1=>∃i,x=.int i/\Q (some i) H1
section
variable {X:Cx}{e:Expr}{te:TE}{lo hi:Option Expr}{tl th:TO}{pos p2:Pos}
theorem hU:PO X none CI:=by
 intro pins s σ H Q I h
 rw[evalPart_none]
 exact wpAny_pure ⟨none,H,I,.none,h⟩
theorem fF(h:PE X e te):PO X (some e) (GX te):=by
 intro pins s σ H Q I hw
 rw[evalPart_some]
 refine bP (h pins s σ H _ I hw) fun u s1 ⟨x,H1,I1,r1,q1⟩=>?_
 obtain⟨i,rfl,q⟩:=q1
 obtain⟨t,rfl⟩:=r1
 exact⟨some i,H1,I1,.int i t,q⟩
noncomputable def Il(X:Cx)(r:V->Option Int->Option Int->Hp->VK->Prop):Prop :=
 ∀(pins:List (Addr×Obj)) (s:Shared) (σ:St) (H:Hp) (x:V) (v vl vu:Value) (lo hi:Option Int) (sl:Addr) (Q:VK),Inv X pins σ H s->RelV x v->s.heap.IsSliceOf sl vl vu .none->IsPart vl lo->IsPart vu hi->r x lo hi H Q ->
  ∃T id,typeLookup (.type T) "__getitem__"=pure (some (.builtin id))/\s.TypeIs v T/\wpAny (model X.prog X.w) X.A (getItem v (.ref sl)) (EP X pins σ Q) X.xe s
noncomputable def JB(r:V->Option Int->Option Int->Hp->VK->Prop)(te:TE)(tl th:TO):TE:=fun σ H Q=>te σ H fun x H1=>tl σ H1 fun l H2=>th σ H2 fun u H3=>r x l u H3 Q
theorem iC{r:V->Option Int->Option Int->Hp->VK->Prop}(hr:Il X r)(he:PE X e te)(hl:PO X lo tl)(hu:PO X hi th):PE X (.Subscript e (.Slice lo hi none p2) pos) (JB r te tl th):=by
 intro pins s σ H Q I h
 refine Subscript_ (bP (he pins s σ H _ I h) fun v s1 ⟨x,H1,I1,r1,q1⟩=>?_)
 refine wpAny_Slice (bP (hl pins s1 σ H1 _ I1 q1) fun vl s2 ⟨l,H2,I2,pl,q2⟩=>bP (hu pins s2 σ H2 _ I2 q2) fun vu s3 ⟨u,H3,I3,pu,q3⟩=>?_)
 rw[evalPart_none]
 refine wpAny_pure ?_
 have I4:Inv X pins σ H3 {s3 with heap:=s3.heap.push {cls:=.type "slice",data:=.fields #[vl,vu,.none]}}:=I3.kept (t':=s3.toks) fun b ob q=>Heap.get?_push_of_some _ q
 obtain⟨T,id,hT,ht,hg⟩:=hr pins {s3 with heap:=s3.heap.push {cls:=.type "slice",data:=.fields #[vl,vu,.none]}} σ H3 x v vl vu l u s3.heap.objs.size Q I4 r1 (Heap.IsSliceOf.new ..) pl pu q3
 show wpAny (model X.prog X.w) X.A (subscriptTail e (.Slice lo hi none p2) v (.ref s3.heap.objs.size)) (EP X pins σ Q) X.xe {s3 with heap:=s3.heap.push {cls:=.type "slice",data:=.fields #[vl,vu,.none]}}
 exact tail_any (ops:=[.ref s3.heap.objs.size,v]) ht hT hg (by with_unfolding_all rfl)
noncomputable def jV(xs:List V)(lo hi:Option Int):List V:=(xs.drop (HT.fE xs.length 0 lo)).take (HT.fE xs.length xs.length hi-HT.fE xs.length 0 lo)
theorem nk(xs:List V)(lo hi:Option Int):(jV xs lo hi).length<=xs.length:=by
 unfold jV
 rw[List.length_take,List.length_drop]
 omega
noncomputable def IS(K:PySem.W.Frag):V->Option Int->Option Int->Hp->VK->Prop:=fun x lo hi H Q=>∃a xs,x=.ref a/\bT K H a xs /\
 ¬(HT.fE xs.length 0 lo=0/\HT.fE xs.length xs.length hi=xs.length)/\∀p,H p=none->Q (.ref p) (upd H p (.tup (jV xs lo hi)))
theorem Am:Il X (IS X.K):=by
 intro pins s σ H x v vl vu lo hi sl Q I rx hs pl pu h
 obtain⟨a,xs,rfl,hx,hw,q⟩:=h
 cases rx
 obtain⟨its,r,ht,hz⟩:=I.tuple hx
 have hlen:its.toArray.size=xs.length:=by rw[List.size_toArray];exact r.length.symm
 refine⟨"tuple",_,PyProof.Rows.slot_tuple_getitem.lookup,ht.typeIs,?_⟩
 refine HT.lQ ht hs pl pu (by rw[hlen];exact hw) ?_ (by rw[hlen];exact hz)
 rw[hlen]
 refine⟨.ref s.heap.objs.size,_,I.laid (t':=s.toks) (o:=.tup (jV xs lo hi)) (fun b ob q=>Heap.get?_push_of_some _ q) (Nat.le_refl _) ?_,rfl,q _ (I.hok.fresh (Nat.le_refl _))⟩
 exact⟨Nat.le_trans (nk xs lo hi) hz,_,(r.drop (HT.fE xs.length 0 lo)).take (HT.fE xs.length xs.length hi-HT.fE xs.length 0 lo),IsTup.new _ _,_,Heap.get?_push_size _ rfl,rfl⟩
noncomputable def GY(K:PySem.W.Frag):R2:=fun x y H Q=>∃a b xs ys,x=.ref a/\y=.ref b/\bT K H a xs/\bT K H b ys/\xs≠[]/\xs.length+ys.length<=sizeLine /\
 (ys=[]->Q (.ref a) H)/\(ys≠[]->∀p,H p=none->Q (.ref p) (upd H p (.tup (xs++ys))))
theorem Vals.rW{xs:List V}{us:List Value}(r:Vals xs us):us=[]↔xs=[]:=by
 cases r with
 |nil=>simp
 |cons _ _=>simp
theorem CJ:lO X (binaryOp .Add) (GY X.K):=by
 intro pins s σ H x y v u Q I rx ry h
 obtain⟨a,b,xs,ys,rfl,rfl,ha,hb,hx,hz,q1,q2⟩:=h
 cases rx
 cases ry
 obtain⟨its,r1,p1,_⟩:=I.tuple ha
 obtain⟨its2,r2,p2,_⟩:=I.tuple hb
 refine HT.CH p1 p2 (fun z=>hx (r1.rW.mp z)) (fun z=>⟨.ref a,H,I,rfl,q1 (r2.rW.mp z)⟩) (fun z=>?_) (by rw[←r1.length,←r2.length];exact hz)
 refine⟨.ref s.heap.objs.size,_,I.laid (t':=s.toks) (o:=.tup (xs++ys)) (fun b ob q=>Heap.get?_push_of_some _ q) (Nat.le_refl _) ?_,rfl,q2 (fun w=>z (r2.rW.mpr w)) _ (I.hok.fresh (Nat.le_refl _))⟩
 exact⟨by rw[List.length_append];exact hz,_,r1.append r2,IsTup.new _ _,_,Heap.get?_push_size _ rfl,rfl⟩
end
noncomputable def zU(n:Nat)(i:Int):Option Nat:=if 0<=i then(if i<n then some i.toNat else none)else if -(n:Int)<=i then some (i+n).toNat else none
noncomputable def fR{α:Type}(xs:List α)(i:Int):Option α:=(zU xs.length i).bind fun j=>xs[j]?
theorem xR{n:Nat}{i:Int}{j:Nat}(h:zU n i=some j):seqIndex? i n=some j/\j<n/\-(n:Int)<=i/\i<n:=by
 unfold zU at h
 by_cases h0:0<=i
 ·rw[if_pos h0]at h
  by_cases h1:i<n
  ·rw[if_pos h1]at h
   have e:i.toNat=j:=Option.some.inj h
   exact⟨by rw[seqIndex_of h0 h1,e],by omega,by omega,h1⟩
  ·rw[if_neg h1]at h;cases h
 ·rw[if_neg h0]at h
  by_cases h1:-(n:Int)<=i
  ·rw[if_pos h1]at h
   have e:(i+n).toNat=j:=Option.some.inj h
   exact⟨by rw[seqIndex_neg (by omega) h1,e],by omega,h1,by omega⟩
  ·rw[if_neg h1]at h;cases h
theorem rX{α:Type}{xs:List α}{i:Int}{v:α}(h:fR xs i=some v):∃j,seqIndex? i xs.length=some j/\xs[j]?=some v/\j<xs.length/\-(xs.length:Int)<=i/\i<xs.length:=by
 unfold fR at h
 cases e:zU xs.length i with
 |none=>rw[e]at h;cases h
 |some j =>
  rw[e]at h
  obtain⟨h1,h2,h3,h4⟩:=xR e
  exact⟨j,h1,h,h2,h3,h4⟩
theorem aN{α:Type}{xs:List α}{j:Nat}{v:α}(h:xs[j]?=some v):fR xs (j:Int)=some v:=by
 have hj:j<xs.length:=(List.getElem?_eq_some_iff.mp h).1
 have e:zU xs.length (j:Int)=some j:=by
  unfold zU
  rw[if_pos (by omega),if_pos (by omega)];simp
 unfold fR;rw[e];exact h
theorem uu{α:Type}(xs:List α)(v:α):fR (xs++[v]) (-1)=some v:=by
 have hl:(xs++[v]).length=xs.length+1:=by simp
 have e:zU (xs++[v]).length (-1)=some xs.length:=by
  unfold zU
  rw[hl,if_neg (by decide),if_pos (by omega)]
  congr 1
  omega
 unfold fR
 rw[e]
 show(xs++[v])[xs.length]?=some v
 simp
noncomputable def CK(b:Expr):Prop:=∀o i,subscripted b false o i=operate [o,i] (getItem o i)
noncomputable def GZ(X:Cx)(r:R2):Prop :=
 ∀(value slice:Expr) (pins:List (Addr×Obj)) (s:Shared) (σ:St) (H:Hp) (x y:V) (v u:Value) (Q:VK),Inv X pins σ H s->RelV x v->RelV y u->r x y H Q ->
  subscripted slice false v u=operate [v,u] (getItem v u)->wpAny (model X.prog X.w) X.A (subscriptTail value slice v u) (EP X pins σ Q) X.xe s
noncomputable def G0(X:Cx)(id:String)(r:V->List V->Hp->VK->Prop):Prop :=
 ∀(pins:List (Addr×Obj)) (s:Shared) (σ:St) (H:Hp) (x:V) (xs:List V) (v:Value) (us:List Value) (Q:VK),Inv X pins σ H s->RelV x v->Vals xs us->r x xs H Q ->
  wpAny (model X.prog X.w) X.A (call (.builtin id) (v::us)) (EP X pins σ Q) X.xe s
section
variable {X:Cx}{a b:Expr}{ta tb:TE}{pos:Pos}
theorem lS{r:R2}(hr:GZ X r)(ha:PE X a ta)(hb:PE X b tb)(hs:CK b):PE X (.Subscript a b pos) (qk r ta tb):=by
 intro pins s σ H Q I h
 exact Subscript_ (ER ha hb I h fun v u s2 x y H2 I2 rx ry q=>hr a b pins s2 σ H2 x y v u Q I2 rx ry q (hs _ _))
noncomputable def vX(K:PySem.W.Frag):R2:=fun x y H Q=>∃p xs i v,x=.ref p/\y=.int i/\cR K H p xs/\fR xs i=some v/\Q v H
noncomputable def oS(K:PySem.W.Frag):R2:=fun x y H Q=>∃p xs i v,x=.ref p/\y=.int i/\bT K H p xs/\fR xs i=some v/\Q v H
noncomputable def G1:R2:=fun x y H Q=>∃z i c,x=.str z/\y=.int i/\z.length<=sizeLine/\fR z.cps.toList i=some c/\Q (.str ⟨#[c]⟩) H
theorem aA:GZ X (vX X.K):=by
 intro value slice pins s σ H x y v u Q I rx ry h hs
 obtain⟨p,xs,i,z,rfl,rfl,hq,he,q⟩:=h
 cases rx
 obtain⟨t,rfl⟩:=ry
 obtain⟨its,r,pl,hz⟩:=I.list hq
 obtain⟨j,h1,h2,h3,h4,h5⟩:=rX he
 obtain⟨w,ew,rw'⟩:=r.get h2
 have hl:=r.length
 have hn:=k9
 have fin:EP X pins σ Q w s:=⟨z,H,I,rw',q⟩
 by_cases h0:0<=i
 ·have hj:i.toNat=j:=by
   rw[seqIndex_of h0 h5]at h1
   exact Option.some.inj h1
  exact item_listR pl.isList h0 (by omega) (by rw[hj];simpa using ew) fin hs
 ·have hj:(i+(its.toArray.size:Int)).toNat=j:=by
   rw[seqIndex_neg (by omega) h4]at h1
   rw[List.size_toArray,←hl]
   exact Option.some.inj h1
  exact subscriptTail_builtinR (x:=w) pl.isList.typeIs slot_list_getitem.lookup
   (wpAny_getItem_list_neg (Q:=fun r s'=>r=w/\EP X pins σ Q r s') pl.isList (by omega) (by rw[List.size_toArray]<;>omega) (by omega) (by rw[hj];simpa using ew) ⟨rfl,fin⟩) hs
theorem ay:GZ X (oS X.K):=by
 intro value slice pins s σ H x y v u Q I rx ry h hs
 obtain⟨p,xs,i,z,rfl,rfl,hq,he,q⟩:=h
 cases rx
 obtain⟨t,rfl⟩:=ry
 obtain⟨its,r,pl,hz⟩:=I.tuple hq
 obtain⟨j,h1,h2,h3,h4,h5⟩:=rX he
 obtain⟨w,ew,rw'⟩:=r.get h2
 have hl:=r.length
 have hn:=k9
 have fin:EP X pins σ Q w s:=⟨z,H,I,rw',q⟩
 exact subscriptTail_builtinR (x:=w) pl.typeIs slot_tuple_getitem.lookup
  (getItem_tuple (j:=j) (Q:=fun r s'=>r=w/\EP X pins σ Q r s') pl (by omega) (by omega) (by rw[List.size_toArray,←hl];exact h1) (by simpa using ew) ⟨rfl,fin⟩) hs
theorem rY:GZ X G1:=by
 intro value slice pins s σ H x y v u Q I rx ry h hs
 obtain⟨z,i,c,rfl,rfl,hz,he,q⟩:=h
 obtain⟨t,rfl⟩:=rx
 obtain⟨t',rfl⟩:=ry
 obtain⟨j,h1,h2,h3,h4,h5⟩:=rX he
 have hl:z.cps.toList.length=z.length:=by simp[Str.length]
 rw[hl]at h1 h4 h5
 have hn:=k9
 exact tail_any (typeIs_str s z t) slot_str_getitem.lookup (getItem_str (c:=c) (by
  have e1:decide (i < -(2 ^ 63:Int))=false:=decide_eq_false (by omega)
  have e2:decide (i ≥ 2 ^ 63)=false:=decide_eq_false (by omega)
  rw[e1,e2,Bool.or_false]) (by rw[h1];simpa using h2) ⟨.str ⟨#[c]⟩,H,I.tok _,⟨_,rfl⟩,q⟩) hs
theorem vY(its:List Value)(n j:Nat)(u:Value):Obj.mapSeq (·.setIfInBounds j u) {cls:=.type "list",data:=.seq its.toArray n}={cls:=.type "list",data:=.seq (its.set j u).toArray n}:=by
 simp[Obj.mapSeq]
theorem Inv.lst{pins:List (Addr×Obj)}{σ:St}{H:Hp}{s:Shared}{p:Addr}{xs:List V}(I:Inv X pins σ H s)(h:H p=some (.lst xs)) :
  ∃(its:List Value) (n:Nat),Vals xs its/\s.heap.get? p=some {cls:=.type "list",data:=.seq its.toArray n}/\xs.length<=sizeLine:=by
 obtain⟨z,its,n,r,e⟩:=I.hok p _ h
 exact⟨its,n,r,e,z⟩
theorem Inv.E1{pins:List (Addr×Obj)}{σ:St}{H:Hp}{s:Shared}{p:Addr}{xs ys:List V}{its its':List Value}{n n':Nat}{f:Obj->Obj}(I:Inv X pins σ H s)(h:H p=some (.lst xs))
  (ho:s.heap.get? p=some {cls:=.type "list",data:=.seq its.toArray n}) (hf:f {cls:=.type "list",data:=.seq its.toArray n}={cls:=.type "list",data:=.seq its'.toArray n'}) (r:Vals ys its') (hz:ys.length<=sizeLine) (t:Nat) :
  Inv X pins σ (upd H p (.lst ys)) {s with heap:=s.heap.update p f,toks:=t}:=by
 have e:(s.heap.update p f).get? p=some {cls:=.type "list",data:=.seq its'.toArray n'}:=by
  rw[Heap.get?_update_self f ho (by rw[hf]<;>rfl),hf]
 refine I.write (x:=p) (e:=p) (by rw[h];trivial) (.inl rfl) (fun b u hb q=>(Heap.get?_update_other _ _ (Ne.symm hb)).trans q) ⟨_,e⟩ ?_
 exact⟨hz,its',n',r,e⟩
noncomputable def G3:V->V->V->Hp->(Hp->Prop)->Prop:=fun o i v H Q=>∃p xs k j,o=.ref p/\i=.int k/\H p=some (.lst xs)/\zU xs.length k=some j/\Q (upd H p (.lst (xs.set j v)))
theorem set_list:GC X G3:=by
 intro pins s σ H o i v ov iv u Q I ro ri rv h
 obtain⟨p,xs,k,j,rfl,rfl,hp,hj,q⟩:=h
 cases ro
 obtain⟨t,rfl⟩:=ri
 obtain⟨its,n,r,ho,hz⟩:=I.lst hp
 obtain⟨h1,h2,h3,h4⟩:=xR hj
 have hl:=r.length
 have hn:=k9
 have I':Inv X pins σ (upd H p (.lst (xs.set j v))) {s with heap:=s.heap.update p (Obj.mapSeq (·.setIfInBounds j u))} :=
  I.E1 hp ho (vY its n j u) (r.set rv j) (by rw[List.length_set];exact hz) s.toks
 by_cases h0:0<=k
 ·have hk:k.toNat=j:=by
   rw[seqIndex_of h0 h4]at h1
   exact Option.some.inj h1
  exact PySem.W.ki_setAt ho h0 (by omega) (by rw[List.size_toArray,←hl];exact h4) (by rw[hk];exact⟨_,I',q⟩)
 ·have hk:(k+(its.toArray.size:Int)).toNat=j:=by
   rw[seqIndex_neg (by omega) h3]at h1
   rw[List.size_toArray,←hl]
   exact Option.some.inj h1
  exact PySem.W.ki_setBack ho (by omega) (by rw[List.size_toArray,←hl];exact h3) (by omega) (by rw[hk];exact⟨_,I',q⟩)
theorem rZ(lo hi:Option Int)(n:Nat):(sliceBounds lo hi none n).1=((HT.fE n 0 lo:Nat):Int)/\(sliceBounds lo hi none n).2.1=((HT.fE n n hi:Nat):Int)/\(sliceBounds lo hi none n).2.2=1:=by
 refine⟨?_,?_,rfl⟩
 ·cases lo with
  |none=>simp[sliceBounds,HT.fE]
  |some i =>
   simp only[sliceBounds,HT.fE,Option.getD_none,show(1:Int)>0 by decide,if_true]
   by_cases h:i<0
   ·simp only[h,if_true]<;>omega
   ·simp only[h,if_false]<;>omega
 ·cases hi with
  |none=>simp[sliceBounds,HT.fE]
  |some i =>
   simp only[sliceBounds,HT.fE,Option.getD_none,show(1:Int)>0 by decide,if_true]
   by_cases h:i<0
   ·simp only[h,if_true]<;>omega
   ·simp only[h,if_false]<;>omega
theorem ql(its:List Value)(lo hi:Option Int):slicePick its.toArray lo hi none=((its.drop (HT.fE its.length 0 lo)).take (HT.fE its.length its.length hi-HT.fE its.length 0 lo)).toArray:=by
 obtain⟨h1,h2,h3⟩:=rZ lo hi its.toArray.size
 unfold slicePick
 rw[h1,h2,h3]
 simp only[sliceRange_one,pick_run,List.size_toArray]<;>rfl
noncomputable def IT(K:PySem.W.Frag):V->Option Int->Option Int->Hp->VK->Prop:=fun x lo hi H Q=>∃a xs,x=.ref a/\cR K H a xs/\∀p,H p=none->Q (.ref p) (upd H p (.lst (jV xs lo hi)))
theorem se:Il X (IT X.K):=by
 intro pins s σ H x v vl vu lo hi sl Q I rx hs pl pu h
 obtain⟨a,xs,rfl,hx,q⟩:=h
 cases rx
 obtain⟨its,r,ht,hz⟩:=I.list hx
 have hlen:=r.length
 refine⟨"list",_,slot_list_getitem.lookup,ht.isList.typeIs,?_⟩
 refine wpAny_getItem_list_slice ht.isList hs pl pu .none (by simp) ?_ (by rw[List.size_toArray]<;>omega)
 rw[ql,←hlen]
 refine⟨.ref s.heap.objs.size,_,I.laid (t':=s.toks) (o:=.lst (jV xs lo hi)) (fun b ob q=>Heap.get?_push_of_some _ q) (Nat.le_refl _) ?_,rfl,q _ (I.hok.fresh (Nat.le_refl _))⟩
 exact⟨Nat.le_trans (nk xs lo hi) hz,_,0,(r.drop (HT.fE xs.length 0 lo)).take (HT.fE xs.length xs.length hi-HT.fE xs.length 0 lo),Heap.get?_push_size _ rfl⟩
noncomputable def jW:V->Bool
 |.eW=>true
 |.bl _=>true
 |.int _=>true
 |.str _=>true
 |_=>false
noncomputable def Ct:V->V->Bool
 |.eW,.eW=>true
 |.bl a,.bl b=>a == b
 |.bl a,.int b=>(if a then 1 else 0) == b
 |.int a,.bl b=>a == (if b then 1 else 0)
 |.int a,.int b=>a == b
 |.str a,.str b=>a == b
 |_,_=>false
theorem E2{A:Around}{s:Shared}{y x:V}{u v:Value}(ry:RelV y u)(rx:RelV x v)(fy:jW y=true)(fx:jW x=true):SeqAt.EqAt A s u v (Ct y x):=by
 cases y with
 |eW =>
  cases ry
  cases x with
  |eW=>cases rx;exact SeqAt.EqAt.same _
  |bl b=>cases rx;exact SeqAt.EqAt.none_bool b
  |int b=>obtain⟨t,rfl⟩:=rx;exact SeqAt.EqAt.none_int b t
  |str b=>obtain⟨t,rfl⟩:=rx;exact SeqAt.EqAt.none_str b t
  |_=>exact absurd (show false=true from fx) Bool.false_ne_true
 |bl a =>
  cases ry
  cases x with
  |eW=>cases rx;exact SeqAt.EqAt.bool_none a
  |bl b=>cases rx;exact SeqAt.EqAt.bool_bool a b
  |int b=>obtain⟨t,rfl⟩:=rx;exact SeqAt.EqAt.bool_int a b t
  |str b=>obtain⟨t,rfl⟩:=rx;exact SeqAt.EqAt.bool_str a b t
  |_=>exact absurd (show false=true from fx) Bool.false_ne_true
 |int a =>
  obtain⟨t',rfl⟩:=ry
  cases x with
  |eW=>cases rx;exact SeqAt.EqAt.int_none a t'
  |bl b=>cases rx;exact SeqAt.EqAt.int_bool a t' b
  |int b=>obtain⟨t,rfl⟩:=rx;exact SeqAt.EqAt.int_int a t' b t
  |str b=>obtain⟨t,rfl⟩:=rx;exact SeqAt.EqAt.int_str a t' b t
  |_=>exact absurd (show false=true from fx) Bool.false_ne_true
 |str a =>
  obtain⟨t',rfl⟩:=ry
  cases x with
  |eW=>cases rx;exact SeqAt.EqAt.str_none a t'
  |bl b=>cases rx;exact SeqAt.EqAt.str_bool a t' b
  |int b=>obtain⟨t,rfl⟩:=rx;exact SeqAt.EqAt.str_int a t' b t
  |str b=>obtain⟨t,rfl⟩:=rx;exact SeqAt.EqAt.str_str a t' b t
  |_=>exact absurd (show false=true from fx) Bool.false_ne_true
 |_=>exact absurd (show false=true from fy) Bool.false_ne_true
noncomputable def vZ(x:V)(u:Value):Bool:=match u with
 |.none=>Ct .eW x
 |.bool b=>Ct (.bl b) x
 |.int i _=>Ct (.int i) x
 |.str z _=>Ct (.str z) x
 |_=>false
theorem An{x y:V}{u:Value}(r:RelV y u)(f:jW y=true):vZ x u=Ct y x:=by
 cases y with
 |eW=>cases r;rfl
 |bl b=>cases r;rfl
 |int i=>obtain⟨t,rfl⟩:=r;rfl
 |str z=>obtain⟨t,rfl⟩:=r;rfl
 |_=>exact absurd (show false=true from f) Bool.false_ne_true
theorem lU{x:V}:∀{xs:List V}{us:List Value},Vals xs us->xs.all jW=true->us.any (vZ x)=xs.any fun y=>Ct y x
 |_,_,.nil,_=>rfl
 |y::xs,u::us,.cons r t,f=>by
  rw[List.all_cons,Bool.and_eq_true]at f
  rw[List.any_cons,List.any_cons,An r f.1,lU t f.2]
theorem jX{A:Around}{s:Shared}{x:V}{v:Value}(rx:RelV x v)(fx:jW x=true):∀{xs:List V}{us:List Value},Vals xs us->xs.all jW=true->∀u∈us,SeqAt.EqAt A s u v (vZ x u)
 |_,_,.nil,_=>fun u hu=>by cases hu
 |y::xs,u::us,.cons r t,f=>fun u' hu=>by
  rw[List.all_cons,Bool.and_eq_true]at f
  rcases List.mem_cons.mp hu with rfl|hu
  ·rw[An r f.1];exact E2 r rx f.1 fx
  ·exact jX rx fx t f.2 u' hu
noncomputable def Gm(x:V)(xs:List V):Bool:=xs.any fun y=>Ct y x
noncomputable def IU(K:PySem.W.Frag)(neg:Bool):R2:=fun x y H Q=>∃p xs,y=.ref p/\(cR K H p xs\/bT K H p xs)/\jW x=true/\xs.all jW=true/\Q (.bl (if neg then !Gm x xs else Gm x xs)) H
theorem mW:lO X (compareOp .In) (IU X.K false):=by
 intro pins s σ H x y v u Q I rx ry h
 obtain⟨p,xs,rfl,hq,fx,fs,q⟩:=h
 cases ry
 rcases hq with hq|hq
 ·obtain⟨its,r,pl,hz⟩:=I.list hq
  refine SeqAt.in_listAt (vZ x) pl.isList (fun w hw=>jX rx fx r fs w (by simpa using hw)) ⟨.bl _,H,I,rfl,?_⟩
  rw[show its.toArray.any (vZ x)=its.any (vZ x) by simp,lU r fs]
  exact q
 ·obtain⟨its,r,pl,hz⟩:=I.tuple hq
  refine SeqAt.in_tupleAt (vZ x) pl (fun w hw=>jX rx fx r fs w (by simpa using hw)) ⟨.bl _,H,I,rfl,?_⟩
  rw[show its.toArray.any (vZ x)=its.any (vZ x) by simp,lU r fs]
  exact q
theorem sj:lO X (compareOp .NotIn) (IU X.K true):=by
 intro pins s σ H x y v u Q I rx ry h
 obtain⟨p,xs,rfl,hq,fx,fs,q⟩:=h
 cases ry
 rcases hq with hq|hq
 ·obtain⟨its,r,pl,hz⟩:=I.list hq
  refine SeqAt.notIn_listAt (vZ x) pl.isList (fun w hw=>jX rx fx r fs w (by simpa using hw)) ⟨.bl _,H,I,rfl,?_⟩
  rw[show its.toArray.any (vZ x)=its.any (vZ x) by simp,lU r fs]
  exact q
 ·obtain⟨its,r,pl,hz⟩:=I.tuple hq
  refine SeqAt.notIn_tupleAt (vZ x) pl (fun w hw=>jX rx fx r fs w (by simpa using hw)) ⟨.bl _,H,I,rfl,?_⟩
  rw[show its.toArray.any (vZ x)=its.any (vZ x) by simp,lU r fs]
  exact q
theorem bC:kL X (.builtin "len") (fun xs H Q=>∃p ys,xs=[.ref p]/\(cR X.K H p ys\/bT X.K H p ys)/\Q (.int ys.length) H):=by
 intro pins s σ H xs us Q I r h
 obtain⟨p,ys,rfl,hq,q⟩:=h
 obtain⟨u,rfl,rx⟩:=vals1 r
 cases rx
 have hn:=k9
 rcases hq with hq|hq
 ·obtain⟨its,r',pl,hz⟩:=I.list hq
  have hlen:=r'.length
  exact Calls.call_len_list pl.isList (by simp only[List.size_toArray]<;>omega) ⟨.int ys.length,H,I.tok _,⟨s.toks+1,by rw[List.size_toArray,hlen]⟩,q⟩
 ·obtain⟨its,r',pl,hz⟩:=I.tuple hq
  have hlen:=r'.length
  exact len_tuple pl (by simp only[List.size_toArray]<;>omega) ⟨.int ys.length,H,I.tok _,⟨s.toks+1,by rw[List.size_toArray,hlen]⟩,q⟩
theorem lV:kL X (.builtin "len") (fun xs H Q=>∃z,xs=[.str z]/\z.length<=sizeLine/\Q (.int z.length) H):=by
 intro pins s σ H xs us Q I r h
 obtain⟨z,rfl,hz,q⟩:=h
 obtain⟨u,rfl,t,rfl⟩:=vals1 r
 have hn:=k9
 exact len_str (by omega) ⟨.int z.length,H,I.tok _,⟨_,rfl⟩,q⟩
theorem bH:kL X (.type "tuple") (fun xs H Q=>∃p ys,xs=[.ref p]/\((cR X.K H p ys/\∀l,H l=none->Q (.ref l) (upd H l (.tup ys)))\/(bT X.K H p ys/\Q (.ref p) H))):=by
 intro pins s σ H xs us Q I r h
 obtain⟨p,ys,rfl,h⟩:=h
 obtain⟨u,rfl,rx⟩:=vals1 r
 cases rx
 rcases h with⟨hq,q⟩|⟨hq,q⟩
 ·obtain⟨its,r',pl,hz⟩:=I.list hq
  have hlen:=r'.length
  refine call_tuple_list pl.isList (fun h' kp=>?_) (by simp only[List.size_toArray]<;>omega)
  have I1:Inv X pins σ H {s with heap:=h'}:=I.kept (t':=s.toks) kp
  have I2:Inv X pins σ (upd H h'.objs.size (.tup ys)) {s with heap:=h'.push {cls:=.type "tuple",data:=.seq its.toArray}} :=
   I1.laid (t':=s.toks) (fun b o e=>Heap.get?_push_of_some _ e) (Nat.le_refl _) (show di X.prog X.w _ _ _ (.tup ys)from⟨hz,its,r',IsTup.new _ _,_,Heap.get?_push_size _ rfl,rfl⟩)
  exact⟨.ref h'.objs.size,_,I2,rfl,q _ (I1.hok.fresh (Nat.le_refl _))⟩
 ·obtain⟨its,r',pl,hz⟩:=I.tuple hq
  exact call_tuple_same pl ⟨.ref p,H,I,rfl,q⟩
noncomputable def Im(K:PySem.W.Frag)(T:String)(x:V)(H:Hp):Prop:=match x with
 |.str _=>T="str"
 |.int _=>T="int"
 |.ref p=>(T="list"/\∃xs,cR K H p xs)\/(T="tuple"/\∃o,K.lookup p=some o/\o.cls=.type "tuple"/\o.dict=none) \/
   (T="dict"/\((∃kvs,H p=some (.dK kvs))\/∃kvs,H p=some (.dT kvs)))\/(T="set"/\∃S n,H p=some (.set S n))
 |_=>False
theorem Ao{pins:List (Addr×Obj)}{σ:St}{H:Hp}{s:Shared}{T:String}{x:V}{v:Value}(I:Inv X pins σ H s)(r:RelV x v)(ty:Im X.K T x H) :
  s.TypeIs v T/\∀a,v=.ref a->∃ob,s.heap.get? a=some ob/\ob.dict=none:=by
 cases x with
 |str z =>
  obtain⟨t,rfl⟩:=r
  cases(show T="str" from ty)
  exact⟨typeIs_str s z t,fun _ e=>nomatch e⟩
 |int i =>
  obtain⟨t,rfl⟩:=r
  cases(show T="int" from ty)
  exact⟨typeIs_int s i t,fun _ e=>nomatch e⟩
 |ref p =>
  cases r
  rcases ty with⟨rfl,xs,hq⟩|⟨rfl,o,hk,hc,hd⟩|⟨rfl,hk⟩|⟨rfl,S,n,hk⟩
  ·obtain⟨its,_,pl,_⟩:=I.list hq
   refine⟨pl.isList.typeIs,fun a e=>?_⟩
   cases e
   obtain⟨o,n,e,c,hd,_⟩:=pl
   exact⟨o,e,hd⟩
  ·refine⟨⟨o,I.tV p o hk,hc⟩,fun a e=>?_⟩
   cases e
   exact⟨o,I.tV _ o hk,hd⟩
  ·have z:∃o,s.heap.get? p=some o/\o.ExactDict:=by
    rcases hk with⟨kvs,hk⟩|⟨kvs,hk⟩
    ·obtain⟨_,_,_,_,o,_,_,e,ex,_⟩:=I.hok p _ hk
     exact⟨o,e,ex⟩
    ·obtain⟨_,_,_,_,o,_,_,e,ex,_⟩:=I.hok p _ hk
     exact⟨o,e,ex⟩
   obtain⟨o,e,ex⟩:=z
   refine⟨⟨o,e,ex.1⟩,fun a e2=>?_⟩
   cases e2
   exact⟨o,e,ex.2.1⟩
  ·obtain⟨o,_,_,_,e,ex,_⟩:=I.hok p _ hk
   refine⟨⟨o,e,ex.1⟩,fun a e2=>?_⟩
   cases e2
   exact⟨o,e,ex.2.1⟩
 |_=>exact False.elim ty
noncomputable def G4(K:PySem.W.Frag)(T:String)(r:V->List V->Hp->VK->Prop)(to:TE):TE:=fun σ H Q=>to σ H fun x H1=>Im K T x H1/\r x [] H1 Q
noncomputable def JC(K:PySem.W.Frag)(T:String)(r:V->List V->Hp->VK->Prop)(to:TE)(t:TA):TE:=fun σ H Q=>to σ H fun x H1=>Im K T x H1/\t σ H1 fun xs H2=>r x xs H2 Q
variable {o e:Expr}{es:List Expr}{to:TE}{t:TA}{name:Str}{apos cpos:Pos}{T id:String}{r:V->List V->Hp->VK->Prop}
theorem Aq(pa:PlainAttrs T)(slot:Slot T name id)(hty:typeOf (.builtin id)=pure (.type "method_descriptor"))(hm:G0 X id r)(ho:PE X o to)
  (hbase:attributeBase o name X.env (eval o X.env)=eval o X.env:=by rfl) (hline:(apos.endLine == cpos.line)=true:=by rfl):PE X (.Call (.Attribute o name apos) [] [] cpos) (G4 X.K T r to):=by
 intro pins s σ H Q I h
 refine wpAny_Call_method0_late hbase hline (bP (ho pins s σ H _ I h) fun v s1 ⟨x,H1,I1,r1,ty,q1⟩=>?_)
 obtain⟨h1,h2⟩:=Ao I1 r1 ty
 exact⟨T,id,pa,slot,hty,h1,h2,Calls.callWith_builtin rfl (PySem.evalArgs_none (hm pins s1 σ H1 x [] v [] Q I1 r1 .nil q1))⟩
theorem Eb(pa:PlainAttrs T)(slot:Slot T name id)(hty:typeOf (.builtin id)=pure (.type "method_descriptor"))(hm:G0 X id r)(ho:PE X o to)(ha:PA X (e::es) t)
  (hbase:attributeBase o name X.env (eval o X.env)=eval o X.env:=by rfl)
  (hfew:((backTo cpos (starEach (e::es) X.env)).all (fun x=>!x.1)&&(backToKw cpos (keywordEach [] X.env)).all (fun x=>x.1.isSome)
   && decide ((e::es).length+([]:List Keyword).length+(if([]:List Keyword).isEmpty then 0 else 1)<30))=true:=by rfl)
  (hline:(apos.endLine == cpos.line)=true:=by rfl) (hs:starEach (e::es) X.env=(false,eval e X.env)::starEach es X.env:=by rfl) (hplain:(backTo cpos (starEach es X.env)).any (·.1)=false:=by rfl) :
  PE X (.Call (.Attribute o name apos) (e::es) [] cpos) (JC X.K T r to t):=by
 intro pins s σ H Q I h
 refine wpAny_Call_method_late hbase hfew hline rfl (bP (ho pins s σ H _ I h) fun v s1 ⟨x,H1,I1,r1,ty,q1⟩=>?_)
 obtain⟨h1,h2⟩:=Ao I1 r1 ty
 refine⟨T,id,pa,slot,hty,h1,h2,?_⟩
 have hA:=ha cpos pins s1 σ H1 _ I1 q1
 rw[hs]at hA⊢
 refine Calls.callWith_builtin (by show(false||(backTo cpos (starEach es X.env)).any (·.1))=false;rw[hplain]<;>rfl) (Calls.evalArgs_plain ?_)
 exact bP hA fun us s2 ⟨vs,H2,I2,r2,q2⟩=>hm pins s2 σ H2 x vs v us Q I2 r1 r2 q2
/- xs.append(e),list.index on a module's tuple .. are G0 facts of 06m -/
end
noncomputable def Jq(X:Cx)(id:String)(r:V->List V->Hp->VK->Prop):Prop :=
 ∀(pins:List (Addr×Obj)) (s:Shared) (σ:St) (H:Hp) (x:V) (xs:List V) (v:Value) (us:List Value) (Q:VK),Inv X pins σ H s->RelV x v->Vals xs us->r x xs H Q ->
  wpAny (model X.prog X.w) X.A (call (.builtin id) (v::us)) (EP X pins σ Q) X.xe s
theorem Vals.one:∀{x:V}{us:List Value},Vals [x] us->∃u,us=[u]/\RelV x u
 |_,_,.cons r .nil=>⟨_,rfl,r⟩
theorem Vals.zero:∀{us:List Value},Vals [] us->us=[]
 |_,.nil=>rfl
theorem Vals.dropLast{xs:List V}{us:List Value}(h:Vals xs us):Vals xs.dropLast us.dropLast:=by
 induction h with
 |nil=>exact .nil
 |cons r t ih =>
  cases t with
  |nil=>exact .nil
  |cons q t'=>exact .cons r ih
theorem wc{α:Type}(l:List α):l.eraseIdx (l.length-1)=l.dropLast:=by
 induction l with
 |nil=>rfl
 |cons a r ih =>
  cases r with
  |nil=>rfl
  |cons b r =>
   have e:(a::b::r).length-1=((b::r).length-1)+1:=by
    have h1:(a::b::r).length=r.length+2:=rfl
    have h2:(b::r).length=r.length+1:=rfl
    omega
   rw[e,List.eraseIdx_cons_succ,ih]
   all_goals rfl
section
variable {X:Cx}{pins:List (Addr×Obj)}{σ:St}{H:Hp}{s:Shared}{l b:Addr}{xs ys zs:List V}
theorem Inv.G5{its its':List Value}{n:Nat}{f:Array Value->Array Value}{t':Nat}(I:Inv X pins σ H s)(hH:H l=some (.lst xs))
  (e:s.heap.get? l=some {cls:=.type "list",data:=.seq its.toArray n}) (hf:f its.toArray=its'.toArray) (hv:Vals ys its') (hz:ys.length<=sizeLine) :
  Inv X pins σ (upd H l (.lst ys)) {s with heap:=s.heap.update l (Obj.mapSeq f),toks:=t'}:=by
 have q:=PySem.IsL.update e f
 rw[hf]at q
 refine I.write (x:=l) (e:=l) (by rw[hH];exact trivial) (.inl rfl) (fun b' u hb hu=>(Heap.get?_update_other s.heap (Obj.mapSeq f) (Ne.symm hb)).trans hu) ⟨_,q⟩ ?_
 exact⟨hz,its',_,hv,q⟩
theorem Inv.IV{its:List Value}{t':Nat}(I:Inv X pins σ H s)(hv:Vals ys its)(hz:ys.length<=sizeLine) :
  Inv X pins σ (upd H s.heap.objs.size (.lst ys)) {s with heap:=s.heap.push {cls:=.type "list",data:=.seq its.toArray},toks:=t'} :=
 I.laid (fun _ _ q=>Heap.get?_push_of_some _ q) (Nat.le_refl _) ⟨hz,its,0,hv,Heap.get?_push_size _ rfl⟩
theorem Inv.fresh(I:Inv X pins σ H s):H s.heap.objs.size=none:=I.hok.fresh (Nat.le_refl _)
theorem Inv.CL(I:Inv X pins σ H s)(hH:H l=some (.lst xs)):xs.length<=sizeLine/\∃(its:List Value) (n:Nat),Vals xs its/\xs.length=its.length/\s.heap.get? l=some {cls:=.type "list",data:=.seq its.toArray n}:=by
 obtain⟨z,its,n,r,e⟩:=I.hok l _ hH
 exact⟨z,its,n,r,r.length,e⟩
end
section
variable {X:Cx}
noncomputable def CM:V->List V->Hp->VK->Prop:=fun x vs H Q=>∃l xs y,x=.ref l/\vs=[y]/\H l=some (.lst xs)/\xs.length<sizeLine/\Q .eW (upd H l (.lst (xs++[y])))
theorem yW:Jq X "list.append" CM:=by
 intro pins s σ H x vs v us Q I rx rv h
 obtain⟨l,xs,y,rfl,rfl,hH,hz,q⟩:=h
 cases rx
 obtain⟨u,rfl,ru⟩:=rv.one
 obtain⟨z,its,n,r,hl,e⟩:=I.CL hH
 refine call_meets F.slot_list_append ⟨_,e,rfl⟩ F.entry_list_append (F.args_list_append_2 _ _) (PySem.list_append l its.toArray n u (by rw[List.size_toArray];omega)) ⟨e,?_⟩
 refine⟨.eW,_,I.G5 (its':=its++[u]) hH e (by simp) (r.append (.cons ru .nil)) ?_,rfl,q⟩
 rw[List.length_append,List.length_singleton]
 omega
noncomputable def IW:V->List V->Hp->VK->Prop:=fun x vs H Q=>∃l xs y,x=.ref l/\vs=[]/\H l=some (.lst xs)/\xs[xs.length-1]?=some y/\Q y (upd H l (.lst xs.dropLast))
theorem Ar:Jq X "list.pop" IW:=by
 intro pins s σ H x vs v us Q I rx rv h
 obtain⟨l,xs,y,rfl,rfl,hH,hy,q⟩:=h
 cases rx
 have hus:=rv.zero
 subst hus
 obtain⟨z,its,n,r,hl,e⟩:=I.CL hH
 obtain⟨u,hu,ru⟩:=r.get hy
 have hy':its.toArray[its.toArray.size-1]?=some u:=by
  show its.toArray[its.length-1]?=some u
  rw[←Array.getElem?_toList,←hl]
  exact hu
 refine call_meets F.slot_list_pop ⟨_,e,rfl⟩ F.entry_list_pop (F.args_list_pop_1 _) (MeetsSeq.list_pop_last l its.toArray n u hy' (by rw[List.size_toArray];omega)) ⟨e,?_⟩
 refine⟨y,_,I.G5 (its':=its.dropLast) hH e ?_ r.dropLast ?_,ru,q⟩
 ·show its.toArray.eraseIdxIfInBounds (its.toArray.size-1)=its.dropLast.toArray
  rw[List.size_toArray,List.eraseIdxIfInBounds_toArray,wc]
 ·rw[List.length_dropLast]
  omega
noncomputable def G6:R2:=fun x y H Q=>∃l b xs zs,x=.ref l/\y=.ref b/\H l=some (.lst xs)/\H b=some (.lst zs)/\xs.length+zs.length<=sizeLine/\∀p,H p=none->Q (.ref p) (upd H p (.lst (xs++zs)))
theorem As:lO X (binaryOp .Add) G6:=by
 intro pins s σ H x y v u Q I rx ry h
 obtain⟨l,b,xs,zs,rfl,rfl,hH,hB,hz,q⟩:=h
 cases rx
 cases ry
 obtain⟨z,its,n,r,hl,e⟩:=I.CL hH
 obtain⟨z2,its2,n2,r2,hl2,e2⟩:=I.CL hB
 refine PySem.P.add_list e e2 ?_ (by rw[List.size_toArray,List.size_toArray];omega)
 have ea:its.toArray++its2.toArray=(its++its2).toArray:=by simp
 rw[ea]
 exact⟨.ref _,_,I.IV (t':=s.toks) (r.append r2) (by rw[List.length_append];omega),rfl,q _ I.fresh⟩
end
section
variable {prog:Program}{w:World}{A:Around}{E:Value->Shared->Prop}{s:Shared}
end
section
variable {X:Cx}
end
end L2
namespace Att
open PySem PySem.W PySem.Calls PyProof.Rows
theorem nN{P:Params}{h:Heap}:∀(ns:List Int) (vs:List Value),WellAll P h vs (ns.map WData.int)->IntsAre vs ns:=by
 intro ns
 induction ns with
 |nil =>
  intro vs w
  rw[List.map_nil]at w
  cases w
  exact .nil
 |cons n ns ih =>
  intro vs w
  rw[List.map_cons]at w
  cases w with
  |cons a b =>
   cases a
   exact .cons _ _ (ih _ b)
theorem yX{l:OpenLaw}{n:Nat}(hn:l.most=some n){P:Params}{h:Heap}{args:List WData}{vals:List Value}
  (hpre:l.row.toRowW.claim.pre args=true) (hwl:WellAll P h vals args) :
  ∃a vs ns,vals=[Value.ref a]/\args=[WData.list (ns.map WData.int)]/\h.get? a=some {cls:=.type "list",data:=.seq vs.toArray}/\IntsAre vs ns/\ns.length<=n:=by
 have hsh:WShape.hasAll [] args [.list .int]=true:=(pre_splitW hpre).1
 have hc:l.pre.holds [] {args:=args}=true:=(pre_splitW hpre).2
 obtain⟨d,r,rfl,h1,h2⟩:=hasAllW_cons hsh
 obtain rfl:=hasAllW_nil h2
 obtain⟨xs,rfl,h3⟩:=hasW_list h1
 obtain⟨ns,rfl⟩:=items_int h3
 have hlen:ns.length<=n:=by
  unfold OpenLaw.pre at hc
  have h4:(WTm.not (.lt (.lit (.int (n:Int))) (.len (.arg 0)))).holds [] {args:=[.list (ns.map .int)]}=true:=by
   have h4:=(holds_andW hc).1
   rw[hn]at h4
   exact h4
  have h5:=condW_of h4 (w_not (w_lt w_lit (w_len_list (w_arg rfl))))
  rw[List.length_map]at h5
  refine Nat.le_of_not_lt fun q=>?_
  have q':(n:Int)<((ns.length:Nat):Int):=by omega
  first
   |(rw[decide_eq_true q']at h5;exact absurd h5 (by decide))
   |(simp at h5;omega)
 cases hwl with
 |cons w1 w2 =>
  cases w2
  cases w1 with
  |list ho hall=>exact⟨_,_,ns,rfl,rfl,ho,nN ns _ hall,hlen⟩
theorem yY(l:OpenLaw)(args:List WData):l.row.toRowW.claim.post args (.bool true) args=true :=
 postW_of (r:=l.row.toRowW) (X:=(true == true))
  (show WShape.has [] (.bool true) .bool=true by first|rfl|decide|simp[WShape.has,WShape.arms,WShape.armsAll])
  (show(WTm.eq .res (.lit (.bool true))).value [] {args:=args,res:=some (.bool true),after:=args}=some (.bool (true == true))from w_eq_bool (w_res rfl) w_lit) rfl
theorem uv{l:OpenLaw}{n:Nat}{q:Program}{loose:List Str}{XP:(Str->Option Value)->Heap->Prop}{YP:World->Heap->Prop}{d:DefRec}
  (hn:l.most=some n) (hdf:d.params.defaults=[])
  (call:∀(w:World) (s₀ s₁:Shared) (mg mb:Str->Option Value) (fa:Addr) (o:Obj) (pm cd doc:Value) (a:Addr) (vs:List Value) (ns:List Int),
   Ground q loose [] XP w s₀ mg mb s₁.heap->YP w s₁.heap ->
   s₁.heap.get? fa=some o->o.data=.func (docDef d.name d.params d.body d.scope pm cd doc)->s₁.heap.CodeRec cd d.name->mg d.name=some (.ref fa) ->
   s₁.heap.get? a=some {cls:=.type "list",data:=.seq vs.toArray}->IntsAre vs ns->ns.length<=n->s₁.gens=#[] ->
   codeAny (model l.prog w) callerA (.call (.ref fa) ⟨[.ref a],[]⟩) (fun r s'=>r=.ok (.ret (.bool true))/\OldK s₁.heap s'.heap/\s'.os=s₁.os/\AllBare s'.gens) s₁) :
  WalkO q loose XP YP l.row.toRowW d [] (fun f vs=>PySem.call f vs):=by
 intro w s₀ s₁ mg mb G Y fa o pm cd doc dV kV ho hd hcd hD hmg hg args vals as hpre hlay hrd hwl hlo
 obtain rfl:dV=.none:=Dflts.none hD hdf
 obtain rfl:kV=.none:=Dflts.noKw hD
 obtain⟨a,vs,ns,rfl,rfl,hobj,hints,hlen⟩:=yX hn hpre hwl
 refine enter_call (codeAny_mono (call w s₀ s₁ mg mb fa o pm cd doc a vs ns G Y ho (fd_plain hd) hcd hmg hobj hints hlen hg) fun r s' hq=>?_)
 obtain⟨rfl,h2,h3,h4⟩:=hq
 exact⟨.inl ⟨.bool true,.bool true,[],rfl,fun _=>rfl,.bool true,yY l _,fun _=>⟨List.Pairwise.nil,fun _ hm=>(nomatch hm)⟩⟩,h2,h3,h4⟩
section
variable {prog:Program}{w:World}{A:Around}{E:Value->Shared->Prop}{s:Shared}{K:Frag}
end
end Att
namespace L2
open PySem PySem.Spec PyProof.Rows
theorem qG:∀{vs:List Value}{ns:List Int},IntsAre vs ns->Vals (ns.map V.int) vs
 |_,_,.nil=>.nil
 |_,_,.cons n t h=>.cons ⟨t,rfl⟩ (qG h)
noncomputable def E4(H:Hp):Prop:=∀b,H b=none\/∃o xs,H b=some (.frz o (.lst xs))
theorem Au{P:Program}{w:World}{K:PySem.W.Frag}{mg mb:Str->Option Value}{CX:zT}{k:Nat}{fa a:Addr}{fd:FuncData}{x:Str}{sp:Sp}{s₁:Shared}{vs:List Value}{ns:List Int}
  (KX:K.In s₁.heap) (hns:s₁.heap.Ns mainGlobals mg) (hb:s₁.heap.Ns builtinsNs mb) (hbb:∀x:Str,x≠"__name__"->mb x=bootBuiltins x) (hlim:s₁.heap.NoLimit) (hg:s₁.gens=#[])
  (ha:s₁.heap.get? a=some {cls:=.type "list",data:=.seq vs.toArray}) (hi:IntsAre vs ns) (hl:ns.length<=sizeLine) (hr:cT k callerA)
  (F:∀base:Heap,K.In base->base.Ns mainGlobals mg->bF P w K mg base CX k fa fd [x] sp) (hbind:∀(s:Shared) (u:Value),BindsTo s fd ⟨[u],[]⟩ [(x,u)])
  (hsp:∀H:Hp,E4 H->cR K H a (ns.map V.int)->sp [.ref a] H (fun v _=>v=.bl true) fun _ _ _=>False)
  (hCX:∀H e s',CX [] H s₁ (fun _ _ _=>False) e s'->False) :
  codeAny (model P w) callerA (.call (.ref fa) ⟨[.ref a],[]⟩) (fun r s'=>r=.ok (.ret (.bool true))/\OldK s₁.heap s'.heap/\s'.os=s₁.os/\AllBare s'.gens) s₁:=by
 have rv:=qG hi
 have lenV:=hi.length
 -- from an abstract heap in which nothing but the script may be tracked
 have core:∀H:Hp,E4 H->cR K H a (ns.map V.int)->kK P w H s₁.heap->(∀b,H b≠none->b=a)->(H a≠none->K.lookup a=none) ->
   codeAny (model P w) callerA (.call (.ref fa) ⟨[.ref a],[]⟩) (fun r s'=>r=.ok (.ret (.bool true))/\OldK s₁.heap s'.heap/\s'.os=s₁.os/\AllBare s'.gens) s₁:=by
  intro H hO hS hok hA hK
  have base_of:∀{b:Addr}{o:Obj},s₁.heap.get? b=some o->H b=none->(rO s₁.heap H).get? b=some o:=fun e n=>zW e n
  have noA:∀{b:Addr}{o:Obj}{es:Array DictEntry}{ep:Nat},s₁.heap.get? b=some o->o.data=.dict es ep->H b=none:=fun{b o es ep} e d=>by
   cases q:H b with
   |none=>rfl
   |some u =>
    have e':b=a:=hA b (by rw[q];simp)
    subst e'
    rw[ha]at e;cases e
    have d':Data.seq vs.toArray _=Data.dict es ep:=d
    cases d'
  have nsK:∀{b:Addr}{m:Str->Option Value},s₁.heap.Ns b m->(rO s₁.heap H).Ns b m:=fun{b m} ⟨o,es,ep,e,d,r⟩=>⟨o,es,ep,base_of e (noA e d),d,r⟩
  have hKb:K.In (rO s₁.heap H):=fun b o e=>base_of (KX b o e) (by
   cases q:H b with
   |none=>rfl
   |some u =>
    have e':b=a:=hA b (by rw[q];simp)
    subst e'
    rw[hK (by rw[q];simp)]at e;cases e)
  have hM:Mod K mg (rO s₁.heap H):=⟨hKb,nsK hns,⟨mb,nsK hb,hbb⟩,let⟨mc,h1,h2⟩:=hlim;⟨mc,nsK h1,h2⟩⟩
  have e0:vU P w K mg (rO s₁.heap H) callerA [] s₁ H:=⟨rfl,hM,fun b o e=>CA e,Nat.le_of_eq (yJ _ _),trivial,fun b hb=>absurd (show b∈([]:List Addr)from hb) (by simp),hok,.of_eq hg⟩
  refine codeAny_mono ((F _ hKb (nsK hns)).run callerA [] s₁ H ⟨[.ref a],[]⟩ [.ref a] [.ref a] _ _ hr e0 (hbind s₁ (.ref a)) (.cons rfl .nil) (hsp H hO hS)) fun r s' h=>?_
  cases r with
  |error e=>exact(hCX H e s' h).elim
  |ok fl =>
   cases fl with
   |next=>exact False.elim h
   |brk=>exact False.elim h
   |cont=>exact False.elim h
   |ret u =>
    obtain⟨v,H',os,bare,un,hok',r',q⟩:=h
    have q':v=.bl true:=q
    subst q'
    obtain rfl:u=Value.bool true:=r'
    refine⟨rfl,OldK.of_keep fun b o e=>?_,os,bare⟩
    cases q:H b with
    |none=>exact un.keep b o e q (by intro z;exact absurd (show b∈([]:List Addr)from z) (by simp)) (by simp)
    |some u =>
     rcases hO b with z|⟨ob,xs,z⟩
     ·rw[q]at z;cases z
     ·have z2:=un.frzs b ob _ z
      obtain⟨e1,_⟩:=hok b _ z
      obtain⟨e2,_⟩:=hok' b _ z2
      rw[e]at e1;cases e1
      exact e2
 cases hk:K.lookup a with
 |some o =>
  -- the script is one of the module's own objects
  have e:=KX a o hk
  rw[ha]at e
  cases e
  refine core (fun _=>none) (fun _=>.inl rfl) (.inr ⟨_,vs.toArray,_,hk,rfl,rfl,rfl,by rw[List.size_toArray,lenV];exact hl,by simpa using rv⟩) (fun b u z=>by have z':(none:Option HO)=some u:=z;cases z') (fun b z=>absurd rfl z) fun z=>absurd rfl z
 |none =>
  refine core (fun b=>if b=a then some (.frz {cls:=.type "list",data:=.seq vs.toArray} (.lst (ns.map V.int)))else none) (fun b=>?_) (.inl (.inr ⟨{cls:=.type "list",data:=.seq vs.toArray},if_pos rfl⟩)) (fun b u z=>?_) (fun b z=>?_) fun _=>hk
  ·by_cases hb:b=a
   ·exact .inr ⟨_,_,if_pos hb⟩
   ·exact .inl (if_neg hb)
  ·by_cases hb:b=a
   ·have z':=(if_pos hb).symm.trans z
    cases z'
    subst hb
    exact⟨ha,by rw[List.length_map];exact hl,vs,_,rv,ha⟩
   ·have z':=(if_neg hb).symm.trans z
    cases z'
  ·by_cases hb:b=a
   ·exact hb
   ·exact absurd (if_neg hb) z
theorem CN{l:PySem.W.OpenLaw}{n k:Nat}{q:Program}{loose:List Str}{XP:(Str->Option Value)->Heap->Prop}{YP:World->Heap->Prop}{d:DefRec}{K:Params->PySem.W.Frag}{CX:World->zT}{sp:World->Sp}{x:Str}
  (hn:l.most=some n) (hn2:n<=sizeLine) (hdf:d.params.defaults=[]) (hr:cT k callerA)
  (hY:∀(w:World) (h:Heap),YP w h->(K w.params).In h)
  (F:∀(w:World) (mg:Str->Option Value) (fa:Addr) (h:Heap),(K w.params).In h->h.Ns mainGlobals mg->mg d.name=some (.ref fa) ->
   ∃fd:FuncData,(∀(s:Shared) (u:Value),BindsTo s fd ⟨[u],[]⟩ [(x,u)]) /\
    ∀base:Heap,(K w.params).In base->base.Ns mainGlobals mg->bF l.prog w (K w.params) mg base (CX w) k fa fd [x] (sp w))
  (hsp:∀(w:World) (H:Hp) (a:Addr) (ns:List Int),ns.length<=n->E4 H->cR (K w.params) H a (ns.map V.int)->sp w [.ref a] H (fun v _=>v=.bl true) fun _ _ _=>False)
  (hCX:∀(w:World) (H:Hp) (s:Shared) (e:Value) (s':Shared),CX w [] H s (fun _ _ _=>False) e s'->False) :
  PySem.W.WalkO q loose XP YP l.row.toRowW d [] (fun f vs=>PySem.call f vs):=by
 refine Att.uv hn hdf fun w s₀ s₁ mg mb fa o pm cd doc a vs ns G Y ho hd hcd hmg hobj hints hlen hg=>?_
 have KX:=hY w _ Y
 obtain⟨fd,hb,hF⟩:=F w mg fa _ KX G.T.g hmg
 exact Au KX G.T.g G.T.b G.T.builtins G.T.nolimit hg hobj hints (Nat.le_trans hlen hn2) hr hF hb (fun H hO hS=>hsp w H a ns hlen hO hS) fun H e s'=>hCX w H s₁ e s'
noncomputable def ko(s:Stmt):Arguments:=match s with
 |.FunctionDef _ a _ _ _ _ _ _ _ _=>a
 |_=>{posonlyargs:=[],args:=[],vararg:=none,kwonlyargs:=[],kw_defaults:=[],kwarg:=none,defaults:=[]}
noncomputable def bz(s:Stmt):List Stmt:=match s with
 |.FunctionDef _ _ b _ _ _ _ _ _ _=>b
 |_=>[]
noncomputable def af(s:Stmt):Scope:=match s with
 |.FunctionDef _ _ _ _ _ _ sc _ _ _=>sc
 |_=>{kind:=.function,names:=[],isGenerator:=false,isCoroutine:=false}
noncomputable abbrev dX:zT:=fun _ _ _ _ _ _=>False
noncomputable abbrev E0:XK:=fun _ _ _=>False
theorem iP{X:Cx}:Passes dX X E0:=fun _ _ _ _ _ _ _ h=>h.elim
structure gJ(K:PySem.W.Frag) (x qual:Str) (st:Stmt) (f:Addr) (fd:FuncData):Prop where
 ex:∃(oc:Value) (od:Option Addr) (kV doc pm:Value) (an:Option Addr) (cdv ct:Value) (osl:Array (Option Value)),
  fd=PySem.W.fnOf x qual (ko st) (bz st) (af st) .none kV doc pm an cdv ct/\K.lookup f=some ⟨oc,od,.func fd,osl⟩/\PySem.W.codeIn K cdv qual=true
 kp:PySem.W.keepIn K (.ref f)=true
section
variable {P:Program}{w:World}{K:PySem.W.Frag}{mg:Str->Option Value}{base:Heap}
theorem gJ.ok{x qual:Str}{st:Stmt}{f:Addr}{fd:FuncData}{N ps:List Str}{k:Nat}{sp:Sp}(F:gJ K x qual st f fd)(S:aM N ps (af st))(len:∀vs H Q E,sp vs H Q E->vs.length=ps.length)
  (hbody:∀(cdv:Value) (A:Around) (outer:List Env) (s:Shared) (H:Hp) (vs:List V) (Q:VK) (E:XK),cT k (A.deeper (envOfC qual (af st) s.heap.objs.size f cdv))->sp vs H Q E ->
   ∃t,vH (ji dX P w K mg base N qual (af st) f cdv A outer s H E).tX (bz st) t/\t {nx:=fun _ H'=>Q .eW H',rt:=Q} (start N vs) H):bF P w K mg base dX (k+1) f fd ps sp:=by
 obtain⟨oc,od,kV,doc,pm,an,cdv,ct,osl,rfl,lk,hcd⟩:=F.ex
 refine GW lk hcd S len fun A outer s H vs Q E hr hsp=>?_
 obtain⟨t,h,q⟩:=hbody cdv A outer s H vs Q E hr hsp
 exact⟨t,h.tX,q⟩
theorem gJ.binds{x qual:Str}{st:Stmt}{f:Addr}{fd:FuncData}{ps:List Str}(F:gJ K x qual st f fd)
  (h:∀(kV doc pm:Value) (an:Option Addr) (cdv ct:Value) (us:List Value),us.length=ps.length->bindArgs (PySem.W.fnOf x qual (ko st) (bz st) (af st) .none kV doc pm an cdv ct) ⟨us,[]⟩=pure (ps.zip us)):Binds K fd ps []:=by
 obtain⟨oc,od,kV,doc,pm,an,cdv,ct,osl,rfl,lk,hcd⟩:=F.ex
 exact .all (h kV doc pm an cdv ct)
end
theorem lX{A:Around}{k:Nat}(hr:cT k A):A.units+1<cLine:=Nat.lt_of_le_of_lt (Nat.add_le_add_left (by decide:1<=64) _) hr.units
theorem bu{n:Nat}(h:n<=1000):n<sizeLine:=Nat.lt_of_le_of_lt h (by decide)
section
variable {X:Cx}
theorem pv(i:Nat){x:Str}{pos:Pos}(hN:X.N[i]?=some x:=by rfl)(hv:Ij X.env.scope x:=by first|exact Or.inl rfl|exact Or.inr (Or.inl rfl)|exact Or.inr (Or.inr rfl))(hd:(x == ("__debug__":Str))=false:=by decide)
  (hcd:(x == ("__classdict__":Str))=false:=by decide):PE X (.Name x pos) (iu i):=zX hN hv hd hcd
end
theorem bX{c A B:Prop}[Decidable c](h1:c->A)(h2:¬c->B):if c then A else B:=by
 by_cases h:c
 ·rw[if_pos h]
  exact h1 h
 ·rw[if_neg h]
  exact h2 h
noncomputable def br(H H':Hp):Prop:=∀b o,H b=some o->H' b=some o
theorem br.refl(H:Hp):br H H:=fun _ _ h=>h
theorem br.trans{H H1 H2:Hp}(a:br H H1)(b:br H1 H2):br H H2:=fun c o h=>b c o (a c o h)
theorem br.free{H H':Hp}(e:br H H'){l:Addr}(h:H' l=Option.none):H l=Option.none:=by
 cases q:H l with
 |none=>rfl
 |some o =>
  rw[e l o q]at h
  cases h
theorem br.seq{K:PySem.W.Frag}{H H':Hp}{a:Addr}{xs:List V}(e:br H H')(h:cR K H a xs):cR K H' a xs:=by
 rcases h with(h|⟨o,h⟩)|h
 ·exact .inl (.inl (e _ _ h))
 ·exact .inl (.inr ⟨o,e _ _ h⟩)
 ·exact .inr h
section
variable {κ:Type} [DecidableEq κ]
noncomputable def dY(kvs:List (κ×V))(k:κ):Option V:=(kvs.find? fun kv=>decide (kv.1=k)).map (·.2)
noncomputable def putK(kvs:List (κ×V))(k:κ)(v:V):List (κ×V) :=
 if(kvs.any fun kv=>decide (kv.1=k))=true then kvs.map (fun kv=>if kv.1=k then(kv.1,v)else kv)else kvs++[(k,v)]
theorem dZ{p:κ×V}{r:List (κ×V)}{k:κ}(e:p.1=k):dY (p::r) k=some p.2:=by simp[dY,List.find?_cons,e]
theorem d8{p:κ×V}{r:List (κ×V)}{k:κ}(e:¬p.1=k):dY (p::r) k=dY r k:=by simp[dY,List.find?_cons,e]
theorem lY(k:κ):∀kvs:List (κ×V),(kvs.any fun kv=>decide (kv.1=k))=(dY kvs k).isSome
 | []=>rfl
 |p::r=>by
  rw[List.any_cons]
  by_cases e:p.1=k
  ·simp only[dZ e,decide_eq_true e,Bool.true_or,Option.isSome_some]
  ·rw[d8 e,decide_eq_false e,Bool.false_or];exact lY k r
theorem uw(k j:κ)(y:V):∀kvs:List (κ×V),dY (kvs.map fun kv=>if kv.1=k then(kv.1,y)else kv) j=(dY kvs j).map fun x=>if j=k then y else x
 | []=>rfl
 |p::r=>by
  have ih:=uw k j y r
  rw[List.map_cons]
  by_cases h:p.1=k
  ·rw[if_pos h]
   by_cases e:p.1=j
   ·rw[dZ (p:=(p.1,y)) e,dZ e,Option.map_some,if_pos (e.symm.trans h)]
   ·rw[d8 (p:=(p.1,y)) e,d8 e,ih]
  ·rw[if_neg h]
   by_cases e:p.1=j
   ·rw[dZ (p:=p) e,dZ e,Option.map_some,if_neg (fun z=>h (e.trans z))]
   ·rw[d8 (p:=p) e,d8 e,ih]
theorem qH(k j:κ)(y:V):∀kvs:List (κ×V),dY kvs k=none->dY (kvs++[(k,y)]) j=if j=k then some y else dY kvs j
 | [],_=>by
  by_cases e:k=j
  ·rw[if_pos e.symm];exact dZ (p:=(k,y)) e
  ·rw[if_neg (fun z=>e z.symm)];exact d8 (p:=(k,y)) e
 |p::r,hn=>by
  rw[List.cons_append]
  have hk:¬p.1=k:=fun z=>by rw[dZ z]at hn;cases hn
  rw[d8 hk]at hn
  have ih:=qH k j y r hn
  by_cases e:p.1=j
  ·rw[dZ e,dZ e,if_neg (fun z=>hk (e.trans z))]
  ·rw[d8 e,d8 e,ih]
theorem jY(kvs:List (κ×V))(k j:κ)(y:V):dY (putK kvs k y) j=if j=k then some y else dY kvs j:=by
 unfold putK
 by_cases a:(kvs.any fun kv=>decide (kv.1=k))=true
 ·rw[if_pos a,uw]
  rw[lY]at a
  by_cases e:j=k
  ·obtain⟨x,hx⟩:=Option.isSome_iff_exists.mp a
   rw[if_pos e,e,hx,Option.map_some,if_pos rfl]
  ·rw[if_neg e]
   cases dY kvs j with
   |none=>rfl
   |some x=>rw[Option.map_some,if_neg e]
 ·rw[if_neg a]
  refine qH k j y kvs ?_
  rw[lY]at a
  cases q:dY kvs k with
  |none=>rfl
  |some x=>rw[q]at a;exact(a rfl).elim
theorem jZ(kvs:List (κ×V))(k:κ)(v:V):(putK kvs k v).length<=kvs.length+1:=by
 unfold putK
 split
 ·rw[List.length_map];omega
 ·rw[List.length_append,List.length_cons,List.length_nil];omega
theorem iX.yZ{o:Option V}{u:Option Value}(r:iX o u):o.isSome=u.isSome:=by
 cases o with
 |none=>cases u with
  |none=>rfl
  |some _=>exact(show False from r).elim
 |some _=>cases u with
  |none=>exact(show False from r).elim
  |some _=>rfl
theorem KV.val{kvs:List (κ×V)}{vs:List (κ×Value)}(r:KV kvs vs)(k:κ):iX (dY kvs k) (valueAt vs k):=by
 unfold KV at r
 induction r with
 |nil=>exact True.intro
 |@cons p q ps qs h t ih =>
  obtain⟨h1,h2⟩:=h
  by_cases e:p.1=k
  ·have e':q.1=k:=h1.symm.trans e
   have b:valueAt (q::qs) k=some q.2:=by simp[valueAt,List.find?_cons,e']
   rw[dZ e,b];exact h2
  ·have e':¬q.1=k:=fun z=>e (h1.trans z)
   have b:valueAt (q::qs) k=valueAt qs k:=by simp[valueAt,List.find?_cons,e']
   rw[d8 e,b];exact ih
theorem KV.any{kvs:List (κ×V)}{vs:List (κ×Value)}(r:KV kvs vs)(k:κ):(kvs.any fun kv=>decide (kv.1=k))=vs.any fun kv=>decide (kv.1=k):=by
 unfold KV at r
 induction r with
 |nil=>rfl
 |cons h t ih=>rw[List.any_cons,List.any_cons,ih,h.1]
theorem KV.repl{kvs:List (κ×V)}{vs:List (κ×Value)}(r:KV kvs vs)(k:κ){y:V}{u:Value}(ry:RelV y u) :
  KV (kvs.map fun kv=>if kv.1=k then(kv.1,y)else kv) (vs.map fun kv=>if kv.1=k then(kv.1,u)else kv):=by
 unfold KV at r⊢
 induction r with
 |nil=>exact .nil
 |@cons p q ps qs h t ih =>
  rw[List.map_cons,List.map_cons]
  refine .cons ?_ ih
  obtain⟨h1,h2⟩:=h
  by_cases e:p.1=k
  ·rw[if_pos e,if_pos (h1.symm.trans e)];exact⟨h1,ry⟩
  ·rw[if_neg e,if_neg (fun z=>e (h1.trans z))];exact⟨h1,h2⟩
theorem KV.put{kvs:List (κ×V)}{vs:List (κ×Value)}(r:KV kvs vs)(k:κ){y:V}{u:Value}(ry:RelV y u):KV (putK kvs k y) (stored vs k u):=by
 unfold putK stored
 rw[r.any k]
 by_cases e:(vs.any fun kv=>decide (kv.1=k))=true
 ·rw[if_pos e,if_pos e];exact r.repl k ry
 ·rw[if_neg e,if_neg e];exact Paired.snoc r ⟨rfl,ry⟩
theorem KV.length{kvs:List (κ×V)}{vs:List (κ×Value)}(r:KV kvs vs):kvs.length=vs.length:=Paired.length r
end
theorem oU{P:Program}{w:World}{k:Key}{u:Value}(r:RelV (kV k) u):(bx P w).is k u=true:=by
 cases k with
 |inl i=>obtain⟨t,e⟩:=(show ∃t,u=Value.int i t from r);subst e;exact tZ P w i t
 |inr x=>obtain⟨t,e⟩:=(show ∃t,u=Value.str x t from r);subst e;exact ud P w x t
theorem qI{P:Program}{w:World}:∀{ks:List Key}{us:List Value},Vals (ks.map kV) us->ItemsAre (bx P w) ks us
 | [],_,r=>by rw[List.map_nil]at r;cases r;exact .nil
 |k::ks,_,r=>by
  rw[List.map_cons]at r
  cases r with
  |cons h t=>exact .cons (oU h) (qI t)
noncomputable abbrev KT(H:Hp):List (List Key×V)->List (List Key×Addr×Value)->Prop:=Paired fun p q=>p.1=q.1/\H q.2.1=some (.tup (p.1.map kV))/\RelV p.2 q.2.2
theorem KT.val{H:Hp}{kvs:List (List Key×V)}{xs:List (List Key×Addr×Value)}(r:KT H kvs xs)(k:List Key):iX (dY kvs k) ((atKey xs k).map (·.2)):=by
 induction r with
 |nil=>exact True.intro
 |@cons p q ps qs h t ih =>
  obtain⟨h1,_,h2⟩:=h
  by_cases e:p.1=k
  ·have e':q.1=k:=h1.symm.trans e
   have b:atKey (q::qs) k=some q.2:=by simp[atKey,List.find?_cons,e']
   rw[dZ e,b];exact h2
  ·have e':¬q.1=k:=fun z=>e (h1.trans z)
   have b:atKey (q::qs) k=atKey qs k:=by simp[atKey,List.find?_cons,e']
   rw[d8 e,b];exact ih
theorem KT.repl{H:Hp}{kvs:List (List Key×V)}{xs:List (List Key×Addr×Value)}(r:KT H kvs xs)(k:List Key){y:V}{u:Value}(ry:RelV y u) :
  KT H (kvs.map fun kv=>if kv.1=k then(kv.1,y)else kv) (xs.map (putAt k u)):=by
 induction r with
 |nil=>exact .nil
 |@cons p q ps qs h t ih =>
  rw[List.map_cons,List.map_cons]
  refine .cons ?_ ih
  obtain⟨h1,h2,h3⟩:=h
  unfold putAt
  by_cases e:p.1=k
  ·rw[if_pos e,if_pos (h1.symm.trans e)];exact⟨h1,h2,ry⟩
  ·rw[if_neg e,if_neg (fun z=>e (h1.trans z))];exact⟨h1,h2,h3⟩
theorem KT.put{H:Hp}{kvs:List (List Key×V)}{xs:List (List Key×Addr×Value)}(r:KT H kvs xs)(k:List Key){b:Addr}{y:V}{u:Value}(hb:H b=some (.tup (k.map kV)))(ry:RelV y u) :
  KT H (putK kvs k y) (storedH xs k b u):=by
 have e:(kvs.any fun kv=>decide (kv.1=k))=(atKey xs k).isSome:=by
  rw[lY,(r.val k).yZ,Option.isSome_map]
 unfold putK storedH
 rw[e]
 by_cases q:(atKey xs k).isSome=true
 ·rw[if_pos q,if_pos q];exact r.repl k ry
 ·rw[if_neg q,if_neg q];exact Paired.snoc r ⟨rfl,hb,ry⟩
theorem KT.keeps{H H':Hp}{kvs:List (List Key×V)}{xs:List (List Key×Addr×Value)}(r:KT H kvs xs)(ht:∀b ys,H b=some (.tup ys)->H' b=some (.tup ys)):KT H' kvs xs :=
 Paired.EB r fun _ _ z=>⟨z.1,ht _ _ z.2.1,z.2.2⟩
section
variable {P:Program}{w:World}{H:Hp}{h:Heap}{a:Addr}
theorem Ec{u:HO}(ok:kK P w H h)(e:Rd H a u):di P w H h a u:=e.ok ok
theorem Av{kvs:List (Key×V)}(ok:kK P w H h)(e:Rd H a (.dK kvs)):kvs.length<=sizeLine/\(a == sysModules)=false/\∃vs,KV kvs vs/\h.DictOf (bx P w) a vs :=
 show di P w H h a (.dK kvs)from Ec ok e
theorem Ed{kvs:List (Key×V)}(ok:kK P w H h)(e:H a=some (.dK kvs)):kvs.length<=sizeLine/\(a == sysModules)=false/\∃vs,KV kvs vs/\h.DictOf (bx P w) a vs:=Av ok (.inl e)
theorem wg{ks:List Key}(ok:kK P w H h)(e:H a=some (.tup (ks.map kV))):(tupleKind (bx P w)).is h ks a:=by
 obtain⟨_,its,r,⟨o,h1,h2,n,h3⟩,_⟩:=(show di P w H h a (.tup (ks.map kV))from ok a _ e)
 exact⟨o,its.toArray,n,h1,h2,h3,by simpa using qI r⟩
theorem Aw{kvs:List (List Key×V)}(ok:kK P w H h)(e:Rd H a (.dT kvs)):kvs.length<=sizeLine/\(a == sysModules)=false /\
  ∃xs,KT H kvs xs/\h.DictOfH (tupleKind (bx P w)) a xs:=by
 obtain⟨z,y,xs,r,o,es,ep,h1,h2,h3,h4,h5⟩:=(show di P w H h a (.dT kvs)from Ec ok e)
 refine⟨z,y,xs,r,o,es,ep,h1,h2,h3,h4,fun x hx=>?_,h5⟩
 have all:∀{l:List (List Key×V)}{m:List (List Key×Addr×Value)},KT H l m->∀x∈m,(tupleKind (bx P w)).is h x.1 x.2.1:=by
  intro l m q
  induction q with
  |nil=>intro x hx;exact nomatch hx
  |@cons p q ps qs hq t ih =>
   intro x hx
   rcases List.mem_cons.mp hx with e|hx
   ·subst e
    exact wg ok (by rw[←hq.1];exact hq.2.1)
   ·exact ih x hx
 exact all r x hx
theorem G7{kvs:List (List Key×V)}(ok:kK P w H h)(e:H a=some (.dT kvs)):kvs.length<=sizeLine/\(a == sysModules)=false /\
  ∃xs,KT H kvs xs/\h.DictOfH (tupleKind (bx P w)) a xs:=Aw ok (.inl e)
end
noncomputable def gv(H:Hp)(a:Addr)(y:V)(r:Option V):Prop :=
 (∃kvs k,Rd H a (.dK kvs)/\y=kV k/\r=dY kvs k)\/∃kvs k b,Rd H a (.dT kvs)/\y=.ref b/\H b=some (.tup (k.map kV))/\r=dY kvs k
noncomputable def oV(H:Hp)(a:Addr)(y v:V)(H':Hp):Prop :=
 (∃kvs k,H a=some (.dK kvs)/\y=kV k/\kvs.length<sizeLine/\H'=upd H a (.dK (putK kvs k v))) \/
 ∃kvs k b,H a=some (.dT kvs)/\y=.ref b/\H b=some (.tup (k.map kV))/\kvs.length<sizeLine/\H'=upd H a (.dT (putK kvs k v))
theorem gv.k{H:Hp}{a:Addr}{kvs:List (Key×V)}{k:Key}(e:H a=some (.dK kvs)):gv H a (kV k) (dY kvs k):=.inl ⟨kvs,k,.inl e,rfl,rfl⟩
theorem gv.t{H:Hp}{a b:Addr}{kvs:List (List Key×V)}{k:List Key}(e:H a=some (.dT kvs))(eb:H b=some (.tup (k.map kV))):gv H a (.ref b) (dY kvs k):=.inr ⟨kvs,k,b,.inl e,rfl,eb,rfl⟩
theorem oV.k{H:Hp}{a:Addr}{kvs:List (Key×V)}{k:Key}{v:V}(e:H a=some (.dK kvs))(hl:kvs.length<sizeLine):oV H a (kV k) v (upd H a (.dK (putK kvs k v))):=.inl ⟨kvs,k,e,rfl,hl,rfl⟩
theorem oV.t{H:Hp}{a b:Addr}{kvs:List (List Key×V)}{k:List Key}{v:V}(e:H a=some (.dT kvs))(eb:H b=some (.tup (k.map kV)))(hl:kvs.length<sizeLine) :
  oV H a (.ref b) v (upd H a (.dT (putK kvs k v))):=.inr ⟨kvs,k,b,e,rfl,eb,hl,rfl⟩
section
variable {X:Cx}{pins:List (Addr×Obj)}{σ:St}{H:Hp}{s:Shared}{a:Addr}{y v:V}{u r:Value}{o:Option V}{A:Around}{E:Value->Shared->Prop}
theorem Inv.big(I:Inv X pins σ H s):sysModules<s.heap.objs.size:=by
 have h:mainGlobals<s.heap.objs.size:=(I.mod.glob.keeps I.bk).lt
 exact Nat.lt_trans (by decide) h
theorem za{Q:Value->Shared->Prop}(hu:A.units+1<cLine)(I:Inv X pins σ H s)(g:gv H a y (some v))(ry:RelV y u)(h:∀w' s',Inv X pins σ H s'->RelV v w'->Q w' s') :
  wpAny (model X.prog X.w) A (getItem (.ref a) u) Q E s:=by
 rcases g with⟨kvs,k,e,ey,l⟩|⟨kvs,k,b,e,ey,eb,l⟩
 ·subst ey
  obtain⟨z,hd,vs,rel,dd⟩:=Av I.hok e
  obtain⟨w',hw,rw'⟩:=iX.some_of (v:=v) (o:=valueAt vs k) (by rw[l];exact rel.val k)
  exact wpAny_getItem_of (oU ry) dd.mapOf hw (h w' _ (I.tok _) rw')
 ·subst ey
  cases(show u=Value.ref b from ry)
  obtain⟨z,hd,xs,rel,dd⟩:=Aw I.hok e
  obtain⟨w',hw,rw'⟩:=iX.some_of (v:=v) (o:=(atKey xs k).map (·.2)) (by rw[l];exact rel.val k)
  obtain⟨p,hp,hp2⟩:=Option.map_eq_some_iff.mp hw
  refine wpAny_getItem_heap (tupleKind_room_in1 hu) (wg I.hok eb) dd hp ?_
  rw[hp2]
  exact h w' _ (I.tok _) rw'
theorem sr{h':Heap}{t':Nat}{ob:HO}(I:Inv X pins σ H s)(mu:Gy (H a))(hs:Heap.SameBut a s.heap h')(he:∃q,h'.get? a=some q)(new:di X.prog X.w (upd H a ob) h' a ob) :
  Inv X pins σ (upd H a ob) {s with heap:=h',toks:=t'} :=
 I.write (x:=a) (e:=a) mu (.inl rfl) (fun b q hb z=>(hs.2 b hb).trans z) he new
theorem wj{P:Program}{w:World}{H':Hp}{h':Heap}{kvs:List (Key×V)}{vs:List (Key×Value)}(z:kvs.length<=sizeLine)(hd:(a == sysModules)=false)(rel:KV kvs vs)(dd:h'.DictOf (bx P w) a vs) :
  di P w H' h' a (.dK kvs):=⟨z,hd,vs,rel,dd⟩
theorem zb{H':Hp}{Q:Unit->Shared->Prop}(hu:A.units+1<cLine)(I:Inv X pins σ H s)(g:oV H a y v H')(ry:RelV y u)(rv:RelV v r)(h:∀s',Inv X pins σ H' s'->Q () s') :
  wpAny (model X.prog X.w) A (setItem (.ref a) u r) Q E s:=by
 rcases g with⟨kvs,k,e,ey,l,eH⟩|⟨kvs,k,b,e,ey,eb,l,eH⟩
 ·subst ey eH
  obtain⟨z,hd,vs,rel,dd⟩:=Ed I.hok e
  have hz:vs.length<=sizeLine:=by rw[←rel.length];exact z
  have hl:(putK kvs k v).length<=sizeLine:=by have:=jZ kvs k v;omega
  refine wpAny_setItem_pairs (hsz:=hz) (oU ry) dd fun h' dd' hs=>h _ ?_
  have he:∃q,h'.get? a=some q:=let⟨q,_,_,hq,_⟩:=dd';⟨q,hq⟩
  exact sr I (by rw[e];exact True.intro) hs he (wj hl hd (rel.put k rv) dd')
 ·subst ey eH
  cases(show u=Value.ref b from ry)
  obtain⟨z,hd,xs,rel,dd⟩:=G7 I.hok e
  have hz:xs.length<=sizeLine:=by rw[←Paired.length rel];exact z
  have hl:(putK kvs k v).length<=sizeLine:=by have:=jZ kvs k v;omega
  refine wpAny_setItem_heap (hsz:=hz) (tupleKind_room_in1 hu) (wg I.hok eb) dd fun h' dd' hs=>h _ ?_
  obtain⟨q,es,ep,hq,h2,h3,h4,_,h5⟩:=dd'
  refine sr I (by rw[e];exact True.intro) hs ⟨q,hq⟩ ⟨hl,hd,_,(rel.put k eb rv).keeps fun c ys ec=>?_,q,es,ep,hq,h2,h3,h4,h5⟩
  rw[au (cF ec e (fun z=>nomatch z))]
  exact ec
end
section
variable {X:Cx}{pins:List (Addr×Obj)}{σ:St}{H:Hp}{s:Shared}{a:Addr}{kvs:List (Key×V)}{k:Key}{u:Value}{A:Around}{E:Value->Shared->Prop}
end
noncomputable def E5(i:Expr):Prop:=∀ov iv,subscripted i false ov iv=operate [ov,iv] (getItem ov iv)
theorem xS{prog:Program}{w:World}{A:Around}{E:Value->Shared->Prop}{s:Shared}{env:Env}{value slice:Expr}{pos:Pos}{T id:String}{Q:Value->Shared->Prop}
  (hl:typeLookup (.type T) "__getitem__"=pure (some (.builtin id))) (hs:E5 slice)
  (h:wpAny (model prog w) A (eval value env) (fun o s₁=>wpAny (model prog w) A (eval slice env) (fun i s₂=>s₂.TypeIs o T/\wpAny (model prog w) A (getItem o i) Q E s₂) E s₁) E s) :
  wpAny (model prog w) A (eval (.Subscript value slice pos) env) Q E s:=by
 refine Subscript_ (wpAny_mono h (fun o s₁ h₁=>wpAny_mono h₁ (fun i s₂ h₂=>?_) fun _ _ x=>x) fun _ _ x=>x)
 obtain⟨hT,h₂⟩:=h₂
 unfold subscriptTail
 refine wpAny_bind ?_
 rw[getitemInPython_of_ne hT.not_modules]
 refine wpAny_bind (wpAny_specialOf hT hl ?_)
 have fin:wpAny (model prog w) A (subscripted slice false o i) (fun r s₃=>wpAny (model prog w) A (letTemporaryGo value o r>>=fun _=>pure r) Q E s₃) E s₂:=by
  rw[hs o i]
  exact wpAny_operating (wpAny_mono h₂ (fun r s₃ h₃=>wpAny_bind (wpAny_letTemporaryGo (wpAny_pure h₃))) fun _ _ x=>x)
 first
  |exact wpAny_pure (wpAny_bind fin)
  |exact wpAny_bind (wpAny_pure (wpAny_bind fin))
  |exact wpAny_bind fin
theorem uz{X:Cx}{pins:List (Addr×Obj)}{σ:St}{H:Hp}{s:Shared}{a:Addr}{y:V}{o:Option V}(I:Inv X pins σ H s)(g:gv H a y o):s.TypeIs (.ref a) "dict":=by
 rcases g with⟨kvs,k,e,_,_⟩|⟨kvs,k,b,e,_,_,_⟩
 ·obtain⟨_,_,vs,_,dd⟩:=Av I.hok e
  exact dd.typeIs
 ·obtain⟨_,_,xs,_,dd⟩:=Aw I.hok e
  exact dd.typeIs
noncomputable def Ax(td ty:TE):TE:=fun σ H Q=>td σ H fun x H1=>ty σ H1 fun y H2=>∃a v,x=.ref a/\gv H2 a y (some v)/\Q v H2
noncomputable def G8(td ty tv:TE):TS:=fun D σ H=>tv σ H fun v H1=>td σ H1 fun x H2=>ty σ H2 fun y H3=>∃a H4,x=.ref a/\oV H3 a y v H4/\D.nx σ H4
section
variable {X:Cx}{o i e value:Expr}{pos pos' tpos:Pos}{td ty tv:TE}
theorem kq(hu:X.A.units+1<cLine)(ho:PE X o td)(hi:PE X i ty)(hs:E5 i):PE X (.Subscript o i pos) (Ax td ty):=by
 intro pins s σ H Q I h
 refine xS PySem.F.slot_dict_getitem.lookup hs (bP (ho pins s σ H _ I h) fun u s1 ⟨x,H1,I1,rx,q1⟩=>bP (hi pins s1 σ H1 _ I1 q1) fun iv s2 ⟨y,H2,I2,ry,a,v,ex,g,q2⟩=>?_)
 subst ex
 obtain rfl:u=Value.ref a:=rx
 exact⟨uz I2 g,za hu I2 g ry fun w' s3 I3 rw'=>⟨v,H2,I3,rw',q2⟩⟩
theorem su(hu:X.A.units+1<cLine)(ho:PE X o td)(hi:PE X i ty)(hv:PE X value tv)(hs:swapsWith value (some (.Subscript o i pos')) pos.line X.env=pure false) :
  PS X (.Assign [.Subscript o i pos'] value pos) (G8 td ty tv):=by
 intro pins s σ H D I h
 refine wpAny_Assign_Subscript (bP (hv pins s σ H _ I h) fun r s1 ⟨v,H1,I1,rv,q1⟩=>bP (ho pins s1 σ H1 _ I1 q1) fun u s2 ⟨x,H2,I2,rx,q2⟩=>bP (hi pins s2 σ H2 _ I2 q2) fun iv s3 ⟨y,H3,I3,ry,a,H4,ex,g,q3⟩=>?_) hs
 subst ex
 obtain rfl:u=Value.ref a:=rx
 exact zb hu I3 g ry rv fun s4 I4=>⟨σ,H4,I4,q3⟩
end
theorem Ay{P:Program}{w:World}{H:Hp}(h:Heap)(hb:sysModules<h.objs.size):di P w H (h.push {cls:=.type "dict",data:=.dict #[]}) h.objs.size (.dK []) :=
 ⟨Nat.zero_le _,beq_eq_false_iff_ne.mpr (Ne.symm (Nat.ne_of_lt hb)),[],.nil,Heap.DictOf.new h⟩
section
variable {X:Cx}{pos:Pos}
end
noncomputable def wm:List (TE×TE)->St->Hp->(List (V×V)->Hp->Prop)->Prop
 | [],_,H,Q=>Q [] H
 |(tk,tv)::r,σ,H,Q=>tk σ H fun x H1=>tv σ H1 fun y H2=>wm r σ H2 fun ps H3=>Q ((x,y)::ps) H3
noncomputable abbrev VV:List (V×V)->List (Value×Value)->Prop:=Paired fun p q=>RelV p.1 q.1/\RelV p.2 q.2
noncomputable def Io(X:Cx)(pos:Pos)(keys:List (Option Expr))(values:List Expr)(trs:List (TE×TE)):Prop :=
 ∀(pins:List (Addr×Obj)) (s:Shared) (σ:St) (H:Hp) (Q:List (V×V)->Hp->Prop),Inv X pins σ H s->wm trs σ H Q ->
  wpAny (model X.prog X.w) X.A (evalPairs (pairTrees keys values X.env pos)) (fun vs s'=>∃ps H',Inv X pins σ H' s'/\VV ps vs/\Q ps H') X.xe s
theorem xT{X:Cx}{pos:Pos}:Io X pos [] [] []:=fun pins s σ H Q I h=>pairTrees_nil_walk ⟨[],H,I,.nil,h⟩
theorem eV{X:Cx}{pos:Pos}{k v:Expr}{ks:List (Option Expr)}{vs:List Expr}{tk tv:TE}{trs:List (TE×TE)}(hk:PE X k tk)(hv:PE X v tv)(hr:Io X pos ks vs trs) :
  Io X pos (some k::ks) (v::vs) ((tk,tv)::trs):=fun pins s σ H Q I h =>
 pairTrees_cons_walk (bP (hk pins s σ H _ I h) fun u s1 ⟨x,H1,I1,rx,q1⟩=>bP (hv pins s1 σ H1 _ I1 q1) fun w2 s2 ⟨y,H2,I2,ry,q2⟩ =>
  bP (hr pins s2 σ H2 _ I2 q2) fun ws s3 ⟨ps,H3,I3,rel,q3⟩=>⟨(x,y)::ps,H3,I3,.cons ⟨rx,ry⟩ rel,q3⟩)
noncomputable def d9(kvs more:List (Key×V)):List (Key×V):=more.foldl (fun acc kv=>putK acc kv.1 kv.2) kvs
theorem KV.merge:∀{more:List (Key×V)}{rs:List (Key×Value)}{kvs:List (Key×V)}{vs:List (Key×Value)},KV more rs->KV kvs vs->KV (d9 kvs more) (merged vs rs):=by
 intro more rs kvs vs r
 unfold KV at r
 induction r generalizing kvs vs with
 |nil=>intro q;exact q
 |@cons p q ps qs h t ih =>
  intro r0
  have e:KV (putK kvs p.1 p.2) (stored vs q.1 q.2):=by
   have:=r0.put p.1 h.2
   rw[←h.1];exact this
  exact ih e
theorem iZ:∀(more kvs:List (Key×V)),(d9 kvs more).length<=kvs.length+more.length
 | [],kvs=>by show kvs.length<=kvs.length+0;omega
 |p::r,kvs=>by
  have h1:=iZ r (putK kvs p.1 p.2)
  have h2:=jZ kvs p.1 p.2
  show(d9 (putK kvs p.1 p.2) r).length<=_
  rw[List.length_cons];omega
theorem oW{P:Program}{w:World}:∀{kvs:List (Key×V)}{ws:List (Value×Value)},VV (kvs.map fun kv=>(kV kv.1,kv.2)) ws->∃rs,Carries (bx P w) ws rs/\KV kvs rs
 | [],_,r=>by rw[List.map_nil]at r;cases r;exact⟨[],True.intro,.nil⟩
 |p::kvs,_,r=>by
  rw[List.map_cons]at r
  cases r with
  |@cons a b as bs h t =>
   obtain⟨rs,c,q⟩:=oW (P:=P) (w:=w) t
   obtain⟨b1,b2⟩:=b
   exact⟨(p.1,b2)::rs,⟨oU h.1,rfl,c⟩,.cons ⟨rfl,h.2⟩ q⟩
noncomputable def Az(trs:List (TE×TE)):TE:=fun σ H Q=>∀p,H p=none->wm trs σ (upd H p (.dK [])) fun ps H2=>H2 p=some (.dK [])/\∃kvs:List (Key×V),ps=kvs.map (fun kv=>(kV kv.1,kv.2))/\kvs.length<=15/\Q (.ref p) (upd H2 p (.dK (d9 [] kvs)))
theorem xU{X:Cx}{pos:Pos}{keys:List (Option Expr)}{values:List Expr}{trs:List (TE×TE)}(h:Io X pos keys values trs)(hall:keys.all (·.isSome)=true)(hl:keys.length=values.length)(h0:keys≠[])
  (h15:keys.length<=15):PE X (.Dict keys values pos) (Az trs):=by
 intro pins s σ H Q I q
 have hn:=I.hok.fresh (Nat.le_refl s.heap.objs.size)
 have I1:=I.laid (a:=s.heap.objs.size) (o:=.dK []) (h':=s.heap.push {cls:=.type "dict",data:=.dict #[]}) (t':=s.toks) (fun _ _ q=>Heap.get?_push_of_some _ q) (Nat.le_refl _) (Ay s.heap I.big)
 refine wpAny_Dict_walk (knd:=bx X.prog X.w) hall hl h0 h15 (bP (h pins _ σ _ _ I1 (q _ hn)) fun ws s2 ⟨ps,H2,I2,rel,e,kvs,ep,lk,q2⟩=>?_)
 subst ep
 obtain⟨rs,c,rk⟩:=oW (P:=X.prog) (w:=X.w) rel
 obtain⟨z,hd,vs0,r0,dd⟩:=Ed I2.hok e
 cases r0
 refine⟨rs,c,dd,fun h' dd' hs=>⟨.ref s.heap.objs.size,_,?_,rfl,q2⟩⟩
 have hz:(d9 [] kvs).length<=sizeLine:=by
  have h1:=iZ kvs []
  rw[List.length_nil]at h1
  rw[sizeLine_eq];omega
 have he:∃q,h'.get? s.heap.objs.size=some q:=let⟨q,_,_,hq,_⟩:=dd';⟨q,hq⟩
 exact sr I2 (by rw[e];exact True.intro) hs he (wj hz hd (rk.merge .nil) dd')
section
variable {X:Cx}{pins:List (Addr×Obj)}{σ:St}{H:Hp}{s:Shared}{a:Addr}{y d:V}{u r:Value}{o:Option V}{A:Around}{E:Value->Shared->Prop}
end
section
variable {X:Cx}{o e f:Expr}{apos cpos:Pos}{td ty tx:TE}
end
section
variable {X:Cx}{pins:List (Addr×Obj)}{σ:St}{H:Hp}{s:Shared}{a:Addr}{kvs:List (Key×V)}{A:Around}{E:Value->Shared->Prop}
end
section
variable {X:Cx}{pins:List (Addr×Obj)}{σ:St}{H:Hp}{s:Shared}{a:Addr}{y:V}{u:Value}{A:Around}{E:Value->Shared->Prop}
end
end L2
set_option maxHeartbeats 4000000
namespace L2
open PySem
inductive T where
 |s (x:Str)|i (n:Int)|n|t (xs:List T)
theorem T.induct{P:T->Prop}(hs:∀x,P (.s x))(hi:∀n,P (.i n))(hn:P .n)(ht:∀xs,(∀x∈xs,P x)->P (.t xs))(a:T):P a :=
 T.rec (motive_1:=P) (motive_2:=fun xs=>∀x∈xs,P x) hs hi hn ht (fun _ h=>nomatch h) (fun _ _ h1 h2 y hy=>by
  cases hy with
  |head=>exact h1
  |tail _ h=>exact h2 y h) a
mutual
noncomputable def T.dep:T->Nat
 |.t xs=>T.cA xs+1
 |_=>0
noncomputable def T.cA:List T->Nat
 | []=>0
 |x::r=>max x.dep (T.cA r)
end
theorem T.AA{xs:List T}{x:T}(h:x∈xs):x.dep<=T.cA xs:=by
 induction xs with
 |nil=>cases h
 |cons y r ih =>
  unfold T.cA
  cases h with
  |head=>exact Nat.le_max_left _ _
  |tail _ h=>exact Nat.le_trans (ih h) (Nat.le_max_right _ _)
mutual
noncomputable def T.eqB:T->T->Bool
 |.s x,.s y=>x == y
 |.i m,.i k=>m == k
 |.n,.n=>true
 |.t xs,.t ys=>T.nO xs ys
 |_,_=>false
noncomputable def T.nO:List T->List T->Bool
 | [],[]=>true
 |x::r,y::q=>x.eqB y&&T.nO r q
 |_,_=>false
end
theorem T.AB{xs:List T}(h:∀x∈xs,∀y,T.eqB x y=true↔x=y):∀ys,T.nO xs ys=true↔xs=ys:=by
 induction xs with
 |nil=>intro ys;cases ys<;>simp[T.nO]
 |cons x r ih =>
  intro ys
  cases ys with
  |nil=>simp[T.nO]
  |cons y q =>
   unfold T.nO
   rw[Bool.and_eq_true,h x (.head _) y,ih (fun z hz=>h z (.tail _ hz)) q,List.cons.injEq]
theorem T.eqB_iff(a:T):∀b,T.eqB a b=true↔a=b:=by
 induction a using T.induct with
 |hs x=>intro b;cases b<;>simp[T.eqB]
 |hi x=>intro b;cases b<;>simp[T.eqB]
 |hn=>intro b;cases b<;>simp[T.eqB]
 |ht xs ih =>
  intro b
  cases b with
  |t ys=>unfold T.eqB;rw[T.AB ih ys,T.t.injEq]
  |_=>simp[T.eqB]
theorem T.AD(a:T):T.eqB a a=true:=(T.eqB_iff a a).mpr rfl
noncomputable instance:DecidableEq T:=fun a b=>if h:T.eqB a b=true then .isTrue ((T.eqB_iff a b).mp h)else .isFalse fun z=>h ((T.eqB_iff a b).mpr z)
theorem T.CO(a b:T):T.eqB a b=decide (a=b):=by rw[Bool.eq_iff_iff,decide_eq_true_iff,T.eqB_iff]
theorem T.lC:∀(xs ys:List T),T.nO xs ys=((List.range (min xs.length ys.length)).all (fun j=>T.eqB (xs.getD j .n) (ys.getD j .n))&&xs.length == ys.length)
 | [],[]=>rfl
 | [],y::q=>by simp[T.nO]
 |x::r,[]=>by simp[T.nO]
 |x::r,y::q=>by
  unfold T.nO
  rw[T.lC r q,List.length_cons,List.length_cons,Nat.succ_min_succ,List.range_succ_eq_map,List.all_cons,List.all_map]
  have e:(r.length+1 == q.length+1)=(r.length == q.length):=by simp
  rw[e,Bool.and_assoc]
  rfl
end L2
namespace L2
open PySem
inductive Hd where
 |num (n:Int)|name (x:Str)|gap (n:Int)|op (s:Str)|row|more|first|others|long|tag (t:Str)|call (f:Str)|mat (arms:List (Str×List Str))|ife|lt (x:Str)|fold (x y:Str)
inductive Tm where
 |mk (h:Hd) (ks:List Tm)
noncomputable def Tm.hd:Tm->Hd|.mk h _=>h
noncomputable def Tm.ks:Tm->List Tm|.mk _ ks=>ks
theorem Tm.induct{P:Tm->Prop}(hm:∀h ks,(∀k∈ks,P k)->P (.mk h ks))(a:Tm):P a :=
 Tm.rec (motive_1:=P) (motive_2:=fun xs=>∀x∈xs,P x) hm (fun _ h=>nomatch h) (fun _ _ h1 h2 y hy=>by
  cases hy with
  |head=>exact h1
  |tail _ h=>exact h2 y h) a
noncomputable def i7:Hd->Nat->Bool
 |.num _,n=>n == 0
 |.name _,n=>n == 0
 |.gap _,n=>n == 0
 |.op _,n=>n == 2
 |.row,_=>true
 |.more,n=>n == 2
 |.first,n=>n == 1
 |.others,n=>n == 1
 |.long,n=>n == 1
 |.tag _,_=>true
 |.call _,_=>true
 |.mat arms,n=>n == arms.length+1
 |.ife,n=>n == 3
 |.lt _,n=>n == 2
 |.fold _ _,n=>n == 3
inductive Wf:Tm->Prop
 |mk {h:Hd}{ks:List Tm}:i7 h ks.length=true->(∀k∈ks,Wf k)->Wf (.mk h ks)
noncomputable def bnd:Hd->Nat->List (List Str)
 |.mat arms,_=>[]::arms.map (·.2)
 |.lt x,_=>[[],[x]]
 |.fold x y,_=>[[],[],[x,y]]
 |_,n=>List.replicate n []
noncomputable def sy(a:Str×List Str)(k:T):T:=.t [.s a.1,.t (a.2.map .s),k]
noncomputable def wo:Hd->List T->T
 |.num n,_=>.t [.s "num",.i n]
 |.name x,_=>.t [.s "name",.s x]
 |.gap n,_=>.t [.s "gap",.i n]
 |.op s,ks=>.t (.s "op"::.s s::ks)
 |.row,ks=>.t [.s "row",.t ks]
 |.more,ks=>.t (.s "more"::ks)
 |.first,ks=>.t (.s "first"::ks)
 |.others,ks=>.t (.s "others"::ks)
 |.long,ks=>.t (.s "long"::ks)
 |.tag t,ks=>.t [.s "tag",.s t,.t ks]
 |.call f,ks=>.t [.s "call",.s f,.t ks]
 |.mat arms,ks=>.t [.s "match",ks.headD .n,.t (List.zipWith sy arms ks.tail)]
 |.ife,ks=>.t (.s "if"::ks)
 |.lt x,ks=>.t (.s "let"::.s x::ks)
 |.fold x y,ks=>.t [.s "fold",ks.getD 0 .n,.s x,.s y,ks.getD 1 .n,ks.getD 2 .n]
mutual
noncomputable def enc:Tm->T
 |.mk h ks=>wo h (CP ks)
noncomputable def CP:List Tm->List T
 | []=>[]
 |k::r=>enc k::CP r
end
theorem uA:∀ks:List Tm,CP ks=ks.map enc
 | []=>rfl
 |k::r=>by unfold CP;rw[uA r];rfl
theorem bO(h:Hd)(ks:List Tm):enc (.mk h ks)=wo h (ks.map enc):=by unfold enc;rw[uA]
mutual
noncomputable def Tm.size:Tm->Nat
 |.mk _ ks=>Tm.sizes ks+1
noncomputable def Tm.sizes:List Tm->Nat
 | []=>0
 |k::r=>k.size+Tm.sizes r
end
theorem Tm.wq(k:Tm)(r:List Tm):Tm.sizes (k::r)=k.size+Tm.sizes r:=by rw[Tm.sizes]
theorem Tm.CQ(h:Hd)(ks:List Tm):(Tm.mk h ks).size=Tm.sizes ks+1:=by rw[Tm.size]
theorem Tm.size_pos(a:Tm):0<a.size:=by cases a;unfold Tm.size;omega
end L2
namespace L2
open PySem PySem.Spec PyProof.Rows
noncomputable def bA(env:Env):List (Str×NameKind)->List (Str×Addr)->List (Str×Addr)
 | [],cs=>cs
 |(n,k)::r,cs=>bA env r (if k == .free then(n,(env.cells.lookup n).getD 0)::cs else cs)
theorem gi{scope:Scope}{env:Env}(h:∀x∈scope.names,x.2=.free->∃c,env.cells.lookup x.1=some c):closureFor scope env=pure (bA env scope.names []):=by
 have go:∀(l:List (Str×NameKind)) (cs:List (Str×Addr)),(∀x∈l,x.2=.free->∃c,env.cells.lookup x.1=some c) ->
   (forIn l cs fun x r=>if(x.2 == NameKind.free)=true then do let a ←cellOf env x.1;pure (ForInStep.yield ((x.1,a)::r))else pure (ForInStep.yield r):Sem (List (Str×Addr)))=pure (bA env l cs):=by
  intro l
  induction l with
  |nil=>intro cs _;rfl
  |cons x r ih =>
   intro cs hx
   obtain⟨n,k⟩:=x
   rw[List.forIn_cons]
   by_cases hk:k=.free
   ·subst hk
    obtain⟨c,hc⟩:=hx (n,.free) List.mem_cons_self rfl
    have e:cellOf env n=pure c:=by unfold cellOf;rw[show env.cells.lookup n=some c from hc]
    simp only[beq_self_eq_true,if_true,e,pure_bind]
    rw[ih _ fun y hy=>hx y (List.mem_cons_of_mem _ hy)]
    unfold bA
    rw[show env.cells.lookup n=some c from hc]
    cases r<;>rfl
   ·have hb:(k == NameKind.free)=false:=by simpa using hk
    simp only[hb,Bool.false_eq_true,if_false,pure_bind]
    rw[ih _ fun y hy=>hx y (List.mem_cons_of_mem _ hy)]
    conv=>rhs;unfold bA
    simp only[hb,Bool.false_eq_true,if_false]
 simp only[closureFor]
 have g:=go scope.names [] h
 simp only[g]
 rfl
theorem eN{env:Env}:∀(l:List (Str×NameKind)) (cs:List (Str×Addr)),(∀x∈l,x.2=.free->∃c,env.cells.lookup x.1=some c)->(∀y c,cs.lookup y=some c->env.cells.lookup y=some c) ->
  ∀y c,(bA env l cs).lookup y=some c->env.cells.lookup y=some c
 | [],_,_,hc=>hc
 |(n,k)::r,cs,hl,hc=>by
  refine eN r _ (fun x hx=>hl x (List.mem_cons_of_mem _ hx)) fun y c e=>?_
  by_cases hk:(k == NameKind.free)=true
  ·rw[if_pos hk]at e
   rw[List.lookup_cons]at e
   by_cases hy:y=n
   ·subst hy
    simp only[beq_self_eq_true]at e
    obtain⟨c',hc'⟩:=hl (y,k) List.mem_cons_self (by simpa using hk)
    have hc'':env.cells.lookup y=some c':=hc'
    rw[hc'']at e⊢
    exact e
   ·have hb:(y == n)=false:=beq_eq_false_iff_ne.mpr hy
    rw[hb]at e
    exact hc y c e
  ·rw[if_neg hk]at e
   exact hc y c e
theorem kN{env:Env}:∀(l:List (Str×NameKind)) (cs:List (Str×Addr)) (y:Str),(∃c,cs.lookup y=some c)->∃c,(bA env l cs).lookup y=some c
 | [],_,_,h=>h
 |(n,k)::r,cs,y,h=>by
  refine kN r _ y ?_
  by_cases hk:(k == NameKind.free)=true
  ·rw[if_pos hk,List.lookup_cons]
   cases hb:(y == n)with
   |true=>exact⟨_,rfl⟩
   |false=>exact h
  ·rw[if_neg hk];exact h
theorem lZ{env:Env}:∀(l:List (Str×NameKind)) (cs:List (Str×Addr)) (y:Str),(y,NameKind.free)∈l->∃c,(bA env l cs).lookup y=some c
 | [],_,_,h=>nomatch h
 |(n,k)::r,cs,y,h=>by
  rcases List.mem_cons.mp h with e|h
  ·have e1:y=n:=congrArg Prod.fst e
   have e2:NameKind.free=k:=congrArg Prod.snd e
   subst e1
   subst e2
   refine kN r _ y ⟨(env.cells.lookup y).getD 0,?_⟩
   rw[if_pos (by rfl),List.lookup_cons,beq_self_eq_true]
  ·exact lZ r _ y h
theorem ja{env:Env}:∀{names:List (Str×NameKind)}{x:Str}{k':NameKind},(names.map fun(n,k)=>if(k == NameKind.free&&env.scope.kind == .function&&env.kindOf n == some .cell)then(n,NameKind.cell)else(n,k)).lookup x=some k' ->
  names.lookup x=some k'\/(k'=.cell/\names.lookup x=some .free)
 | [],_,_,h=>by simp at h
 |(n,k)::r,x,k',h=>by
  have ih:=@ja env r x k'
  change List.lookup x ((if(k == NameKind.free&&env.scope.kind == .function&&env.kindOf n == some .cell)=true then(n,NameKind.cell)else(n,k))::_)=_ at h
  cases hx:x == n with
  |true =>
   by_cases hc:(k == NameKind.free&&env.scope.kind == .function&&env.kindOf n == some .cell)=true
   ·rw[if_pos hc]at h
    simp only[List.lookup_cons,hx]at h
    cases h
    have hk:k=.free:=by simp at hc;exact hc.1.1
    subst hk
    exact .inr ⟨rfl,by simp only[List.lookup_cons,hx]⟩
   ·rw[if_neg hc]at h
    simp only[List.lookup_cons,hx]at h
    cases h
    exact .inl (by simp only[List.lookup_cons,hx])
  |false =>
   by_cases hc:(k == NameKind.free&&env.scope.kind == .function&&env.kindOf n == some .cell)=true
   ·rw[if_pos hc]at h
    simp only[List.lookup_cons,hx]at h⊢
    exact ih h
   ·rw[if_neg hc]at h
    simp only[List.lookup_cons,hx]at h⊢
    exact ih h
theorem l0{env:Env}:∀{names:List (Str×NameKind)}{x:Str},names.lookup x=some .free ->
  (names.map fun(n,k)=>if(k == NameKind.free&&env.scope.kind == .function&&env.kindOf n == some .cell)then(n,NameKind.cell)else(n,k)).lookup x=some .cell \/
  (names.map fun(n,k)=>if(k == NameKind.free&&env.scope.kind == .function&&env.kindOf n == some .cell)then(n,NameKind.cell)else(n,k)).lookup x=some .free
 | [],_,h=>by simp at h
 |(n,k)::r,x,h=>by
  have ih:=@l0 env r x
  show List.lookup x ((if(k == NameKind.free&&env.scope.kind == .function&&env.kindOf n == some .cell)=true then(n,NameKind.cell)else(n,k))::_)=_\/List.lookup x ((if(k == NameKind.free&&env.scope.kind == .function&&env.kindOf n == some .cell)=true then(n,NameKind.cell)else(n,k))::_)=_
  cases hx:x == n with
  |true =>
   simp only[List.lookup_cons,hx]at h
   cases h
   by_cases hc:(NameKind.free == NameKind.free&&env.scope.kind == .function&&env.kindOf n == some .cell)=true
   ·rw[if_pos hc];exact .inl (by simp only[List.lookup_cons,hx])
   ·rw[if_neg hc];exact .inr (by simp only[List.lookup_cons,hx])
  |false =>
   simp only[List.lookup_cons,hx]at h
   by_cases hc:(k == NameKind.free&&env.scope.kind == .function&&env.kindOf n == some .cell)=true
   ·rw[if_pos hc];simp only[List.lookup_cons,hx];exact ih h
   ·rw[if_neg hc];simp only[List.lookup_cons,hx];exact ih h
section
variable {prog:Program}{w:World}{A:Around}{R:Result->Shared->Prop}{s:Shared}
theorem gw{elt target iter:Expr}{ifs:List Expr}{scope:Scope}{pos:Pos}{it acc:Value}{env:Env}{E:Value->Shared->Prop}(I:Nat->Shared->Prop)
  (turn:∀n s,I n s->wpAny (model prog w) A (pyNext it) (fun r s₁=>match r with
   |none=>R (.ok .next) s₁
   |some v=>wpAny (model prog w) A (letOwnedTupleGo target it v) (fun _ s₁'=>wpAny (model prog w) A (assign target env v) (fun _ s₂ =>
     wpAny (model prog w) A (forIn ifs true fun c r=>if r=true then do let ok ←isTrue c env (eval c env);pure (ForInStep.yield ok)else pure (ForInStep.yield r)) (fun ok s₃ =>
      if ok=true then wpAny (model prog w) A (eval elt env) (fun x s₄ =>
       wpAny (model prog w) A (call (.builtin "list.append") [acc,x]) (fun _ s₅=>∃m,m<n/\I m s₅) E s₄) E s₃
      else ∃m,m<n/\I m s₃) E s₂) E s₁') E s₁) E s)
  (hE:∀e s',E e s'->notedBy (model prog w) A env (fun e s'=>R (.error e) s') e s')
  (n:Nat) (h:I n s) :
  codeAny (model prog w) A (.compLoop (.ListComp elt [⟨target,iter,ifs,0⟩] scope pos) 0 it acc env) R s:=by
 refine codeAny_loop rfl I (fun n s hI=>?_) n h
 show wpAny _ A ((compTurn (.ListComp elt [⟨target,iter,ifs,0⟩] scope pos) 0 it acc env).onRaise (fun x=>do noteFrame x env;theTreesLotGoes x)) _ _ s
 refine wpAny_noted ?_
 rw[compTurn_list]
 refine wpAny_bind (wpAny_standAt (wpAny_bind (wpAny_mono (turn n s hI) (fun r s₁ h₁=>?_) hE)))
 cases r with
 |none=>exact wpAny_pure h₁
 |some v =>
  refine wpAny_bind (wpAny_mono h₁ (fun _ s₁' h₁'=>?_) hE)
  refine wpAny_bind (wpAny_mono h₁' (fun _ s₂ h₂=>wpAny_bind (wpAny_mono h₂ (fun ok s₃ h₃=>?_) hE)) hE)
  cases ok with
  |false=>exact wpAny_pure ⟨rfl,h₃⟩
  |true =>
   exact wpAny_bind (wpAny_bind (wpAny_mono h₃ (fun x s₄ h₄=>wpAny_bind (wpAny_mono h₄ (fun _ s₅ h₅=>wpAny_pure (wpAny_pure ⟨rfl,h₅⟩)) hE)) hE))
end
noncomputable def aH(X:Cx)(scope:Scope)(N':List Str)(fp:List Addr)(C:Addr)(s₂:Shared)(H₂:Hp):Cx where
 prog:=X.prog
 w:=X.w
 K:=X.K
 mg:=X.mg
 base:=X.base
 A:=X.A
 N:=N'
 s₀:=s₂
 H₀:=H₂
 env:=compEnvC scope (bA X.env scope.names []) C X.env
 outer:=X.stack
 stack:=X.stack
 ex:=fp
 fn:=fun _=>false
 calm:=X.calm
 pn:=[]
 xe:=fun _ _=>False
noncomputable def qm(X:Cx)(ifs:List Expr)(t:TT):Prop :=
 ∀(pins:List (Addr×Obj)) (s:Shared) (σ:St) (H:Hp) (Q:Bool->Hp->Prop),Inv X pins σ H s->t σ H Q ->
  wpAny (model X.prog X.w) X.A (forIn ifs true fun c r=>if r=true then do let ok ←isTrue c X.env (eval c X.env);pure (ForInStep.yield ok)else pure (ForInStep.yield r)) (TP X pins σ Q) X.xe s
noncomputable def uB:TT:=fun _ H Q=>Q true H
theorem cN{X:Cx}:qm X [] uB:=fun pins s σ H Q I h=>by
 rw[List.forIn_nil]
 exact wpAny_pure ⟨H,I,h⟩
theorem uC{X:Cx}{c:Expr}{t:TT}(hc:PT X c t):qm X [c] t:=fun pins s σ H Q I h=>by
 simp only[List.forIn_cons,List.forIn_nil,if_true]
 exact wpAny_bind (wpAny_bind (wpAny_mono (hc pins s σ H Q I h) (fun b s' hb=>wpAny_pure (wpAny_pure hb)) fun _ _ x=>x))
noncomputable def fG(own:Nat)(fr:List Nat)(σ:St):St:=List.replicate own none++fr.map fun j=>(σ[j]?).join
noncomputable def l7(J:It)(g:TG)(tt:TT)(te:TE)(Q:VK)(σ0:St)(H0:Hp):Prop:=∃W:Nat->Nat->St->List V->Hp->Prop,(∃m,W 0 m σ0 [] H0)/\∀i m σ' vs H,W i m σ' vs H ->
 (J.stop i H/\vs.length<=sizeLine/\∀p,H p=none->Q (.ref p) (upd H p (.lst vs))) \/
 (J.go i H/\vs.length<sizeLine/\∃N:St->List V->Hp->Prop,(∀σ2 vs2 H2,N σ2 vs2 H2->∃m',m' < m/\W (i+1) m' σ2 vs2 H2)/\∀x H',J.yld i H x H'->g x σ' H' fun σ2 H2=>tt σ2 H2 fun ok H3 =>
  if ok=true then te σ2 H3 fun v H4=>N σ2 (vs++[v]) H4 else N σ2 vs H3)
noncomputable def xV(own:Nat)(fr:List Nat)(wi:TI)(g:TG)(tt:TT)(te:TE):TE:=fun σ H Q=>wi σ H fun J H1=>l7 J g tt te Q (fG own fr σ) H1
section
variable {X:Cx}{pins:List (Addr×Obj)}{σ:St}{H:Hp}{s:Shared}
theorem AE{own:List Str}{fr:List Nat}(hl:σ.length=X.N.length){i:Nat}{x:Str}{v:V}(h1:(own++fr.map fun j=>X.N.getD j Str.empty)[i]?=some x)(h2:(fG own.length fr σ)[i]?=some (some v)) :
  ∃j∈fr,X.N[j]?=some x/\X.N.getD j Str.empty=x/\σ[j]?=some (some v):=by
 unfold fG at h2
 by_cases hi:i<own.length
 ·rw[List.getElem?_append_left (by simpa using hi),List.getElem?_replicate,if_pos hi]at h2
  cases h2
 ·rw[List.getElem?_append_right (by simpa using hi),List.length_replicate,List.getElem?_map]at h2
  rw[List.getElem?_append_right (by omega),List.getElem?_map]at h1
  cases e:fr[i-own.length]? with
  |none=>rw[e]at h2;cases h2
  |some j =>
   rw[e]at h1 h2
   simp only[Option.map_some,Option.some.injEq]at h1 h2
   have hj:σ[j]?=some (some v):=by
    cases q:σ[j]? with
    |none=>rw[q]at h2;cases h2
    |some o=>rw[q]at h2;exact congrArg some h2
   have hjl:j<X.N.length:=by rw[←hl];exact(List.getElem?_eq_some_iff.mp hj).1
   refine⟨j,List.mem_of_getElem? e,?_,h1,hj⟩
   rw[←h1,List.getD_eq_getElem?_getD,List.getElem?_eq_getElem hjl]
   rfl
theorem jB{scope:Scope}{own:List Str}{fr:List Nat}{fp:List Addr}{C:Addr}{h₁:Heap}{tk:Nat}{m:Str->Option Value}(I:Inv X pins σ H s)
  (hkind:scope.kind=.function) (hcell:∀x∈scope.names,x.2≠.cell) (hfr:∀x∈scope.names,x.2=.free->X.env.scope.names.lookup x.1=some .cell\/X.env.scope.names.lookup x.1=some .free)
  (hin:∀j∈fr,scope.names.lookup (X.N.getD j Str.empty)=some .free) (hC:s.heap.objs.size<=C) (hf:∀b∈fp,mT X pins H b) (hfo:∀b∈fp,b<s.heap.objs.size)
  (old:∀b o,s.heap.get? b=some o->h₁.get? b=some o) (hn:h₁.Ns C m) :
  Inv (aH X scope (own++fr.map fun j=>X.N.getD j Str.empty) fp C s H) [] (fG own.length fr σ) H {s with heap:=h₁,toks:=tk}:=by
 have hfree:∀x∈scope.names,x.2=.free->∃c,X.env.cells.lookup x.1=some c:=fun x hx e=>I.ok.has x.1 (hfr x hx e)
 have sub:∀y c,(bA X.env scope.names []).lookup y=some c->X.env.cells.lookup y=some c:=eN _ _ hfree (by intro y c e;simp at e)
 have hasF:∀y,scope.names.lookup y=some .free->∃c,(bA X.env scope.names []).lookup y=some c:=fun y e=>lZ _ _ _ (PySem.mem_of_lookup e)
 refine⟨⟨I.ok.mod,?_,I.ok.glob,I.ok.blt,hC,fun x y c h1 h2=>I.ok.inj x y c (sub x c h1) (sub y c h2),fun x hx=>?_,(fun x c hx=>nomatch hx),I.ok.hd,I.ok.frames,.inl rfl,fun b hb=>?_,I.bs,Nat.le_trans I.ok.bsz I.sz,fun b o e hb=>?_,fun b hb z=>?_,I.stack,I.xK⟩,
  rfl,I.bare,Un.kept old,⟨m,hn,fun i x v h1 h2 h3=>?_⟩,fun x c e=>?_,I.hok.fresh hC,fun x c e=>I.freeC x c (sub x c e),fun p hp=>absurd (show p∈([]:List (Addr×Obj))from hp) (by simp),I.hok.kept old,?_⟩
 ·exact hkind
 ·have hx':(relabel scope X.env).names.lookup x=some .cell\/(relabel scope X.env).names.lookup x=some .free:=hx
  have hx2:scope.names.lookup x=some .free:=by
   rcases hx' with e|e
   ·rcases ja e with e|⟨_,e⟩
    ·exact absurd rfl (hcell _ (PySem.mem_of_lookup e))
    ·exact e
   ·rcases ja e with e|⟨z,_⟩
    ·exact e
    ·cases z
  exact hasF x hx2
 ·refine⟨Nat.ne_of_lt (Nat.lt_of_lt_of_le (hfo b hb) hC),fun x c e=>(hf b hb).2.2.2.2.1 x c (sub x c e)⟩
 ·rcases(hf b hb).2.2.2.1 with z|z
  ·exact I.ok.noex b o e z
  ·exact absurd (Nat.lt_of_lt_of_le (Heap.lt_size e) (Nat.le_trans I.ok.bsz z)) (Nat.lt_irrefl _)
 ·have hb':b∈fp:=hb
  have z':b∈frs X.stack:=z
  rcases List.mem_cons.mp (I.kW b z')with e|e
  ·exact(hf b hb').2.1 e
  ·exact(hf b hb').2.2.1 e
 ·obtain⟨j,hj,e1,e2,e3⟩:=AE (own:=own) I.len h1 h2
  have hxf:scope.names.lookup x=some .free:=by rw[←e2];exact hin j hj
  have hk:=hfr _ (PySem.mem_of_lookup hxf) rfl
  obtain⟨m0,hn0,hl0⟩:=I.loc
  obtain⟨u,r,l⟩:=hl0 j x v e1 e3 (.inr hk)
  refine⟨u,r,?_⟩
  rcases l with⟨k,_⟩|⟨_,c,ec,z⟩
  ·have k':X.env.scope.names.lookup x=some .local:=k
   rcases hk with q|q<;>(rw[show X.env.scope.names.lookup x=_ from q]at k';cases k')
  ·obtain⟨c',ec'⟩:=hasF x hxf
   have:=sub x c' ec'
   rw[ec]at this
   cases this
   obtain⟨o,ho,hd⟩:=z
   exact .inr ⟨l0 hxf,c,ec',o,old c o ho,hd⟩
 ·obtain⟨v,o,ho,hd⟩:=I.cell x c (sub x c e)
  exact⟨v,o,old c o ho,hd⟩
 ·show(fG own.length fr σ).length=(own++fr.map fun j=>X.N.getD j Str.empty).length
  simp[fG]
theorem oX{scope:Scope}{N':List Str}{fp:List Addr}{C D:Addr}{s':Shared}{H':Hp}{σ':St}{pins':List (Addr×Obj)}{vs:List V}{ys:Array Value}{h'':Heap}(I:Inv X pins σ H s)(hf:∀b∈fp,mT X pins H b)
  (I':Inv (aH X scope N' fp C s H) pins' σ' H' s') (hC:s.heap.objs.size<=C) (hD:s.heap.objs.size<=D) (hDC:D≠C) (hDn:H' D=none) (pl:s'.heap.PlainList D ys) (rv:Vals vs ys.toList) (hz:vs.length<=sizeLine) (hs:Heap.SameBut C s'.heap h'') :
  Inv X pins σ (upd H' D (.lst vs)) {s' with heap:=h''}:=by
 have un:Un (frs X.stack) fp H H' s.heap s'.heap:=I'.base
 have hCn:H' C=none:=I'.free
 have at':∀b,b≠C->h''.get? b=s'.heap.get? b:=fun b hb=>hs.2 b hb
 have neC:∀b o,s.heap.get? b=some o->b≠C:=fun b o e=>Nat.ne_of_lt (Nat.lt_of_lt_of_le (Heap.lt_size e) hC)
 have neD:∀b o,s.heap.get? b=some o->b≠D:=fun b o e=>Nat.ne_of_lt (Nat.lt_of_lt_of_le (Heap.lt_size e) hD)
 have okHD:∀b u,H b=some u->b≠D:=fun b u e=>Nat.ne_of_lt (Nat.lt_of_lt_of_le (I.hok.lt e) hD)
 have un':Un (frs X.stack) fp H (upd H' D (.lst vs)) s.heap h'':=by
  refine⟨fun b o e n h1 h2=>?_,fun b o e n h1 h2=>?_,fun b o e n h2=>?_,fun b o e h2=>?_,fun b xs e=>?_,fun b o u e=>?_,fun b ps e=>?_⟩
  ·rw[at' b (neC b o e)];exact un.keep b o e n h1 h2
  ·rw[at' b (neC b o e)];exact un.slot b o e n h1 h2
  ·rw[au (neD b o e)];exact un.free b o e n h2
  ·rw[at' b (neC b o e)];exact un.there b o e h2
  ·rw[au (okHD b _ e)];exact un.tups b xs e
  ·rw[au (okHD b _ e)];exact un.frzs b o u e
  ·rw[au (okHD b _ e)];exact un.tbls b ps e
 have hok:kK X.prog X.w (upd H' D (.lst vs)) h'':=fun b u e=>by
  by_cases hb:b=D
  ·subst hb
   rw[ah]at e
   cases e
   obtain⟨n,ho⟩:=pl
   refine⟨hz,ys.toList,n,rv,?_⟩
   rw[at' b hDC]
   simpa using ho
  ·rw[au hb]at e
   refine(I'.hok b u e).stay (fun c v hc q=>?_) (fun c q=>?_) fun c xs q=>?_
   ·rw[at' c ?_];exact q
    rintro rfl
    rcases hc with z|z
    ·rw[←z,hCn]at e;cases e
    ·rw[hCn]at z;cases z
   ·rw[au (fun z=>by rw[z,hDn]at q;cases q)];exact q
   ·rw[au (fun z=>by rw[z,hDn]at q;cases q)];exact q
 exact I.DZ (s':={s' with heap:=h''}) (ch:=fp) I'.os un' hok I'.bare fun b hb=>⟨(hf b hb).2.2.2.1,(hf b hb).2.1,(hf b hb).2.2.2.2.1,(hf b hb).2.2.2.2.2⟩
end
section
variable {X:Cx}
theorem CS{elt iter tg:Expr}{ifs:List Expr}{scope:Scope}{pos:Pos}{wi:TI}{g:TG}{tt:TT}{te:TE}(own:List Str)(fr:List Nat)(hc:X.calm=true)
  (hkind:scope.kind=.function) (hcell:∀x∈scope.names,x.2≠.cell) (hnames:∀x∈scope.names,x.2=.local->scope.names.lookup x.1=some .local)
  (hfr:∀x∈scope.names,x.2=.free->X.env.scope.names.lookup x.1=some .cell\/X.env.scope.names.lookup x.1=some .free)
  (hin:∀j∈fr,scope.names.lookup (X.N.getD j Str.empty)=some .free)
  (hi:PI X tg iter wi) (hg:∀fp C s H,PG (aH X scope (own++fr.map fun j=>X.N.getD j Str.empty) fp C s H) tg g)
  (ht:∀fp C s H,qm (aH X scope (own++fr.map fun j=>X.N.getD j Str.empty) fp C s H) ifs tt)
  (he:∀fp C s H,PE (aH X scope (own++fr.map fun j=>X.N.getD j Str.empty) fp C s H) elt te)
  (hs:∀x,foldedSetIterable iter X.env x=pure x:=by intro _;rfl):PE X (.ListComp elt [⟨tg,iter,ifs,0⟩] scope pos) (xV own.length fr wi g tt te):=by
 intro pins s σ H Q I h
 rw[eval_ListComp]
 have hfree:∀x∈scope.names,x.2=.free->∃c,X.env.cells.lookup x.1=some c:=fun x hx e=>I.ok.has x.1 (hfr x hx e)
 refine wpAny_comprehension_free (use:=none) rfl hs (gi hfree) hkind hnames ?_
 refine bP (hi pins s σ H _ I h) fun v s1 h1=>bP h1 fun itv s2 h2=>?_
 obtain⟨it,fp,tn,J,H2,e,I2,T,st2,f2,W,⟨m0,w0⟩,turn⟩:=h2
 subst e
 have hfo:∀b∈fp,b<s2.heap.objs.size:=fun b hb=>by obtain⟨o,e,_⟩:=T.obj 0 _ st2 b hb;exact Heap.lt_size e
 refine wpAny_newObj_type (wpAny_newFunctionEnv hcell (by intro y hy;simp at hy) (fun h₁ hns₁ hsb₁=>?_) hkind)
 dsimp only at hns₁ hsb₁⊢
 generalize hH2:s2.heap.push {cls:=.type "list",dict:=none,data:=.seq ([]:List Value).toArray}=G2 at hns₁ hsb₁⊢
 have hC:G2.objs.size=s2.heap.objs.size+1:=by rw[←hH2,Heap.size_push]
 have hDC:s2.heap.objs.size≠G2.objs.size:=by rw[hC];exact Nat.ne_of_lt (Nat.lt_succ_self _)
 have hCle:s2.heap.objs.size<=G2.objs.size:=by rw[hC];exact Nat.le_succ _
 have old:∀b o,s2.heap.get? b=some o->h₁.get? b=some o:=fun b o e=>hsb₁.extBut b o (by rw[hC];exact Nat.ne_of_lt (Nat.lt_succ_of_lt (Heap.lt_size e))) (Heap.get?_push_of_some _ (hH2▸Heap.get?_push_of_some _ e))
 have hacc:h₁.PlainList s2.heap.objs.size #[]:=⟨_,hsb₁.extBut _ _ hDC (Heap.get?_push_of_some _ (hH2▸Heap.get?_push_size _ rfl))⟩
 have I3:Inv (aH X scope (own++fr.map fun j=>X.N.getD j Str.empty) fp G2.objs.size s2 H2) [] (fG own.length fr σ) H2 {s2 with heap:=h₁,toks:=s2.toks+([]:List (Str×Value)).length} :=
  jB I2 hkind hcell hfr hin hCle f2 hfo old hns₁
 have st3:tn 0 h₁:=T.keep 0 _ _ st2 fun b _ o e=>old b o e
 have hDf:s2.heap.objs.size∉fp:=fun hm=>Nat.lt_irrefl _ (hfo _ hm)
 have hDn2:H2 s2.heap.objs.size=none:=I2.hok.fresh (Nat.le_refl _)
 have sub:∀y c,(bA X.env scope.names []).lookup y=some c->X.env.cells.lookup y=some c:=eN _ _ hfree (by intro y c e;simp at e)
 have cellD:∀y c,(bA X.env scope.names []).lookup y=some c->c≠s2.heap.objs.size:=fun y c e=>by
  obtain⟨_,o,ho,_⟩:=I2.cell y c (sub y c e)
  exact Nat.ne_of_lt (Heap.lt_size ho)
 have gH:s2.heap.objs.size∉frs X.stack:=fun z=>by
  rcases List.mem_cons.mp (I2.kW _ z)with e|e
  ·exact absurd I2.lt (by rw[←e];exact Nat.lt_irrefl _)
  ·exact I2.vI (Nat.le_refl _) e
 -- the iterator's records,in the block's context
 have stat:∀{H':Hp}{pl:List (Addr×Obj)},(∀b∈fp,H' b=none)->(∀p∈pl,p.1=s2.heap.objs.size)->∀b∈fp,mT (aH X scope (own++fr.map fun j=>X.N.getD j Str.empty) fp G2.objs.size s2 H2) pl H' b:=fun{H' pl} hn hp b hb=>by
  refine⟨hn b hb,(I3.ok.exf b hb).1,I3.ok.exfs b hb,.inl hb,(I3.ok.exf b hb).2,fun p hpp z=>?_⟩
  have hpp':p∈pl:=by simpa[aH]using hpp
  exact hDf (by rw[←hp p hpp',z];exact hb)
 have pinD:∀{σ':St}{H':Hp}{s':Shared}{ys:Array Value}{n:Nat},Inv (aH X scope (own++fr.map fun j=>X.N.getD j Str.empty) fp G2.objs.size s2 H2) [] σ' H' s'->H' s2.heap.objs.size=none->s'.heap.get? s2.heap.objs.size=some {cls:=.type "list",data:=.seq ys n} ->
   Inv (aH X scope (own++fr.map fun j=>X.N.getD j Str.empty) fp G2.objs.size s2 H2) [(s2.heap.objs.size,{cls:=.type "list",data:=.seq ys n})] σ' H' s':=fun{σ' H' s' ys n} J hn e=>J.cD fun p hp=>by
  have e':p=(s2.heap.objs.size,{cls:=.type "list",data:=.seq ys n}):=by simpa using hp
  subst e'
  exact⟨e,hn,hDC,gH,fun v z=>nomatch z⟩
 have loop:codeAny (model X.prog X.w) X.A (.compLoop (.ListComp elt [⟨tg,iter,ifs,0⟩] scope pos) 0 (.ref it) (.ref s2.heap.objs.size) (compEnvC scope (bA X.env scope.names []) G2.objs.size X.env))
   (compPost (model X.prog X.w) X.A X.xe none (EP X pins σ Q) (.ref s2.heap.objs.size) G2.objs.size) {s2 with heap:=h₁,toks:=s2.toks+([]:List (Str×Value)).length}:=by
  refine gw (E:=fun _ _=>False) (fun n s'=>∃i σ' H' vs ys,Inv (aH X scope (own++fr.map fun j=>X.N.getD j Str.empty) fp G2.objs.size s2 H2) [] σ' H' s'/\tn i s'.heap/\(∀b∈fp,H' b=none)/\H' s2.heap.objs.size=none/\s'.heap.PlainList s2.heap.objs.size ys/\Vals vs ys.toList/\W i n σ' vs H')
   ?_ (fun _ _ z=>z.elim) m0 ⟨0,_,H2,[],#[],I3,st3,fun b hb=>(f2 b hb).1,hDn2,hacc,.nil,w0⟩
  rintro n s3 ⟨i,σ3,H3,vs,ys,J3,st3,fr3,dn3,⟨pn,pl3⟩,rv,w3⟩
  have J3':=pinD J3 dn3 pl3
  have hpins:∀p∈[(s2.heap.objs.size,({cls:=.type "list",data:=.seq ys pn}:Obj))],p.1=s2.heap.objs.size:=fun p hp=>by
   have e':p=(s2.heap.objs.size,{cls:=.type "list",data:=.seq ys pn}):=by simpa using hp
   rw[e']
  rcases turn i n σ3 vs H3 w3 with⟨stop,hz,q⟩|⟨go,hz,N,hN,step⟩
  ·refine bP (T.done (aH X scope (own++fr.map fun j=>X.N.getD j Str.empty) fp G2.objs.size s2 H2) rfl rfl rfl hc i _ s3 σ3 H3 (fun _ _=>False) J3' (stat fr3 hpins) st3 stop) fun r s4 ⟨hr,J4⟩=>?_
   subst hr
   obtain⟨m4,hn4,_⟩:=id J4.loc
   refine⟨m4,hn4,fun h' hs'=>?_⟩
   have e4:s4.heap.get? s2.heap.objs.size=some {cls:=.type "list",data:=.seq ys pn}:=(J4.pin (s2.heap.objs.size,{cls:=.type "list",data:=.seq ys pn}) (List.mem_append_right _ (by simp))).1
   exact⟨.ref s2.heap.objs.size,_,oX I2 f2 J4 hCle (Nat.le_refl _) hDC dn3 ⟨pn,e4⟩ rv hz hs',rfl,q _ dn3⟩
  ·refine bP (T.item (aH X scope (own++fr.map fun j=>X.N.getD j Str.empty) fp G2.objs.size s2 H2) rfl rfl rfl hc i _ s3 σ3 H3 (fun _ _=>False) J3' (stat fr3 hpins) st3 go) fun r s4 ⟨u,hr,h4⟩=>?_
   subst hr
   refine bP h4 fun _ s5 ⟨x,H5,J5,r5,y5,st5,fr5⟩=>?_
   have J5':=J5.pinned (stat fr5 hpins) (T.obj _ _ st5)
   refine bP (hg fp _ s2 H2 _ s5 σ3 H5 x u _ J5' r5 (step x H5 y5)) fun _ s6 ⟨σ6,H6,J6,q6⟩=>?_
   refine bP (ht fp _ s2 H2 _ s6 σ6 H6 _ J6 q6) fun ok s7 ⟨H7,J7,q7⟩=>?_
   -- what stood pinned through the turn
   have after:∀{s8:Shared}{H8:Hp},Inv (aH X scope (own++fr.map fun j=>X.N.getD j Str.empty) fp G2.objs.size s2 H2) ([(s2.heap.objs.size,({cls:=.type "list",data:=.seq ys pn}:Obj))]++jU fp s5.heap) σ6 H8 s8 ->
     tn (i+1) s8.heap/\(∀b∈fp,H8 b=none)/\H8 s2.heap.objs.size=none/\s8.heap.get? s2.heap.objs.size=some {cls:=.type "list",data:=.seq ys pn}:=fun{s8 H8} J8=>by
    refine⟨T.keep _ _ _ st5 fun b hb o e=>(J8.pin (b,o) (List.mem_append_right _ (List.mem_append_right _ (cS hb e)))).1,fun b hb=>?_,?_,?_⟩
    ·obtain⟨o,e,d⟩:=T.obj _ _ st5 b hb
     exact(J8.pin (b,o) (List.mem_append_right _ (List.mem_append_right _ (cS hb e)))).2.1
    ·exact(J8.pin (s2.heap.objs.size,{cls:=.type "list",data:=.seq ys pn}) (List.mem_append_right _ (List.mem_append_left _ (by simp)))).2.1
    ·exact(J8.pin (s2.heap.objs.size,{cls:=.type "list",data:=.seq ys pn}) (List.mem_append_right _ (List.mem_append_left _ (by simp)))).1
   cases ok with
   |false =>
    obtain⟨m',hm,w7⟩:=hN _ _ _ q7
    obtain⟨a1,a2,a3,a4⟩:=after J7
    exact⟨m',hm,i+1,σ6,H7,vs,ys,J7.cD (fun p hp=>absurd hp (by simp)),a1,a2,a3,⟨pn,a4⟩,rv,w7⟩
   |true =>
    refine bP (he fp _ s2 H2 _ s7 σ6 H7 _ J7 q7) fun y s8 ⟨v8,H8,J8,r8,n8⟩=>?_
    obtain⟨m',hm,w8⟩:=hN _ _ _ n8
    obtain⟨a1,a2,a3,a4⟩:=after J8
    have J9:Inv (aH X scope (own++fr.map fun j=>X.N.getD j Str.empty) fp G2.objs.size s2 H2) [] σ6 H8 s8:=J8.cD (fun p hp=>absurd hp (by simp))
    have hys:ys.size<=sizeLine:=by
     have e1:vs.length=ys.toList.length:=rv.length
     have e2:ys.toList.length=ys.size:=by simp
     omega
    refine wpAny_list_append_plain (hsz:=hys) ⟨pn,a4⟩ fun h₅ hl₅ hs₅=>?_
    refine⟨m',hm,i+1,σ6,H8,vs++[v8],ys.push y,J9.turned (t':=s8.toks) (it:=s2.heap.objs.size) (fun b o hb e=>by rw[hs₅.2 b hb];exact e) a3 hDC (.inr (Nat.le_refl _)) cellD (fun p hp=>absurd (show p∈([]:List (Addr×Obj))from hp) (by simp)),
     T.keep _ _ _ a1 fun b hb o e=>(hs₅.2 b (fun z=>hDf (z▸hb))).trans e,a2,a3,hl₅,?_,w8⟩
    have:Vals (vs++[v8]) (ys.toList++[y]):=rv.append (.cons r8 .nil)
    simpa using this
 exact codeAny_compStart_list loop (T.self X.A 0 _ _ _ st3 loop)
end
noncomputable def j0(scope sc:Scope)(N0:List Str)(fr:List Nat):Bool :=
 scope.kind == .function&&scope.names.all (fun x=>x.2 != .cell&&(x.2 != .local||scope.names.lookup x.1 == some .local)&&(x.2 != .free||sc.names.lookup x.1 == some .cell||sc.names.lookup x.1 == some .free)) &&
  fr.all (fun j=>scope.names.lookup (N0.getD j Str.empty) == some .free)
theorem dR{X:Cx}{elt iter tg:Expr}{ifs:List Expr}{scope:Scope}{pos:Pos}{wi:TI}{g:TG}{tt:TT}{te:TE}(sc:Scope)(N0 own:List Str)(fr:List Nat)(hc:X.calm=true)(hsc:X.env.scope=sc)(hN:X.N=N0)
  (ok:j0 scope sc N0 fr=true) (hi:PI X tg iter wi) (hg:∀fp C s H,PG (aH X scope (own++fr.map fun j=>N0.getD j Str.empty) fp C s H) tg g)
  (ht:∀fp C s H,qm (aH X scope (own++fr.map fun j=>N0.getD j Str.empty) fp C s H) ifs tt)
  (he:∀fp C s H,PE (aH X scope (own++fr.map fun j=>N0.getD j Str.empty) fp C s H) elt te)
  (hs:∀x,foldedSetIterable iter X.env x=pure x:=by intro _;rfl):PE X (.ListComp elt [⟨tg,iter,ifs,0⟩] scope pos) (xV own.length fr wi g tt te):=by
 subst hsc hN
 unfold j0 at ok
 simp only[Bool.and_eq_true,List.all_eq_true,bne_iff_ne,beq_iff_eq,Bool.or_eq_true]at ok
 obtain⟨⟨k1,k2⟩,k3⟩:=ok
 refine CS own fr hc k1 (fun x hx=>(k2 x hx).1.1) (fun x hx e=>?_) (fun x hx e=>?_) (fun j hj=>k3 j hj) hi hg ht he hs
 ·rcases(k2 x hx).1.2 with z|z
  ·exact absurd e z
  ·exact z
 ·rcases(k2 x hx).2 with(z|z)|z
  ·exact absurd e z
  ·exact .inl z
  ·exact .inr z
section
variable {g:TG}{tt:TT}{te:TE}{Q:VK}{σ0:St}{H0:Hp}
theorem sH{J:It}(n:Nat)(Pv:Nat->St->List V->Hp->Prop)(h0:Pv 0 σ0 [] H0)(hlen:∀i σ vs H,i<=n->Pv i σ vs H->vs.length<=i)(hn:n<=sizeLine)(hgo:∀i σ vs H,i<n->Pv i σ vs H->J.go i H)(hst:∀σ vs H,Pv n σ vs H->J.stop n H)
  (hs:∀i σ vs H x H',i<n->Pv i σ vs H->J.yld i H x H'->g x σ H' fun σ2 H2=>tt σ2 H2 fun ok H3=>if ok=true then te σ2 H3 fun v H4=>Pv (i+1) σ2 (vs++[v]) H4 else Pv (i+1) σ2 vs H3)
  (hd:∀σ vs H,Pv n σ vs H->∀p,H p=none->Q (.ref p) (upd H p (.lst vs))):l7 J g tt te Q σ0 H0:=by
 refine⟨fun i m σ vs H=>m=n-i/\i<=n/\Pv i σ vs H,⟨n,by simp,Nat.zero_le _,h0⟩,?_⟩
 rintro i m σ vs H ⟨rfl,hi,p⟩
 have hv:=hlen i σ vs H hi p
 by_cases hlt:i<n
 ·exact .inr ⟨hgo i σ vs H hlt p,by omega,Pv (i+1),fun σ2 vs2 H2 q=>⟨n - (i+1),by omega,rfl,hlt,q⟩,fun x H' y=>hs i σ vs H x H' hlt p y⟩
 ·have e:i=n:=by omega
  subst e
  exact .inl ⟨hst σ vs H p,by omega,hd σ vs H p⟩
theorem jC{lo:Int}{n:Nat}(Pv:Nat->St->List V->Hp->Prop)(h0:Pv 0 σ0 [] H0)(hlen:∀i σ vs H,i<=n->Pv i σ vs H->vs.length<=i)(hn:n<=sizeLine)
  (hs:∀i σ vs H,i<n->Pv i σ vs H->g (.int (lo+i)) σ H fun σ2 H2=>tt σ2 H2 fun ok H3=>if ok=true then te σ2 H3 fun v H4=>Pv (i+1) σ2 (vs++[v]) H4 else Pv (i+1) σ2 vs H3)
  (hd:∀σ vs H,Pv n σ vs H->∀p,H p=none->Q (.ref p) (upd H p (.lst vs))):l7 (EM lo n) g tt te Q σ0 H0 :=
 sH n Pv h0 hlen hn (fun _ _ _ _ h _=>h) (fun _ _ _ _=>Nat.le_refl _) (fun i σ vs H x H' hi p y=>by obtain⟨rfl,rfl⟩:=y;exact hs i σ vs _ hi p) hd
theorem ku{K:PySem.W.Frag}{a:Addr}{xs:List V}(Pv:Nat->St->List V->Hp->Prop)(h0:Pv 0 σ0 [] H0)(hlen:∀i σ vs H,i<=xs.length->Pv i σ vs H->vs.length<=i)(hn:xs.length<=sizeLine)(hl:∀i σ vs H,i<=xs.length->Pv i σ vs H->cR K H a xs)
  (hs:∀i x σ vs H,xs[i]?=some x->Pv i σ vs H->g x σ H fun σ2 H2=>tt σ2 H2 fun ok H3=>if ok=true then te σ2 H3 fun v H4=>Pv (i+1) σ2 (vs++[v]) H4 else Pv (i+1) σ2 vs H3)
  (hd:∀σ vs H,Pv xs.length σ vs H->∀p,H p=none->Q (.ref p) (upd H p (.lst vs))):l7 (EK K a) g tt te Q σ0 H0:=by
 refine sH xs.length Pv h0 hlen hn (fun i σ vs H hi p=>⟨xs,xs[i],hl i σ vs H (Nat.le_of_lt hi) p,by simp[hi]⟩) (fun σ vs H p=>⟨xs,hl _ σ vs H (Nat.le_refl _) p,Nat.le_refl _⟩) (fun i σ vs H x H' hi p y=>?_) hd
 obtain⟨rfl,y⟩:=y
 exact hs i x σ vs _ (y xs (hl i σ vs _ (Nat.le_of_lt hi) p)) p
end
noncomputable abbrev kI(h:Heap)(z TI TO T:Addr)(flag:Bool):Prop :=
 h.get? z=some {cls:=.type "zip",dict:=none,data:=.fields #[rawInt T,.bool flag,.bool false,.ref TI,.ref TO],slots:=#[]}
section
variable {prog:Program}{w:World}{A:Around}{E:Value->Shared->Prop}{s:Shared}
theorem ir{z TI TO T:Addr}{flag:Bool}{oT:Obj}{Q:Bool->Shared->Prop}(hz:kI s.heap z TI TO T flag)(hT:s.heap.get? T=some oT)
  (hQ:∀h',kI h' z TI TO T true->Heap.SameBut z s.heap h'->Q false {s with heap:=h'}):wpAny (model prog w) A (Builtin.SmallTypes.ownedTupleIsFree (.ref z)) Q E s:=by
 unfold Builtin.SmallTypes.ownedTupleIsFree
 refine wpAny_bind (wpAny_field hz rfl (x:=rawInt T) rfl ?_)
 show wpAny _ _ (loadIfAlive ((T:Int).toNat)>>=_) _ _ _
 rw[Int.toNat_natCast]
 refine wpAny_bind (PySem.W.kdx_alive hT ?_)
 simp only[Option.isNone_some,Bool.false_eq_true,if_false]
 refine wpAny_bind (wpAny_field hz rfl (x:=.bool flag) rfl ?_)
 cases flag with
 |true =>
  rw[if_neg (show ¬((Value.bool true != Value.bool true)=true)from Bool.false_ne_true)]
  exact wpAny_pure (hQ s.heap hz (Heap.SameBut.refl _ _))
 |false =>
  rw[if_pos (show(Value.bool false != Value.bool true)=true from rfl)]
  exact wpAny_bind (wpAny_setField_rec hz (by simp) fun h' hz' hs'=>wpAny_pure (hQ h' hz' hs'))
theorem qo{z TI TO i1 i2 l1 l2 T:Addr}{flag:Bool}{oT:Obj}{k1 k2:Nat}{xs ys:Array Value}{x y:Value}{Q:Option Value->Shared->Prop}(D:ZipApart z TI TO i1 i2 l1 l2)
  (hz:kI s.heap z TI TO T flag) (hT:s.heap.get? T=some oT) (hTI:IsPair s.heap TI (.ref i1) (.ref i2))
  (h1:s.heap.IsListIter i1 l1 k1) (h2:s.heap.IsListIter i2 l2 k2) (hl1:s.heap.IsList l1 xs) (hl2:s.heap.IsList l2 ys) (hx:xs[k1]?=some x) (hy:ys[k2]?=some y)
  (hQ:∀h',kI h' z TI TO T true->h'.IsListIter i1 l1 (k1+1)->h'.IsListIter i2 l2 (k2+1)->IsPair h' s.heap.objs.size x y ->
   (∀c o,c≠z->c≠i1->c≠i2->s.heap.get? c=some o->h'.get? c=some o)->Q (some (.ref s.heap.objs.size)) {s with heap:=h'}) :
  wpAny (model prog w) A (pyNext (.ref z)) Q E s:=by
 have hTy:s.TypeIs (.ref z) "zip":=⟨_,hz,rfl⟩
 unfold pyNext
 refine wpAny_bind (wpAny_attempt (wpAny_callSpecial?_slot (name:=Str.ofString "__next__") hTy PySem.F.slot_zip_next
  (wpAny_call_entry PySem.F.slot_zip_next hTy PySem.F.entry_zip_next ?_ (PySem.F.args_zip_next_1 _))))
 show wpAny _ _ (field (.ref z) 2>>=_) _ _ _
 refine wpAny_bind (wpAny_field hz rfl (x:=.bool false) rfl ?_)
 show wpAny _ _ (field (.ref z) 3>>=_) _ _ _
 refine wpAny_bind (wpAny_field hz rfl (x:=.ref TI) rfl ?_)
 refine wpAny_bind (wpAny_seqItems hTI rfl ?_)
 show wpAny _ _ (Builtin.SmallTypes.ownedTupleIsFree (.ref z)>>=_) _ _ _
 refine wpAny_bind (ir hz hT fun h₁ hz₁ hs₁=>?_)
 simp only[Bool.false_eq_true,if_false]
 refine wpAny_bind ?_
 simp only[←Array.forIn_toList,List.forIn_cons,List.forIn_nil]
 refine wpAny_bind (wpAny_bind (wpAny_holding ?_))
 show wpAny _ _ (Builtin.SmallTypes.nextOf (.ref i1)>>=_) _ _ _
 refine wpAny_bind (wpAny_nextOf_list_item (h1.extBut hs₁.extBut D.i1z) (hl1.extBut hs₁.extBut D.l1z) hx fun h₂ h1₂ hs₂=>wpAny_pure (wpAny_pure ?_))
 dsimp only
 refine wpAny_bind (wpAny_bind (wpAny_holding ?_))
 show wpAny _ _ (Builtin.SmallTypes.nextOf (.ref i2)>>=_) _ _ _
 refine wpAny_bind (wpAny_nextOf_list_item ((h2.extBut hs₁.extBut D.i2z).extBut hs₂.extBut D.i12.symm) ((hl2.extBut hs₁.extBut D.l2z).extBut hs₂.extBut D.l2i1) hy fun h₃ h2₃ hs₃=>wpAny_pure (wpAny_pure (wpAny_pure ?_)))
 dsimp only
 refine wpAny_bind (wpAny_newTuple (hsz:=by show 2<=sizeLine;decide) ?_)
 have hsz:h₃.objs.size=s.heap.objs.size:=by rw[hs₃.1,hs₂.1,hs₁.1]
 have hz₃:kI h₃ z TI TO T true:=hs₃.extBut _ _ D.i2z.symm (hs₂.extBut _ _ D.i1z.symm hz₁)
 have hk:∀c o,c≠z->c≠i1->c≠i2->s.heap.get? c=some o->h₃.get? c=some o:=fun c o c1 c3 c4 e=>hs₃.extBut _ _ c4 (hs₂.extBut _ _ c3 (hs₁.extBut _ _ c1 e))
 have h1₃:h₃.IsListIter i1 l1 (k1+1):=h1₂.extBut hs₃.extBut D.i12
 refine wpAny_pure ⟨_,rfl,wpAny_pure ?_⟩
 show Q (some (.ref h₃.objs.size)) _
 have hT3:IsPair (h₃.push {cls:=.type "tuple",data:=.seq #[x,y]}) h₃.objs.size x y:=Heap.get?_push_size _ rfl
 have fin:=hQ (h₃.push {cls:=.type "tuple",data:=.seq #[x,y]}) (Heap.get?_push_of_some _ hz₃) (h1₃.at fun o e=>Heap.get?_push_of_some _ e) (h2₃.at fun o e=>Heap.get?_push_of_some _ e) (by rw[←hsz];exact hT3) fun c o c1 c3 c4 e=>Heap.get?_push_of_some _ (hk c o c1 c3 c4 e)
 rw[←hsz]at fin
 exact fin
theorem sI{z TI TO i1 i2 l1 l2 T:Addr}{flag:Bool}{oT:Obj}{k1:Nat}{xs:Array Value}{Q:Option Value->Shared->Prop}(hh:A.handled=none)(D:ZipApart z TI TO i1 i2 l1 l2)
  (hz:kI s.heap z TI TO T flag) (hT:s.heap.get? T=some oT) (hTI:IsPair s.heap TI (.ref i1) (.ref i2))
  (h1:s.heap.IsListIter i1 l1 k1) (hl1:s.heap.IsList l1 xs) (hx:xs[k1]?=none)
  (hQ:∀h',(∀c o,c≠z->c≠i1->c≠i2->s.heap.get? c=some o->h'.get? c=some o)->Q none {s with heap:=h'}) :
  wpAny (model prog w) A (pyNext (.ref z)) Q E s:=by
 have hTy:s.TypeIs (.ref z) "zip":=⟨_,hz,rfl⟩
 unfold pyNext
 refine wpAny_bind (wpAny_attempt (wpAny_callSpecial?_slot (name:=Str.ofString "__next__") hTy PySem.F.slot_zip_next
  (wpAny_call_entry PySem.F.slot_zip_next hTy PySem.F.entry_zip_next ?_ (PySem.F.args_zip_next_1 _))))
 show wpAny _ _ (field (.ref z) 2>>=_) _ _ _
 refine wpAny_bind (wpAny_field hz rfl (x:=.bool false) rfl ?_)
 show wpAny _ _ (field (.ref z) 3>>=_) _ _ _
 refine wpAny_bind (wpAny_field hz rfl (x:=.ref TI) rfl ?_)
 refine wpAny_bind (wpAny_seqItems hTI rfl ?_)
 show wpAny _ _ (Builtin.SmallTypes.ownedTupleIsFree (.ref z)>>=_) _ _ _
 refine wpAny_bind (ir hz hT fun h₁ hz₁ hs₁=>?_)
 simp only[Bool.false_eq_true,if_false]
 refine wpAny_bind ?_
 simp only[←Array.forIn_toList,List.forIn_cons,List.forIn_nil]
 refine wpAny_bind (wpAny_bind (wpAny_holding ?_))
 show wpAny _ _ (Builtin.SmallTypes.nextOf (.ref i1)>>=_) _ _ _
 refine wpAny_bind (wpAny_nextOf_list_end hh (h1.extBut hs₁.extBut D.i1z) (hl1.extBut hs₁.extBut D.l1z) hx fun h₂ e hs₂ he=>?_)
 obtain⟨oe,hoe,hce⟩:=he
 refine wpAny_bind (wpAny_isInstance (T:="StopIteration") (b:=true) ⟨oe,hoe,hce⟩ isSubtype_stop ?_)
 exact wpAny_pure (hQ _ fun c o c1 c2 _ e'=>hs₂ _ _ c2 (hs₁.extBut _ _ c1 e'))
end
theorem oY:typeLookup (.type "zip") "__len__"=pure none:=by rw[typeLookup_type,builtinLookup_eq_fast];kernel_rfl
theorem nt:typeLookup (.type "zip") "__length_hint__"=pure none:=by rw[typeLookup_type,builtinLookup_eq_fast];kernel_rfl
structure JD(h:Heap) (z TI TO i1 i2 l1 l2 lo:Nat) (xs ys:Array Value) (i:Nat):Prop where
 ti:IsPair h TI (.ref i1) (.ref i2)
 it1:h.IsListIter i1 l1 i
 it2:h.IsListIter i2 l2 i
 ls1:h.IsList l1 xs
 ls2:h.IsList l2 ys
 st:(i=0/\IsZip h z TI TO .none/\∃a b,IsPair h TO a b)\/∃(T:Nat) (flag:Bool) (oT:Obj),kI h z TI TO T flag/\h.get? T=some oT/\lo<=T
structure gS(h:Heap) (lo:Nat) (xs ys:Array Value) (as:List Nat):Prop where
 rise:as.Pairwise (· < ·)
 low:∀a∈as,lo<=a
 pairs:∀(j:Nat) (a:Nat),as[j]?=some a->∃x y,xs[j]?=some x/\ys[j]?=some y/\IsPair h a x y
theorem gS.lt{h:Heap}{lo:Nat}{xs ys:Array Value}{as:List Nat}(g:gS h lo xs ys as){a:Nat}(ha:a∈as):a<h.objs.size:=by
 obtain⟨j,hj⟩:=List.mem_iff_getElem?.mp ha
 obtain⟨_,_,_,_,e⟩:=g.pairs j a hj
 exact Heap.lt_size e
theorem gS.keep{h h':Heap}{lo:Nat}{xs ys:Array Value}{as:List Nat}(g:gS h lo xs ys as)(k:∀c o,lo<=c->h.get? c=some o->h'.get? c=some o):gS h' lo xs ys as :=
 ⟨g.rise,g.low,fun j a e=>by
  obtain⟨x,y,e1,e2,e3⟩:=g.pairs j a e
  exact⟨x,y,e1,e2,k a _ (g.low a (List.mem_of_getElem? e)) e3⟩⟩
theorem gS.snoc{h h':Heap}{lo:Nat}{xs ys:Array Value}{as:List Nat}{n:Nat}{x y:Value}(g:gS h lo xs ys as)(k:∀c o,lo<=c->h.get? c=some o->h'.get? c=some o)(hn:lo<=n)(hn2:h.objs.size<=n)(hx:xs[as.length]?=some x)(hy:ys[as.length]?=some y)(hp:IsPair h' n x y) :
  gS h' lo xs ys (as++[n]):=by
 have g':=g.keep k
 refine⟨List.pairwise_append.mpr ⟨g.rise,List.pairwise_singleton _ _,fun a ha b hb=>?_⟩,fun a ha=>?_,fun j a e=>?_⟩
 ·rw[List.mem_singleton.mp hb];exact Nat.lt_of_lt_of_le (g.lt ha) hn2
 ·rcases List.mem_append.mp ha with h|h
  ·exact g.low a h
  ·rw[List.mem_singleton.mp h];exact hn
 ·rcases Nat.lt_trichotomy j as.length with hj|hj|hj
  ·rw[List.getElem?_append_left hj]at e;exact g'.pairs j a e
  ·subst hj
   rw[List.getElem?_append_right (Nat.le_refl _),Nat.sub_self]at e
   cases e
   exact⟨x,y,hx,hy,hp⟩
  ·rw[List.getElem?_eq_none (by rw[List.length_append,List.length_singleton];omega)]at e;cases e
section
variable {prog:Program}{w:World}{A:Around}{R:Result->Shared->Prop}{s:Shared}
end
section
variable {prog:Program}{w:World}{A:Around}{E:Value->Shared->Prop}{s:Shared}
end
section
variable {X:Cx}{pins:List (Addr×Obj)}{σ:St}{H H':Hp}{s:Shared}{h':Heap}
theorem Inv.grow{t':Nat}(I:Inv X pins σ H s)(k:∀b u,s.heap.get? b=some u->h'.get? b=some u)(hH:∀b,b<s.heap.objs.size->H' b=H b)
  (hnew:∀b o,s.heap.objs.size<=b->H' b=some o->di X.prog X.w H' h' b o):Inv X pins σ H' {s with heap:=h',toks:=t'}:=by
 have up:∀b o,H b=some o->H' b=some o:=fun b o e=>by rw[hH b (I.hok.lt e)];exact e
 refine I.un (h':=h') ⟨fun b o e _ _ _=>k b o e,fun b o e _ _ _=>⟨o.slots,k b o e⟩,fun b o e n _=>by rw[hH b (Heap.lt_size e)];exact n,fun b o e _=>⟨o,k b o e⟩,fun b xs e=>up b _ e,fun b o u e=>up b _ e,fun b ps e=>⟨#[],by rw[up b _ e];simp⟩⟩ fun b o e=>?_
 by_cases hb:b<s.heap.objs.size
 ·rw[hH b hb]at e
  exact(I.hok b o e).stay (fun c u _ q=>k c u q) (fun c q=>up c _ q) fun c xs q=>up c _ q
 ·exact hnew b o (Nat.not_lt.mp hb) e
end
noncomputable def jD:List Nat->List V->List V->Hp->Hp
 |a::as,x::xs,y::ys,H=>upd (jD as xs ys H) a (.tup [x,y])
 |_,_,_,H=>H
theorem uD{H:Hp}{b:Nat}:∀(as:List Nat) (xs ys:List V),b∉as->jD as xs ys H b=H b
 | [],_,_,_=>by unfold jD;rfl
 |a::as,[],_,_=>by unfold jD;rfl
 |a::as,_::_,[],_=>by unfold jD;rfl
 |a::as,x::xs,y::ys,h=>by
  unfold jD
  rw[au (fun z=>h (by rw[z];exact List.mem_cons_self))]
  exact uD as xs ys fun z=>h (List.mem_cons_of_mem _ z)
theorem xW{H:Hp}:∀(as:List Nat) (xs ys:List V),as.Pairwise (· < ·)->∀(j:Nat) (u:Nat) (x y:V),as[j]?=some u->xs[j]?=some x->ys[j]?=some y->jD as xs ys H u=some (.tup [x,y])
 | [],_,_,_,j,u,x,y,h,_,_=>by simp at h
 |a::as,[],_,_,j,u,x,y,_,h,_=>by simp at h
 |a::as,_::_,[],_,j,u,x,y,_,_,h=>by simp at h
 |a::as,x0::xs,y0::ys,hp,0,u,x,y,h1,h2,h3=>by
  simp at h1 h2 h3
  subst h1 h2 h3
  unfold jD
  exact ah
 |a::as,x0::xs,y0::ys,hp,j+1,u,x,y,h1,h2,h3=>by
  simp at h1 h2 h3
  have hu:a<u:=(List.pairwise_cons.mp hp).1 u (List.mem_of_getElem? h1)
  unfold jD
  rw[au (Nat.ne_of_gt hu)]
  exact xW as xs ys (List.pairwise_cons.mp hp).2 j u x y h1 h2 h3
theorem qJ{H:Hp}{b:Nat}{o:HO}:∀(as:List Nat) (xs ys:List V),jD as xs ys H b=some o->H b=some o\/∃(j:Nat) (x y:V),as[j]?=some b/\xs[j]?=some x/\ys[j]?=some y/\o=.tup [x,y]
 | [],_,_,h=>by unfold jD at h;exact .inl h
 |a::as,[],_,h=>by unfold jD at h;exact .inl h
 |a::as,_::_,[],h=>by unfold jD at h;exact .inl h
 |a::as,x::xs,y::ys,h=>by
  unfold jD at h
  by_cases hb:b=a
  ·subst hb
   rw[ah]at h
   cases h
   exact .inr ⟨0,x,y,rfl,rfl,rfl,rfl⟩
  ·rw[au hb]at h
   rcases qJ as xs ys h with e|⟨j,x',y',e1,e2,e3,e4⟩
   ·exact .inl e
   ·exact .inr ⟨j+1,x',y',by simpa using e1,by simpa using e2,by simpa using e3,e4⟩
section
variable {X:Cx}{a b:Expr}{t:TA}{p1 p2 p3 p4:Pos}
theorem mX:∀(as:List Nat),Vals (as.map V.ref) (as.map Value.ref)
 | []=>.nil
 |_::r=>.cons rfl (mX r)
end
section
variable {X:Cx}{tg:Expr}
end
section
variable {X:Cx}
theorem xX:∀{ys:List Str}{us:List Value},Vals (ys.map V.str) us->StrsAre us ys
 | [],_,.nil=>.nil
 |_::_,_,.cons ⟨t,e⟩ r=>by subst e;exact .cons _ t (xX r)
noncomputable def rJoin(K:PySem.W.Frag):V->List V->Hp->VK->Prop:=fun x vs H Q=>∃z p ys,x=.str z/\vs=[.ref p]/\cR K H p (ys.map V.str)/\(ys.map (·.length)).sum+ys.length*z.length<=16777216/\Q (.str (Txt.join z ys)) H
theorem CT:G0 X "str.join" (rJoin X.K):=by
 intro pins s σ H x xs v us Q I rx rs h
 obtain⟨z,p,ys,rfl,rfl,hq,hb,q⟩:=h
 obtain⟨t,rfl⟩:=rx
 obtain⟨u,rfl,ru⟩:=vals1 rs
 cases ru
 obtain⟨its,rv,pl,hz⟩:=I.list hq
 exact join_list pl.isList (by simpa using xX rv) hb fun t' k=>⟨.str _,H,I.tok _,⟨_,rfl⟩,q⟩
theorem uE:∀{bs:List Bool}{us:List Value},Vals (bs.map V.bl) us->LSm.BoolsAre us bs
 | [],_,.nil=>.nil
 |_::_,_,.cons e r=>by cases e;exact .cons _ (uE r)
theorem AF(hc:X.calm=true):kL X (.builtin "all") (fun xs H Q=>∃(p:Addr) (bs:List Bool),xs=[.ref p]/\cR X.K H p (bs.map V.bl)/\Q (.bl (bs.all id)) H):=by
 intro pins s σ H xs us Q I r h
 obtain⟨p,bs,rfl,hq,q⟩:=h
 obtain⟨u,rfl,ru⟩:=vals1 r
 cases ru
 obtain⟨its,rv,pl,hz⟩:=I.list hq
 have hb:=uE rv
 have hl:=pl.isList
 have hlt:p<s.heap.objs.size:=by obtain⟨_,e,_⟩:=hl;exact Heap.lt_size e
 refine call_all_walk (wpAny_pyIter_list hl ?_)
 refine⟨s.heap.objs.size,[s.heap.objs.size,p],[s.heap.objs.size],its.toArray.size,_,_,fun i=>(bs[i]?).getD true,rfl,Walks.list (A:=X.A.in1) (I.ok.hd hc) _ p (Nat.ne_of_lt hlt) its.toArray,
  ⟨⟨_,Heap.get?_push_size _ rfl,rfl,rfl⟩,hl.push _⟩,fun i v s' Q' E' hP hQ=>?_,fun h' tk hk=>?_⟩
 ·obtain⟨b,e,rfl⟩:=hb.get i v (by simpa using hP)
  simp only[e,Option.getD_some]at hQ
  exact wpAny_truthy_bool hQ
 ·have e:((List.range its.toArray.size).all fun i=>(bs[i]?).getD true)=bs.all id:=by
   rw[List.size_toArray,hb.length];exact LSm.range_all bs
  rw[e]
  exact⟨.bl _,H,I.kept (LSm.kept_iter hk),rfl,q⟩
noncomputable def IX:V->Option Int->Option Int->Hp->VK->Prop:=fun x lo hi H Q=>∃z,x=.str z/\z.length<=sizeLine/\Q (.str (Txt.slice z lo hi)) H
theorem part_of{v:Value}{o:Option Int}(h:IsPart v o):∃p:Option (Int×Tok),v=partValue p/\p.map (·.1)=o:=by
 cases h with
 |none=>exact⟨none,rfl,rfl⟩
 |int i t=>exact⟨some (i,t),rfl,rfl⟩
theorem AG:Il X IX:=by
 intro pins s σ H x v vl vu lo hi sl Q I rx hs pl pu h
 obtain⟨z,rfl,hz,q⟩:=h
 obtain⟨t,rfl⟩:=rx
 obtain⟨p1,rfl,e1⟩:=part_of pl
 obtain⟨p2,rfl,e2⟩:=part_of pu
 refine⟨"str",_,PySem.F.slot_str_getitem.lookup,typeIs_str s z t,?_⟩
 refine wpAny_getItem_str_slice (l:=p1) (u:=p2) (st:=none) hs rfl ?_
 subst e1 e2
 cases p1<;>cases p2<;>exact post_val_or_str ⟨Nat.le_trans (Txt.slice_le z _ _) hz,fun t' k=>⟨.str _,H,I.tok _,⟨_,rfl⟩,q⟩⟩
end
noncomputable def nu(xs:List V)(lo hi st:Option Int):List V:=(sliceRange (sliceBounds lo hi st xs.length).1 (sliceBounds lo hi st xs.length).2.1 (sliceBounds lo hi st xs.length).2.2).filterMap (xs[·]?)
theorem mY{xs:List V}{us:List Value}(r:Vals xs us):∀ix:List Nat,Vals (ix.filterMap (xs[·]?)) (ix.filterMap (us[·]?))
 | []=>.nil
 |i::ix=>by
  rw[List.filterMap_cons,List.filterMap_cons]
  cases e:xs[i]? with
  |none=>rw[r.none_of e];exact mY r ix
  |some x =>
   obtain⟨u,e2,rx⟩:=r.get e
   rw[e2]
   exact .cons rx (mY r ix)
section
variable {X:Cx}{e st:Expr}{lo hi:Option Expr}{te:TE}{tl th tk:TO}{p2 pos:Pos}
noncomputable def IY(K:PySem.W.Frag)(te:TE)(tl th tk:TO):TE:=fun σ H Q=>te σ H fun x H1=>tl σ H1 fun l H2=>th σ H2 fun u H3=>tk σ H3 fun k H4=>∃a xs,x=.ref a/\cR K H4 a xs/\k≠some 0/\(nu xs l u k).length<=sizeLine /\
 ∀p,H4 p=none->Q (.ref p) (upd H4 p (.lst (nu xs l u k)))
theorem qK(he:PE X e te)(hl:PO X lo tl)(hu:PO X hi th)(hk:PO X (some st) tk):PE X (.Subscript e (.Slice lo hi (some st) p2) pos) (IY X.K te tl th tk):=by
 intro pins s σ H Q I h
 refine Subscript_ (bP (he pins s σ H _ I h) fun v s1 ⟨x,H1,I1,r1,q1⟩=>?_)
 refine wpAny_Slice (bP (hl pins s1 σ H1 _ I1 q1) fun vl s2 ⟨l,H2,I2,pl,q2⟩=>bP (hu pins s2 σ H2 _ I2 q2) fun vu s3 ⟨u,H3,I3,pu,q3⟩=>bP (hk pins s3 σ H3 _ I3 q3) fun vk s4 ⟨k,H4,I4,pk,q4⟩=>?_)
 obtain⟨a,xs,rfl,hx,k0,hz2,q⟩:=q4
 cases r1
 have I5:Inv X pins σ H4 {s4 with heap:=s4.heap.push {cls:=.type "slice",data:=.fields #[vl,vu,vk]}}:=I4.kept (t':=s4.toks) fun b ob q=>Heap.get?_push_of_some _ q
 obtain⟨its,r,ht,hz⟩:=I5.list hx
 have hlen:=r.length
 refine tail_any (T:="list") (ops:=[.ref a,.ref s4.heap.objs.size]) ht.isList.typeIs slot_list_getitem.lookup ?_ (by with_unfolding_all rfl)
 refine wpAny_getItem_list_slice ht.isList (Heap.IsSliceOf.new ..) pl pu pk k0 ?_ (by rw[List.size_toArray]<;>omega)
 have ep:slicePick its.toArray l u k=((sliceRange (sliceBounds l u k xs.length).1 (sliceBounds l u k xs.length).2.1 (sliceBounds l u k xs.length).2.2).filterMap (its[·]?)).toArray:=by
  unfold slicePick
  rw[List.size_toArray,←hlen]
  simp
 rw[ep]
 refine⟨.ref _,_,I5.laid (t':=s4.toks) (o:=.lst (nu xs l u k)) (fun b ob q=>Heap.get?_push_of_some _ q) (Nat.le_refl _) ?_,rfl,q _ (I5.hok.fresh (Nat.le_refl _))⟩
 exact⟨hz2,_,0,mY r _,Heap.get?_push_size _ rfl⟩
end
theorem CU{xs:List V}{lo hi st:Option Int}{ix:List Nat}(h:sliceRange (sliceBounds lo hi st xs.length).1 (sliceBounds lo hi st xs.length).2.1 (sliceBounds lo hi st xs.length).2.2=ix):nu xs lo hi st=ix.filterMap (xs[·]?):=by
 unfold nu
 rw[h]
noncomputable def CV:Expr->Option Str
 |.Constant (.str x) _ _=>some x
 |_=>none
noncomputable def strsOf:List Expr->Option (List Str)
 | []=>some []
 |e::r=>(CV e).bind fun x=>(strsOf r).map (x::·)
noncomputable def xY(xs:List Str):TA:=fun _ H Q=>Q (xs.map V.str) H
theorem CW{e:Expr}{x:Str}(h:CV e=some x):∃j p,e=.Constant (.str x) j p:=by
 unfold CV at h
 split at h
 ·cases h;exact⟨_,_,rfl⟩
 ·cases h
theorem sJ{X:Cx}{es:List Expr}:∀{xs:List Str},strsOf es=some xs->PA X es (xY xs):=by
 induction es with
 |nil=>intro xs h;cases h;exact aj
 |cons e r ih =>
  intro xs h
  unfold strsOf at h
  cases h1:CV e with
  |none=>rw[h1]at h;cases h
  |some x =>
   cases h2:strsOf r with
   |none=>rw[h1,h2]at h;cases h
   |some ys =>
    rw[h1,h2]at h
    cases h
    obtain⟨j,p,rfl⟩:=CW h1
    exact aU aq (ih h2) rfl
end L2
namespace L2
open PySem PySem.Spec PyProof.Rows PySem.SeqAt
section
variable {X:Cx}
end
mutual
noncomputable def Rp(K:PySem.W.Frag)(H:Hp):T->V->Prop
 |.s x,v=>v=.str x
 |.i n,v=>v=.int n
 |.n,v=>v=.eW
 |.t xs,v=>∃a vs,v=.ref a/\bT K H a vs/\bB K H xs vs
noncomputable def bB(K:PySem.W.Frag)(H:Hp):List T->List V->Prop
 | [],vs=>vs=[]
 |x::r,vs=>∃v q,vs=v::q/\Rp K H x v/\bB K H r q
end
noncomputable def Kt(H H':Hp):Prop:=∀a xs,Rd H a (.tup xs)->Rd H' a (.tup xs)
theorem Kt.refl{H:Hp}:Kt H H:=fun _ _ h=>h
theorem Kt.trans{H H1 H2:Hp}(a:Kt H H1)(b:Kt H1 H2):Kt H H2:=fun c xs h=>b c xs (a c xs h)
theorem Kt.same{H H':Hp}(s:br H H'):Kt H H':=fun a xs h=>h.elim (fun e=>.inl (s _ _ e)) fun⟨o,e⟩=>.inr ⟨o,s _ _ e⟩
theorem Kt.new{H:Hp}{p:Addr}(h:H p=none)(o:HO):Kt H (upd H p o):=fun a xs r=>r.elim (fun e=>.inl (by rw[au (aF e h)];exact e)) fun⟨u,e⟩=>.inr ⟨u,by rw[au (aF e h)];exact e⟩
theorem Kt.upd{H:Hp}{l:Addr}{u:HO}(h:H l=some u)(h1:∀xs,u≠.tup xs)(h2:∀o xs,u≠.frz o (.tup xs))(o:HO):Kt H (upd H l o):=fun a xs r=>by
 rcases r with e|⟨p,e⟩
 ·exact .inl (by rw[au (cF e h fun z=>h1 _ z.symm)];exact e)
 ·exact .inr ⟨p,by rw[au (cF e h fun z=>h2 _ _ z.symm)];exact e⟩
theorem Kt.lst{H:Hp}{l:Addr}{xs:List V}(h:H l=some (.lst xs))(o:HO):Kt H (L2.upd H l o):=Kt.upd h (fun _ z=>nomatch z) (fun _ _ z=>nomatch z) o
section
variable {K:PySem.W.Frag}{H H':Hp}
theorem bT.kt(k:Kt H H'){a:Addr}{xs:List V}(h:bT K H a xs):bT K H' a xs:=h.elim (fun e=>.inl (k _ _ e)) .inr
theorem bB.all(f:∀{x v},Rp K H x v->Rp K H' x v):∀{xs:List T}{vs:List V},bB K H xs vs->bB K H' xs vs
 | [],vs,h=>by unfold bB at h⊢;exact h
 |x::r,vs,h=>by
  unfold bB at h⊢
  obtain⟨v,q,e,h1,h2⟩:=h
  exact⟨v,q,e,f h1,bB.all f h2⟩
theorem bB.nil:bB K H [] []:=by unfold bB;rfl
theorem bB.cons{x:T}{v:V}{r:List T}{q:List V}(h:Rp K H x v)(t:bB K H r q):bB K H (x::r) (v::q):=by unfold bB;exact⟨v,q,rfl,h,t⟩
theorem bB.inv{x:T}{r:List T}{vs:List V}(h:bB K H (x::r) vs):∃v q,vs=v::q/\Rp K H x v/\bB K H r q:=by unfold bB at h;exact h
theorem bB.cZ{vs:List V}(h:bB K H [] vs):vs=[]:=by unfold bB at h;exact h
theorem Rp.s{x:Str}:Rp K H (.s x) (.str x):=by unfold Rp;rfl
theorem Rp.i{n:Int}:Rp K H (.i n) (.int n):=by unfold Rp;rfl
theorem Rp.eW:Rp K H .n .eW:=by unfold Rp;rfl
theorem Rp.t{xs:List T}{vs:List V}{a:Addr}(h:bT K H a vs)(r:bB K H xs vs):Rp K H (.t xs) (.ref a):=by unfold Rp;exact⟨a,vs,rfl,h,r⟩
theorem Rp.aD{x:Str}{v:V}(h:Rp K H (.s x) v):v=.str x:=by unfold Rp at h;exact h
theorem Rp.dj{n:Int}{v:V}(h:Rp K H (.i n) v):v=.int n:=by unfold Rp at h;exact h
theorem Rp.bj{xs:List T}{v:V}(h:Rp K H (.t xs) v):∃a vs,v=.ref a/\bT K H a vs/\bB K H xs vs:=by unfold Rp at h;exact h
theorem Rp.kt(k:Kt H H'){x:T}:∀{v:V},Rp K H x v->Rp K H' x v:=by
 induction x using T.induct with
 |hs x=>intro v h;rw[h.aD];exact .s
 |hi x=>intro v h;rw[h.dj];exact .i
 |hn=>intro v h;unfold Rp at h;rw[h];exact .eW
 |ht xs ih =>
  intro v h
  obtain⟨a,vs,rfl,hs,hr⟩:=h.bj
  refine .t (hs.kt k) ?_
  clear hs h
  induction xs generalizing vs with
  |nil=>rw[hr.cZ];exact .nil
  |cons x r ih2 =>
   obtain⟨v,q,rfl,h1,h2⟩:=hr.inv
   exact .cons (ih x (.head _) h1) (ih2 (fun y hy=>ih y (.tail _ hy)) _ h2)
theorem bB.kt(k:Kt H H'){xs:List T}{vs:List V}(h:bB K H xs vs):bB K H' xs vs:=bB.all (fun h=>h.kt k) h
theorem bB.length:∀{xs:List T}{vs:List V},bB K H xs vs->vs.length=xs.length
 | [],vs,h=>by rw[h.cZ];rfl
 |x::r,vs,h=>by
  obtain⟨v,q,rfl,_,h2⟩:=h.inv
  rw[List.length_cons,List.length_cons,bB.length h2]
theorem bB.get:∀{xs:List T}{vs:List V}{i:Nat}{x:T},bB K H xs vs->xs[i]?=some x->∃v,vs[i]?=some v/\Rp K H x v
 | [],vs,i,x,h,e=>by simp at e
 |x::r,vs,0,y,h,e=>by
  obtain⟨v,q,rfl,h1,_⟩:=h.inv
  simp at e;subst e
  exact⟨v,rfl,h1⟩
 |x::r,vs,i+1,y,h,e=>by
  obtain⟨v,q,rfl,_,h2⟩:=h.inv
  obtain⟨w,h3,h4⟩:=bB.get (i:=i) h2 (by simpa using e)
  exact⟨w,by simpa using h3,h4⟩
theorem bB.get':∀{xs:List T}{vs:List V}{i:Nat}{v:V},bB K H xs vs->vs[i]?=some v->∃x,xs[i]?=some x/\Rp K H x v:=fun{xs vs i v} h e=>by
 have l:=h.length
 have hi:i<xs.length:=by
  rcases Nat.lt_or_ge i vs.length with z|z
  ·omega
  ·rw[List.getElem?_eq_none_iff.mpr z]at e;cases e
 obtain⟨w,h1,h2⟩:=h.get (List.getElem?_eq_getElem hi)
 rw[e]at h1;cases h1
 exact⟨_,List.getElem?_eq_getElem hi,h2⟩
theorem bB.append:∀{xs ys:List T}{vs ws:List V},bB K H xs vs->bB K H ys ws->bB K H (xs++ys) (vs++ws)
 | [],ys,vs,ws,h,g=>by rw[h.cZ];exact g
 |x::r,ys,vs,ws,h,g=>by
  obtain⟨v,q,rfl,h1,h2⟩:=h.inv
  exact .cons h1 (bB.append h2 g)
theorem bB.one{x:T}{v:V}(h:Rp K H x v):bB K H [x] [v]:=.cons h .nil
theorem bB.snoc{xs:List T}{vs:List V}{x:T}{v:V}(h:bB K H xs vs)(g:Rp K H x v):bB K H (xs++[x]) (vs++[v]):=h.append (.one g)
theorem bB.take:∀{xs:List T}{vs:List V}(n:Nat),bB K H xs vs->bB K H (xs.take n) (vs.take n)
 |xs,vs,0,h=>.nil
 | [],vs,n+1,h=>by rw[h.cZ];exact .nil
 |x::r,vs,n+1,h=>by
  obtain⟨v,q,rfl,h1,h2⟩:=h.inv
  exact .cons h1 (bB.take n h2)
theorem bB.split:∀{xs ys:List T}{vs:List V},bB K H (xs++ys) vs->∃ws us,vs=ws++us/\bB K H xs ws/\bB K H ys us
 | [],ys,vs,h=>⟨[],vs,rfl,.nil,h⟩
 |x::r,ys,vs,h=>by
  obtain⟨v,q,rfl,h1,h2⟩:=bB.inv h
  obtain⟨ws,us,rfl,h3,h4⟩:=bB.split h2
  exact⟨v::ws,us,rfl,.cons h1 h3,h4⟩
theorem bB.reverse:∀{xs:List T}{vs:List V},bB K H xs vs->bB K H xs.reverse vs.reverse
 | [],vs,h=>by rw[h.cZ];exact .nil
 |x::r,vs,h=>by
  obtain⟨v,q,rfl,h1,h2⟩:=h.inv
  rw[List.reverse_cons,List.reverse_cons]
  exact(bB.reverse h2).snoc h1
theorem bB.strs:∀(xs:List Str),bB K H (xs.map .s) (xs.map .str)
 | []=>.nil
 |_::r=>.cons .s (bB.strs r)
end
section
variable {X:Cx}{pins:List (Addr×Obj)}{σ:St}{H:Hp}{s:Shared}
theorem Rp.inj(I:Inv X pins σ H s)(a:T):∀(b:T) {v:V},Rp X.K H a v->Rp X.K H b v->a=b:=by
 induction a using T.induct with
 |hs x =>
  intro b v h g
  rw[h.aD]at g
  cases b with
  |s y=>have z:=g.aD;injection z with z;rw[z]
  |i y=>have z:=g.dj;cases z
  |n=>unfold Rp at g;cases g
  |t ys=>obtain⟨_,_,z,_⟩:=g.bj;cases z
 |hi x =>
  intro b v h g
  rw[h.dj]at g
  cases b with
  |s y=>have z:=g.aD;cases z
  |i y=>have z:=g.dj;injection z with z;rw[z]
  |n=>unfold Rp at g;cases g
  |t ys=>obtain⟨_,_,z,_⟩:=g.bj;cases z
 |hn =>
  intro b v h g
  unfold Rp at h
  rw[h]at g
  cases b with
  |s y=>have z:=g.aD;cases z
  |i y=>have z:=g.dj;cases z
  |n=>rfl
  |t ys=>obtain⟨_,_,z,_⟩:=g.bj;cases z
 |ht xs ih =>
  intro b v h g
  obtain⟨p,vs,rfl,hs,hr⟩:=h.bj
  cases b with
  |t ys =>
   obtain⟨p',ws,e,hs',hr'⟩:=g.bj
   cases e
   have e:=I.qB hs hs'
   subst e
   congr 1
   clear hs hs' h g
   induction xs generalizing ys vs with
   |nil =>
    have z:=hr.cZ
    subst z
    cases ys with
    |nil=>rfl
    |cons y q=>obtain⟨_,_,z,_⟩:=hr'.inv;cases z
   |cons x r ih2 =>
    obtain⟨v,q,rfl,h1,h2⟩:=hr.inv
    cases ys with
    |nil=>cases hr'.cZ
    |cons y q' =>
     obtain⟨v',q'',e,h1',h2'⟩:=hr'.inv
     cases e
     rw[ih x (.head _) y h1 h1',ih2 (fun z hz=>ih z (.tail _ hz)) _ h2 _ h2']
  |_=>unfold Rp at g;cases g
theorem aY{h:Heap}{a:Addr}{its:Array Value}(p:IsTup h a its):h.IsTuple a its:=p
theorem qL{us:List V}{its:List Value}(r:Vals us its){j:Nat}{v:V}(e:us[j]?=some v){h:j<its.toArray.size}:RelV v its.toArray[j]:=by
 obtain⟨u,h1,h2⟩:=r.get e
 have z:its.toArray[j]=u:=by
  have q:its[j]?=some its.toArray[j]:=by
   rw[List.getElem?_eq_getElem (by simpa using h)]
   simp
  rw[h1]at q
  exact(Option.some.inj q).symm
 rw[z];exact h2
noncomputable def xZ(s:Shared)(K:PySem.W.Frag)(H:Hp)(x:T):Prop:=∀(b:T) {u v:V}{u' v':Value}(A:Around),A.units+x.dep<cLine->Rp K H x u->Rp K H b v->RelV u u'->RelV v v'->EqAt A s u' v' (x.eqB b)
theorem qM{xs ys:List T}{us ws:List V}{its its':List Value}{A:Around}(ih:∀x∈xs,xZ s X.K H x)(hu:A.units+T.cA xs<cLine)(hr:bB X.K H xs us)(hr':bB X.K H ys ws)(r:Vals us its)(r':Vals ws its')
  (j:Nat) (h1:j<its.toArray.size) (h2:j<its'.toArray.size):EqAt A s its.toArray[j] its'.toArray[j] (T.eqB (xs.getD j .n) (ys.getD j .n)):=by
 have l1:us.length=its.length:=r.length
 have l2:ws.length=its'.length:=r'.length
 have l3:=hr.length
 have l4:=hr'.length
 have h1':j<its.length:=by simpa using h1
 have h2':j<its'.length:=by simpa using h2
 have hx:j<xs.length:=by omega
 have hy:j<ys.length:=by omega
 obtain⟨v,hv,rv⟩:=hr.get (List.getElem?_eq_getElem hx)
 obtain⟨w,hw,rw'⟩:=hr'.get (List.getElem?_eq_getElem hy)
 have e1:xs.getD j .n=xs[j]:=by simp[hx]
 have e2:ys.getD j .n=ys[j]:=by simp[hy]
 rw[e1,e2]
 exact ih _ (List.getElem_mem hx) _ A (Nat.lt_of_le_of_lt (Nat.add_le_add_left (T.AA (List.getElem_mem hx)) _) hu) rv rw' (qL r hv) (qL r' hw)
theorem qN(I:Inv X pins σ H s){xs ys:List T}{us ws:List V}{p q:Addr}{A:Around}(ih:∀x∈xs,xZ s X.K H x)(hu:A.units+1+T.cA xs<cLine)(hs:bT X.K H p us)(hr:bB X.K H xs us)(hs':bT X.K H q ws)(hr':bB X.K H ys ws) :
  RcAt A s (.ref p) (.ref q) (T.nO xs ys):=by
 obtain⟨its,r,it,_⟩:=I.tuple hs
 obtain⟨its',r',it',_⟩:=I.tuple hs'
 have z:=RcAt.tuples (A:=A) (aY it) (aY it') (by omega) (e:=fun j=>T.eqB (xs.getD j .n) (ys.getD j .n)) (qM (A:=A.in1) ih (by show A.units+1+_<_;exact hu) hr hr' r r')
 have l1:us.length=its.length:=r.length
 have l2:ws.length=its'.length:=r'.length
 have l3:=hr.length
 have l4:=hr'.length
 rw[T.lC]
 have e1:its.toArray.size=xs.length:=by simp;omega
 have e2:its'.toArray.size=ys.length:=by simp;omega
 rw[e1,e2]at z
 exact z
theorem uF(I:Inv X pins σ H s){xs ys:List T}{us ws:List V}{p q:Addr}{A:Around}(ih:∀x∈xs,xZ s X.K H x)(hu:A.units+1+T.cA xs<cLine)(hs:bT X.K H p us)(hr:bB X.K H xs us)(hs':bT X.K H q ws)(hr':bB X.K H ys ws) :
  RcNeAt A s (.ref p) (.ref q) (!T.nO xs ys):=by
 obtain⟨its,r,it,_⟩:=I.tuple hs
 obtain⟨its',r',it',_⟩:=I.tuple hs'
 have z:=RcNeAt.tuples (A:=A) (aY it) (aY it') (by omega) (e:=fun j=>T.eqB (xs.getD j .n) (ys.getD j .n)) (qM (A:=A.in1) ih (by show A.units+1+_<_;exact hu) hr hr' r r')
 have l1:us.length=its.length:=r.length
 have l2:ws.length=its'.length:=r'.length
 have l3:=hr.length
 have l4:=hr'.length
 rw[T.lC]
 have e1:its.toArray.size=xs.length:=by simp;omega
 have e2:its'.toArray.size=ys.length:=by simp;omega
 rw[e1,e2]at z
 exact z
theorem G9(I:Inv X pins σ H s)(a:T):xZ s X.K H a:=by
 induction a using T.induct with
 |hs x =>
  intro b u v u' v' A hu h g ru rv
  rw[h.aD]at ru
  obtain⟨t,rfl⟩:=ru
  cases b with
  |s y=>rw[g.aD]at rv;obtain⟨t',rfl⟩:=rv;unfold T.eqB;exact EqAt.str_str _ _ _ _
  |i y=>rw[g.dj]at rv;obtain⟨t',rfl⟩:=rv;unfold T.eqB;exact EqAt.str_int _ _ _ _
  |n=>unfold Rp at g;rw[g]at rv;cases rv;unfold T.eqB;exact EqAt.str_none _ _
  |t ys =>
   obtain⟨q,ws,rfl,hs,hr⟩:=g.bj
   cases rv
   obtain⟨its,_,it,_⟩:=I.tuple hs
   unfold T.eqB
   exact EqAt.str_tuple _ _ (aY it) (by omega)
 |hi x =>
  intro b u v u' v' A hu h g ru rv
  rw[h.dj]at ru
  obtain⟨t,rfl⟩:=ru
  cases b with
  |s y=>rw[g.aD]at rv;obtain⟨t',rfl⟩:=rv;unfold T.eqB;exact EqAt.int_str _ _ _ _
  |i y=>rw[g.dj]at rv;obtain⟨t',rfl⟩:=rv;unfold T.eqB;exact EqAt.int_int _ _ _ _
  |n=>unfold Rp at g;rw[g]at rv;cases rv;unfold T.eqB;exact EqAt.int_none _ _
  |t ys =>
   obtain⟨q,ws,rfl,hs,hr⟩:=g.bj
   cases rv
   obtain⟨its,_,it,_⟩:=I.tuple hs
   unfold T.eqB
   exact EqAt.int_tuple _ _ (aY it) (by omega)
 |hn =>
  intro b u v u' v' A hu h g ru rv
  unfold Rp at h
  rw[h]at ru
  cases ru
  cases b with
  |s y=>rw[g.aD]at rv;obtain⟨t',rfl⟩:=rv;unfold T.eqB;exact EqAt.none_str _ _
  |i y=>rw[g.dj]at rv;obtain⟨t',rfl⟩:=rv;unfold T.eqB;exact EqAt.none_int _ _
  |n=>unfold Rp at g;rw[g]at rv;cases rv;unfold T.eqB;exact EqAt.same _
  |t ys =>
   obtain⟨q,ws,rfl,hs,hr⟩:=g.bj
   cases rv
   obtain⟨its,_,it,_⟩:=I.tuple hs
   unfold T.eqB
   exact EqAt.none_tuple (aY it) (by omega)
 |ht xs ih =>
  intro b u v u' v' A hu h g ru rv
  obtain⟨p,us,rfl,hs,hr⟩:=h.bj
  cases ru
  obtain⟨its,rits,it,_⟩:=I.tuple hs
  cases b with
  |s y=>rw[g.aD]at rv;obtain⟨t',rfl⟩:=rv;unfold T.eqB;exact EqAt.tuple_str _ _ (aY it) (by omega)
  |i y=>rw[g.dj]at rv;obtain⟨t',rfl⟩:=rv;unfold T.eqB;exact EqAt.tuple_int _ _ (aY it) (by omega)
  |n=>unfold Rp at g;rw[g]at rv;cases rv;unfold T.eqB;exact EqAt.tuple_none (aY it) (by omega)
  |t ys =>
   obtain⟨q,ws,rfl,hs',hr'⟩:=g.bj
   cases rv
   by_cases e:p=q
   ·subst e
    have z:=Rp.inj I _ _ h g
    rw[z,T.AD]
    exact EqAt.same _
   ·unfold T.dep at hu
    unfold T.eqB
    exact EqAt.of_refs e (qN I ih (by omega) hs hr hs' hr')
theorem IZ(I:Inv X pins σ H s)(a b:T){u v:V}{u' v':Value}(A:Around)(hu:A.units+a.dep<cLine)(h:Rp X.K H a u)(g:Rp X.K H b v)(ru:RelV u u')(rv:RelV v v'):RcAt A s u' v' (a.eqB b)/\RcNeAt A s u' v' (!a.eqB b):=by
 cases a with
 |s x =>
  rw[h.aD]at ru
  obtain⟨t,rfl⟩:=ru
  cases b with
  |s y=>rw[g.aD]at rv;obtain⟨t',rfl⟩:=rv;unfold T.eqB;exact⟨RcAt.str_str _ _ _ _,RcNeAt.str_str _ _ _ _⟩
  |i y=>rw[g.dj]at rv;obtain⟨t',rfl⟩:=rv;unfold T.eqB;exact⟨RcAt.str_int _ _ _ _,RcNeAt.str_int _ _ _ _⟩
  |n=>unfold Rp at g;rw[g]at rv;cases rv;unfold T.eqB;exact⟨RcAt.str_none _ _,RcNeAt.str_none _ _⟩
  |t ys =>
   obtain⟨q,ws,rfl,hs,hr⟩:=g.bj
   cases rv
   obtain⟨its,_,it,_⟩:=I.tuple hs
   unfold T.eqB
   exact⟨RcAt.str_tuple _ _ (aY it) (by omega),RcNeAt.str_tuple _ _ (aY it) (by omega)⟩
 |i x =>
  rw[h.dj]at ru
  obtain⟨t,rfl⟩:=ru
  cases b with
  |s y=>rw[g.aD]at rv;obtain⟨t',rfl⟩:=rv;unfold T.eqB;exact⟨RcAt.int_str _ _ _ _,RcNeAt.int_str _ _ _ _⟩
  |i y=>rw[g.dj]at rv;obtain⟨t',rfl⟩:=rv;unfold T.eqB;exact⟨RcAt.int_int _ _ _ _,RcNeAt.int_int _ _ _ _⟩
  |n=>unfold Rp at g;rw[g]at rv;cases rv;unfold T.eqB;exact⟨RcAt.int_none _ _,RcNeAt.int_none _ _⟩
  |t ys =>
   obtain⟨q,ws,rfl,hs,hr⟩:=g.bj
   cases rv
   obtain⟨its,_,it,_⟩:=I.tuple hs
   unfold T.eqB
   exact⟨RcAt.int_tuple _ _ (aY it) (by omega),RcNeAt.int_tuple _ _ (aY it) (by omega)⟩
 |n =>
  unfold Rp at h
  rw[h]at ru
  cases ru
  cases b with
  |s y=>rw[g.aD]at rv;obtain⟨t',rfl⟩:=rv;unfold T.eqB;exact⟨RcAt.none_str _ _,RcNeAt.none_str _ _⟩
  |i y=>rw[g.dj]at rv;obtain⟨t',rfl⟩:=rv;unfold T.eqB;exact⟨RcAt.none_int _ _,RcNeAt.none_int _ _⟩
  |n=>unfold Rp at g;rw[g]at rv;cases rv;unfold T.eqB;exact⟨RcAt.none_none,RcNeAt.none_none⟩
  |t ys =>
   obtain⟨q,ws,rfl,hs,hr⟩:=g.bj
   cases rv
   obtain⟨its,_,it,_⟩:=I.tuple hs
   unfold T.eqB
   exact⟨RcAt.none_tuple (aY it) (by omega),RcNeAt.none_tuple (aY it) (by omega)⟩
 |t xs =>
  obtain⟨p,us,rfl,hs,hr⟩:=h.bj
  cases ru
  obtain⟨its,rits,it,_⟩:=I.tuple hs
  cases b with
  |s y=>rw[g.aD]at rv;obtain⟨t',rfl⟩:=rv;unfold T.eqB;exact⟨RcAt.tuple_str _ _ (aY it) (by omega),RcNeAt.tuple_str _ _ (aY it) (by omega)⟩
  |i y=>rw[g.dj]at rv;obtain⟨t',rfl⟩:=rv;unfold T.eqB;exact⟨RcAt.tuple_int _ _ (aY it) (by omega),RcNeAt.tuple_int _ _ (aY it) (by omega)⟩
  |n=>unfold Rp at g;rw[g]at rv;cases rv;unfold T.eqB;exact⟨RcAt.tuple_none (aY it) (by omega),RcNeAt.tuple_none (aY it) (by omega)⟩
  |t ys =>
   obtain⟨q,ws,rfl,hs',hr'⟩:=g.bj
   cases rv
   unfold T.dep at hu
   unfold T.eqB
   exact⟨qN I (fun x _=>G9 I x) (by omega) hs hr hs' hr',uF I (fun x _=>G9 I x) (by omega) hs hr hs' hr'⟩
noncomputable def I8(K:PySem.W.Frag):R2:=fun x y H Q=>∃a b,Rp K H a x/\Rp K H b y/\a.dep<=150/\Q (.bl (decide (a=b))) H
theorem wu(hu:X.A.units+150<cLine):lO X (compareOp .Eq) (I8 X.K):=by
 intro pins s σ H x y v u Q I rx ry h
 obtain⟨a,b,ha,hb,hd,q⟩:=h
 rw[←T.CO]at q
 exact(IZ I a b X.A (by omega) ha hb rx ry).1 X.prog X.w X.xe _ ⟨.bl _,H,I,rfl,q⟩
theorem cT.AH{k:Nat}{A:Around}(r:cT k A):A.units+150<cLine:=by have:=r.un;omega
end
end L2
namespace L2
open PySem PySem.Spec PyProof.Rows
theorem I9{b:Bool}{A B:Prop}(e:b=true)(h:A):if b=true then A else B:=by rw[if_pos e];exact h
theorem qO{b:Bool}{A B:Prop}(e:b=false)(h:B):if b=true then A else B:=by rw[if_neg (by rw[e];exact Bool.false_ne_true)];exact h
section
variable {X:Cx}
theorem sL{pos:Pos}{es:List Expr}{k:Nat}{t:D8}{n:Nat}(K:PySem.W.Frag)(hK:X.K=K)(hc:X.calm=true)(h:GB X es t)(hn:(assignEach es X.env).length=n:=by rfl)(hst:(assignEach es X.env).findIdx? (·.1)=none:=by rfl):PG X (.Tuple es k pos) (uf K n t):=by
 subst hK
 exact EH hc h hn hst
theorem sN(K:PySem.W.Frag)(hK:X.K=K):GZ X (oS K):=by subst hK;exact ay
theorem qp(K:PySem.W.Frag)(hK:X.K=K):lO X (compareOp .NotIn) (IU K true):=by subst hK;exact sj
noncomputable def Cu(w:World):List DictEntry->List (Str×V)->Prop
 | [],kvs=>kvs=[]
 |e::r,kvs=>∃x v q,kvs=(x,v)::q/\(∃t,e.key=.str x t)/\e.hash=hashStr w x/\RelV v e.val/\Cu w r q
noncomputable def KD(K:PySem.W.Frag)(w:World)(d:Addr)(kvs:List (Str×V)):Prop :=
 ∃(es:Array DictEntry) (n:Nat),K.lookup d=some {cls:=.type "dict",dict:=none,data:=.dict es n,slots:=#[]}/\Cu w es.toList kvs/\(kvs.map (·.1)).Nodup/\(d == sysModules)=false
theorem Cu.keys{w:World}{P:Program}:∀{es:List DictEntry}{kvs:List (Str×V)},Cu w es kvs->∃vs:List (Str×Value),Pairs (PySem.strKind P w) es vs/\(∀e∈es,∃k,(PySem.strKind P w).is k e.key=true/\e.hash=(PySem.strKind P w).hash k)/\vs.map (·.1)=kvs.map (·.1) /\
  ∀k,iX (kvs.lookup k) (valueAt vs k)
 | [],kvs,h=>by
  obtain rfl:kvs=[]:=h
  exact⟨[],.nil,(fun _ h=>nomatch h),rfl,fun _=>trivial⟩
 |e::r,kvs,h=>by
  obtain⟨x,v,q,rfl,⟨t,hk⟩,hh,rv,hr⟩:=h
  obtain⟨vs,h1,h2,h3,h4⟩:=Cu.keys (P:=P) hr
  have ek:(PySem.strKind P w).is x e.key=true:=by rw[hk];exact(by simp[PySem.strKind,Value.isStrOf]:(PySem.strKind P w).is x (.str x t)=true)
  refine⟨(x,e.val)::vs,.cons ek rfl h1,fun e' he=>?_,by rw[List.map_cons,List.map_cons,h3],fun k=>?_⟩
  ·cases he with
   |head=>exact⟨x,ek,hh⟩
   |tail _ he=>exact h2 e' he
  ·rw[List.lookup_cons]
   by_cases c:k=x
   ·subst c
    rw[beq_self_eq_true]
    simp only[valueAt,List.find?_cons,decide_true,Option.map_some]
    exact rv
   ·rw[beq_false_of_ne c]
    have z:=h4 k
    have e1:valueAt ((x,e.val)::vs) k=valueAt vs k:=by
     simp only[valueAt,List.find?_cons]
     rw[decide_eq_false (fun q=>c q.symm)]
    rw[e1]
    exact z
theorem KD.dict{K:PySem.W.Frag}{P:Program}{w:World}{d:Addr}{kvs:List (Str×V)}(D:KD K w d kvs){h:Heap}(X:K.In h):∃vs,h.DictOf (PySem.strKind P w) d vs/\(d == sysModules)=false/\∀k,iX (kvs.lookup k) (valueAt vs k):=by
 obtain⟨es,n,e,hs,nd,hd⟩:=D
 obtain⟨vs,h1,h2,h3,h4⟩:=Cu.keys (P:=P) hs
 exact⟨vs,⟨_,es,n,X _ _ e,⟨rfl,rfl,rfl⟩,rfl,fun e' he=>h2 e' (by simpa using he),h1,by rw[h3];exact nd⟩,hd,h4⟩
theorem yb{P:Program}{w:World}{x:Str}{t:Tok}:(PySem.strKind P w).is x (.str x t)=true:=by simp[PySem.strKind,Value.isStrOf]
noncomputable def Ja(K:PySem.W.Frag)(w:World):R2:=fun x y H Q=>∃k d kvs,x=.str k/\y=.ref d/\KD K w d kvs/\Q (.bl (kvs.lookup k).isSome) H
theorem iX.CY{a:Option V}{b:Option Value}(r:iX a b):b.isSome=a.isSome:=by
 cases a<;>cases b<;>first|rfl|exact r.elim
theorem CZ:lO X (compareOp .In) (Ja X.K X.w):=by
 intro pins s σ H x y v u Q I rx ry h
 obtain⟨k,d,kvs,rfl,rfl,D,q⟩:=h
 obtain⟨t,rfl⟩:=rx
 obtain rfl:u=Value.ref d:=ry
 obtain⟨vs,dd,hd,rel⟩:=D.dict (P:=X.prog) I.tV
 refine wpAny_in_of yb hd dd.mapOf ?_
 rw[(rel k).CY]
 exact⟨.bl _,H,I.tok _,rfl,q⟩
noncomputable def Hg(K:PySem.W.Frag)(w:World)(td ty:TE):TE:=fun σ H Q=>td σ H fun x H1=>ty σ H1 fun y H2=>∃d kvs k v,x=.ref d/\y=.str k/\KD K w d kvs/\kvs.lookup k=some v/\Q v H2
theorem nZ{o i:Expr}{pos:Pos}{td ty:TE}(ho:PE X o td)(hi:PE X i ty)(hs:E5 i):PE X (.Subscript o i pos) (Hg X.K X.w td ty):=by
 intro pins s σ H Q I h
 refine xS PySem.F.slot_dict_getitem.lookup hs (bP (ho pins s σ H _ I h) fun u s1 ⟨x,H1,I1,rx,q1⟩=>bP (hi pins s1 σ H1 _ I1 q1) fun iv s2 ⟨y,H2,I2,ry,d,kvs,k,v,ex,ey,D,lk,q2⟩=>?_)
 subst ex ey
 obtain rfl:u=Value.ref d:=rx
 obtain⟨t,rfl⟩:=ry
 obtain⟨vs,dd,hd,rel⟩:=D.dict (P:=X.prog) I2.tV
 obtain⟨w',hw,rw'⟩:=iX.some_of (v:=v) (o:=valueAt vs k) (by rw[←lk];exact rel k)
 exact⟨dd.typeIs,wpAny_getItem_of yb dd.mapOf hw ⟨v,H2,I2.tok _,rw',q2⟩⟩
theorem wz:lO X (binaryOp .Mult) (fun x y H Q=>∃z n,x=.str z/\y=.int n/\-1000000<=n/\n<=1000000/\z.length*n.toNat<=sizeLine/\Q (.str (Txt.mul z n)) H):=by
 intro pins s σ H x y v u Q I rx ry h
 obtain⟨z,n,rfl,rfl,h1,h2,h3,q⟩:=h
 obtain⟨t,rfl⟩:=rx
 obtain⟨t',rfl⟩:=ry
 refine PySem.SB.mul ⟨by simp;omega,fun a b=>?_,fun a b=>?_⟩ fun t' k=>⟨.str _,H,I.tok _,⟨_,rfl⟩,q⟩
 ·intro c
  have n1:1<=n:=by omega
  have h3':z.length*n.toNat<=16777216:=by rw[←sizeLine_eq];exact h3
  have hz:z.length<=z.length*n.toNat:=Nat.le_mul_of_pos_right _ (by omega)
  have e:(9223372036854:Int)<=(2 ^ 63-1) / n:=Int.le_ediv_of_mul_le (by omega) (by omega)
  omega
 ·unfold Builtin.Str.tooLong
  simp
  exact h3
end
section
variable {g:TG}{tt:TT}{te:TE}{Q:VK}{σ0:St}{H0:Hp}
theorem jj{K:PySem.W.Frag}{a:Addr}{xs:List V}(Pv:Nat->St->List V->Hp->Prop)(h0:Pv 0 σ0 [] H0)(hlen:∀i σ vs H,i<=xs.length->Pv i σ vs H->vs.length<=i)(hn:xs.length<=sizeLine)(hl:∀i σ vs H,i<=xs.length->Pv i σ vs H->bT K H a xs)
  (hs:∀i x σ vs H,xs[i]?=some x->Pv i σ vs H->g x σ H fun σ2 H2=>tt σ2 H2 fun ok H3=>if ok=true then te σ2 H3 fun v H4=>Pv (i+1) σ2 (vs++[v]) H4 else Pv (i+1) σ2 vs H3)
  (hd:∀σ vs H,Pv xs.length σ vs H->∀p,H p=none->Q (.ref p) (upd H p (.lst vs))):l7 (EL K a) g tt te Q σ0 H0:=by
 refine sH xs.length Pv h0 hlen hn (fun i σ vs H hi p=>⟨xs,xs[i],hl i σ vs H (Nat.le_of_lt hi) p,by simp[hi]⟩) (fun σ vs H p=>⟨xs,hl _ σ vs H (Nat.le_refl _) p,Nat.le_refl _⟩) (fun i σ vs H x H' hi p y=>?_) hd
 obtain⟨rfl,y⟩:=y
 exact hs i x σ vs _ (y xs (hl i σ vs _ (Nat.le_of_lt hi) p)) p
end
mutual
noncomputable def T.py:T->PyData
 |.s x=>.str x
 |.i k=>.int k
 |.n=>.none
 |.t xs=>.tuple (T.Gp xs)
noncomputable def T.Gp:List T->List PyData
 | []=>[]
 |x::r=>x.py::T.Gp r
end
section
variable {X:Cx}{pins:List (Addr×Obj)}{σ:St}{H:Hp}{s:Shared}
theorem uG:∀{xs:List T},(∀x∈xs,∀{v:V}{u:Value},Rp X.K H x v->RelV v u->∃as,Reads s.heap u x.py as)->∀{vs:List V}{us:List Value},bB X.K H xs vs->Vals vs us->∃as,ReadsAll s.heap us (T.Gp xs) as
 | [],_,vs,us,h,r=>by
  obtain rfl:=h.cZ
  cases r
  exact⟨[],.nil⟩
 |x::q,ih,vs,us,h,r=>by
  obtain⟨v,w,rfl,h1,h2⟩:=h.inv
  cases r with
  |cons r1 r2 =>
   obtain⟨as,ha⟩:=ih x (.head _) h1 r1
   obtain⟨bs,hb⟩:=uG (fun y hy=>ih y (.tail _ hy)) h2 r2
   exact⟨as++bs,.cons ha hb⟩
theorem C0(I:Inv X pins σ H s)(a:T):∀{v:V}{u:Value},Rp X.K H a v->RelV v u->∃as,Reads s.heap u a.py as:=by
 induction a using T.induct with
 |hs x=>intro v u h r;rw[h.aD]at r;obtain⟨t,rfl⟩:=r;unfold T.py;exact⟨[],.str x t⟩
 |hi x=>intro v u h r;rw[h.dj]at r;obtain⟨t,rfl⟩:=r;unfold T.py;exact⟨[],.int x t⟩
 |hn=>intro v u h r;unfold Rp at h;rw[h]at r;cases r;unfold T.py;exact⟨[],.none⟩
 |ht xs ih =>
  intro v u h r
  obtain⟨p,vs,rfl,hs,hr⟩:=h.bj
  cases r
  obtain⟨its,rv,⟨o,e,c,n,d⟩,_⟩:=I.tuple hs
  obtain⟨as,ha⟩:=uG (s:=s) ih hr rv
  unfold T.py
  exact⟨as,.tuple e c d (by simpa using ha)⟩
structure AI(d:PyData):Prop where
 sh:d.showable=true
 nd:d.hasDict=false
 dp:d.depth<=100
 sz:d.shown.length<=sizeLine
theorem oZ(hg:X.A.guards=some [])(hu:X.A.units+150<cLine):kL X (.builtin "repr") (fun xs H Q=>∃x xs' ,xs=[x]/\Rp X.K H (.t xs') x/\AI (T.t xs').py/\Q (.str (T.t xs').py.shown) H):=by
 intro pins s σ H xs us Q I r h
 obtain⟨x,ts,rfl,hr,S,q⟩:=h
 obtain⟨u,rfl,ru⟩:=vals1 r
 obtain⟨as,ha⟩:=C0 I _ hr ru
 obtain⟨p,vs,rfl,hs,hr⟩:=hr.bj
 cases ru
 refine repr_of_reads' ha S.sh (fun z=>by rw[S.nd]at z;cases z) hg (by have:=S.dp;omega) (fun _ _ e=>e) (fun h' u tk hk=>?_) S.sz
 exact⟨.str _,H,I.kept hk,⟨_,rfl⟩,q⟩
end
theorem AJ{X:Cx}{es:List Expr}(h:(strsOf es).isSome=true):PA X es (xY ((strsOf es).getD [])):=by
 obtain⟨xs,e⟩:=Option.isSome_iff_exists.mp h
 rw[e]
 exact sJ e
theorem atS{z:Str}{r:Int}(h0:0<=r)(h:r<(z.length:Int)):∃c,fR z.cps.toList r=some c/\c∈z.cps.toList:=by
 have e:z.cps.toList.length=z.length:=by simp[Str.length]
 have hk:r.toNat<z.cps.toList.length:=by rw[e];omega
 have ek:r=((r.toNat:Nat):Int):=by omega
 have q:fR z.cps.toList ((r.toNat:Nat):Int)=some z.cps.toList[r.toNat]:=aN (List.getElem?_eq_getElem hk)
 rw[←ek]at q
 exact⟨_,q,List.getElem_mem hk⟩
theorem C1(cs:List Nat):Txt.join "" (cs.map fun c=>(⟨#[c]⟩:Str))=⟨cs.toArray⟩:=by
 show Builtin.Str.glued (Str.ofString "") _=_
 rw[StrLaws.glued_eq_join]
 exact PyProof.Rows.join_ones cs
theorem AK(l:List Nat):((l.map fun c=>(⟨#[c]⟩:Str)).map (·.length)).sum=l.length:=by
 induction l with
 |nil=>rfl
 |cons c r ih=>rw[List.map_cons,List.map_cons,List.sum_cons,ih,List.length_cons];show 1+_=_;omega
theorem E6(cs:List Nat):(⟨cs.toArray⟩:Str).length=cs.length:=by simp[Str.length]
theorem Hh(b:Bool)(z:Str):(Txt.mul z (if b then 1 else 0)).length<=z.length:=by
 cases b with
 |true=>simp[Txt.mul]
 |false=>simp[Txt.mul,Str.length,Str.empty]
end L2
namespace L2
open PySem
noncomputable def bQ(H:Hp)(f:Addr):Prop:=∃p q:Int,H f=some (.lst [.int p,.int q])
noncomputable def Ext(f:Addr)(H H':Hp):Prop:=(∀b o,b≠f->H b=some o->H' b=some o)/\bQ H' f
theorem Ext.refl{f:Addr}{H:Hp}(h:bQ H f):Ext f H H:=⟨fun _ _ _ e=>e,h⟩
theorem Ext.trans{f:Addr}{H H1 H2:Hp}(a:Ext f H H1)(b:Ext f H1 H2):Ext f H H2:=⟨fun c o n e=>b.1 c o n (a.1 c o n e),b.2⟩
theorem Ext.same{f:Addr}{H H1 H2:Hp}(a:Ext f H H1)(s:br H1 H2):Ext f H H2:=⟨fun c o n e=>s c o (a.1 c o n e),let⟨p,q,e⟩:=a.2;⟨p,q,s f _ e⟩⟩
theorem ae{H:Hp}{p:Addr}(h:H p=none)(o:HO):br H (upd H p o):=fun b u q=>by rw[au (aF q h)];exact q
theorem bQ.same{f:Addr}{H H':Hp}(h:bQ H f)(s:br H H'):bQ H' f:=let⟨p,q,e⟩:=h;⟨p,q,s f _ e⟩
theorem Ext.tup{f:Addr}{H H':Hp}(e:Ext f H H')(hf:bQ H f){a:Addr}{xs:List V}(h:H a=some (.tup xs)):H' a=some (.tup xs):=by
 refine e.1 a _ ?_ h
 obtain⟨p,q,hf⟩:=hf
 exact cF h hf (by intro z;cases z)
noncomputable def dJ:Sp:=fun vs H Q _=>∃(f:Addr) (m:Int),vs=[.ref f,.int m]/\0<m/\m<1073741824/\bQ H f/\∀(r:Int) (H':Hp),0<=r->r<m->Ext f H H'->Q (.int r) H'
noncomputable def AL(K:PySem.W.Frag):Sp:=fun vs H Q _=>∃(a:Addr) (ns:List Int) (k:Int),vs=[.ref a,.int k]/\cR K H a (ns.map V.int)/\ns.length<=63/\0<=k/\k<=100 /\
 ∀(r:Addr) (H':Hp),br H H'->H r=none->bQ H' r->Q (.ref r) H'
theorem small{n:Nat}(h:n<=1000):n<=sizeLine:=Nat.le_of_lt (bu h)
theorem yc{ns:List Int}{k:Int}(h0:0<=k)(h:k<(ns.length:Int)):∃v:Int,fR (ns.map V.int) k=some (.int v):=by
 have hk:k.toNat<ns.length:=by omega
 have ek:k=((k.toNat:Nat):Int):=by omega
 have q:fR (ns.map V.int) ((k.toNat:Nat):Int)=some (.int ns[k.toNat]):=aN (by rw[List.getElem?_map,List.getElem?_eq_getElem hk]<;>rfl)
 rw[←ek]at q
 exact⟨_,q⟩
theorem AM{α:Type}{xs:List α}{k:Int}(h0:0<=k)(h:k<(xs.length:Int)):∃v:α,fR xs k=some v/\v∈xs:=by
 have hk:k.toNat<xs.length:=by omega
 have ek:k=((k.toNat:Nat):Int):=by omega
 have q:fR xs ((k.toNat:Nat):Int)=some xs[k.toNat]:=aN (List.getElem?_eq_getElem hk)
 rw[←ek]at q
 exact⟨_,q,List.getElem_mem hk⟩
theorem Ext.kt{f:Addr}{H H':Hp}(e:Ext f H H')(hf:bQ H f):Kt H H':=fun a xs r=>by
 obtain⟨p,q,hf⟩:=hf
 rcases r with h|⟨o,h⟩
 ·exact .inl (e.1 a _ (cF h hf (by intro z;cases z)) h)
 ·exact .inr ⟨o,e.1 a _ (cF h hf (by intro z;cases z)) h⟩
theorem Ext.lst{f:Addr}{H H':Hp}(e:Ext f H H'){l:Addr}{xs:List V}(n:l≠f)(h:H l=some (.lst xs)):H' l=some (.lst xs):=e.1 l _ n h
theorem Ext.new{f:Addr}{H H':Hp}(e:Ext f H H'){p:Addr}(h:H' p=none)(o:HO):Ext f H (L2.upd H' p o):=e.same (ae h o)
structure bG(P:Program) (w:World) (K:PySem.W.Frag) (mg:Str->Option Value) (base:Heap) (x:Str) (k:Nat) (ps:List Str) (sp:Sp) (f:Addr) (fd:FuncData):Prop where
 ok:bF P w K mg base dX k f fd ps sp
 at':mg x=some (.ref f)
 kp:PySem.W.keepIn K (.ref f)=true
 bd:Binds K fd ps []
end L2
namespace L2
open PySem PySem.Spec PyProof.Rows
noncomputable def ny(p:List Str×Tm):T:=.t [.t (p.1.map .s),enc p.2]
noncomputable def right(tm:Tm):List (List Str×Tm):=(bnd tm.hd tm.ks.length).zip tm.ks
theorem bT.same{K:PySem.W.Frag}{H H':Hp}(e:br H H'){a:Addr}{xs:List V}(h:bT K H a xs):bT K H' a xs:=h.kt (Kt.same e)
theorem Rp.same{K:PySem.W.Frag}{H H':Hp}(e:br H H'){x:T}{v:V}(h:Rp K H x v):Rp K H' x v:=h.kt (Kt.same e)
theorem bB.same{K:PySem.W.Frag}{H H':Hp}(e:br H H'){x:List T}{v:List V}(h:bB K H x v):bB K H' x v:=h.kt (Kt.same e)
theorem Rp.new{K:PySem.W.Frag}{H:Hp}{p:Addr}(hp:H p=none){xs:List T}{vs:List V}(h:bB K H xs vs):Rp K (upd H p (.tup vs)) (.t xs) (.ref p):=.t (.of ah) (h.same (ae hp _))
section
variable {K:PySem.W.Frag}{Q:VK}{H0:Hp}
theorem uH{a pa:Addr}{ps:List Nat}{ts ks:List T}{vs:List V}(hS:bT K H0 a vs)(hr:bB K H0 ts vs)(hP:bT K H0 pa (ps.map fun(j:Nat)=>V.int (j:Int)))(hlen:ps.length<=1000)(hk:ps.map (fun(j:Nat)=>ts[j]?)=ks.map some)
  (k:∀(p:Addr) (H':Hp) (ws:List V),br H0 H'->H' p=some (.lst ws)->bB K H' (ks.map fun k=>.t [.t [],k]) ws->Q (.ref p) H') :
  l7 (EL K pa) (dW 0) uB (vS (gq (vS nL) (gq (qk (oS K) (iu 1) (iu 0)) nL))) Q [none,some (.ref a)] H0:=by
 refine jj (xs:=ps.map fun(j:Nat)=>V.int (j:Int)) (fun i σ us H2=>(∃x,σ=[x,some (.ref a)])/\br H0 H2/\bB K H2 ((ks.take i).map fun k=>.t [.t [],k]) us) ⟨⟨none,rfl⟩,br.refl _,.nil⟩ ?_ (small (by rw[List.length_map];exact hlen)) ?_ ?_ ?_
 ·rintro i σ us H2 hi ⟨_,_,r⟩
  rw[r.length,List.length_map,List.length_take];omega
 ·rintro i σ us H2 hi ⟨_,e,_⟩
  exact hP.same e
 ·rintro i x σ us H2 hx ⟨⟨x0,rfl⟩,e,r⟩
  rw[List.getElem?_map]at hx
  obtain⟨j,hj,rfl⟩:=Option.map_eq_some_iff.mp hx
  have hkj:ts[j]?=ks[i]?/\i<ks.length:=by
   have z:=congrArg (fun l=>l[i]?) hk
   simp only[List.getElem?_map,hj,Option.map_some]at z
   cases e2:ks[i]? with
   |none=>rw[e2]at z;cases z
   |some q=>rw[e2]at z;exact⟨Option.some.inj z,(List.getElem?_eq_some_iff.mp e2).1⟩
  obtain⟨hkj,hil⟩:=hkj
  rw[List.getElem?_eq_getElem hil]at hkj
  obtain⟨w,hw,rw'⟩:=hr.get hkj
  refine⟨Nat.zero_le _,fun q hq=>?_⟩
  have e1:=e.trans (ae hq (.tup []))
  refine⟨_,rfl,_,rfl,a,_,_,w,rfl,rfl,hS.same e1,aN hw,(by show 2<=sizeLine;decide),fun t ht=>?_⟩
  have e2:=e1.trans (ae ht (.tup [.ref q,w]))
  refine⟨⟨_,rfl⟩,e2,?_⟩
  rw[List.take_succ_eq_append_getElem hil,List.map_append]
  refine(r.same (fun b o h=>ae ht _ b o (ae hq _ b o h))).snoc (Rp.new ht (.cons ?_ (.one (rw'.same e1))))
  exact Rp.new hq .nil
 ·rintro σ us H2 ⟨_,e,r⟩ p hp
  have l:(ps.map fun(j:Nat)=>V.int (j:Int)).length=ks.length:=by
   have z:=congrArg List.length hk
   simpa using z
  rw[l,List.take_length]at r
  exact k p _ us (e.trans (ae hp _)) ah (r.same (ae hp _))
theorem zc{pa:Addr}{ks:List T}{vs:List V}(hS:bT K H0 pa vs)(hr:bB K H0 ks vs)(hlen:ks.length<=1000)
  (k:∀(p:Addr) (H':Hp) (ws:List V),br H0 H'->H' p=some (.lst ws)->bB K H' (ks.map fun k=>.t [.t [],k]) ws->Q (.ref p) H') :
  l7 (EL K pa) (dW 0) uB (vS (gq (vS nL) (gq (iu 0) nL))) Q [none] H0:=by
 have l:=hr.length
 refine jj (xs:=vs) (fun i σ us H2=>(∃x,σ=[x])/\br H0 H2/\bB K H2 ((ks.take i).map fun k=>.t [.t [],k]) us) ⟨⟨none,rfl⟩,br.refl _,.nil⟩ ?_ (small (by omega)) ?_ ?_ ?_
 ·rintro i σ us H2 hi ⟨_,_,r⟩
  rw[r.length,List.length_map,List.length_take];omega
 ·rintro i σ us H2 hi ⟨_,e,_⟩
  exact hS.same e
 ·rintro i x σ us H2 hx ⟨⟨x0,rfl⟩,e,r⟩
  obtain⟨y,hy,ry⟩:=hr.get' hx
  have hil:i<ks.length:=(List.getElem?_eq_some_iff.mp hy).1
  have ey:ks[i]=y:=(List.getElem?_eq_some_iff.mp hy).2
  refine⟨Nat.zero_le _,fun q hq=>?_⟩
  have e1:=e.trans (ae hq (.tup []))
  refine⟨_,rfl,(by show 2<=sizeLine;decide),fun t ht=>?_⟩
  have e2:=e1.trans (ae ht (.tup [.ref q,x]))
  refine⟨⟨_,rfl⟩,e2,?_⟩
  rw[List.take_succ_eq_append_getElem hil,List.map_append,ey]
  refine(r.same (fun b o h=>ae ht _ b o (ae hq _ b o h))).snoc (Rp.new ht (.cons ?_ (.one (ry.same e1))))
  exact Rp.new hq .nil
 ·rintro σ us H2 ⟨_,e,r⟩ p hp
  rw[l,List.take_length]at r
  exact k p _ us (e.trans (ae hp _)) ah (r.same (ae hp _))
theorem zd{pa:Addr}{arms:List (Str×List Str)}{ks:List T}{vs:List V}(hl:arms.length=ks.length)(hS:bT K H0 pa vs)(hr:bB K H0 (List.zipWith sy arms ks) vs)(hlen:ks.length<=1000)
  (k:∀(p:Addr) (H':Hp) (ws:List V),br H0 H'->H' p=some (.lst ws)->bB K H' (List.zipWith (fun a k=>.t [.t (a.2.map .s),k]) arms ks) ws->Q (.ref p) H') :
  l7 (EL K pa) (uf K 3 (iB (dW 0) (iB (dW 1) (iB (dW 2) vJ)))) uB (vS (gq (iu 1) (gq (iu 2) nL))) Q [none,none,none] H0:=by
 have l:=hr.length
 rw[List.length_zipWith,hl,Nat.min_self]at l
 refine jj (xs:=vs) (fun i σ us H2=>(∃x y z,σ=[x,y,z])/\br H0 H2/\bB K H2 ((List.zipWith (fun(a:Str×List Str) k=>T.t [.t (a.2.map .s),k]) arms ks).take i) us) ⟨⟨none,none,none,rfl⟩,br.refl _,.nil⟩ ?_ (small (by omega)) ?_ ?_ ?_
 ·rintro i σ us H2 hi ⟨_,_,r⟩
  rw[r.length,List.length_take];omega
 ·rintro i σ us H2 hi ⟨_,e,_⟩
  exact hS.same e
 ·rintro i x σ us H2 hx ⟨⟨x0,y0,z0,rfl⟩,e,r⟩
  obtain⟨y,hy,ry⟩:=hr.get' hx
  have hi:i<vs.length:=(List.getElem?_eq_some_iff.mp hx).1
  have hia:i<arms.length:=by omega
  have hik:i<ks.length:=by omega
  have hz:i<(List.zipWith (fun(a:Str×List Str) k=>T.t [.t (a.2.map .s),k]) arms ks).length:=by rw[List.length_zipWith];omega
  rw[List.getElem?_zipWith,List.getElem?_eq_getElem hia,List.getElem?_eq_getElem hik]at hy
  cases hy
  obtain⟨ra,rvs,rfl,sq,rr⟩:=(show Rp K H0 (.t [_,_,_]) x from ry).bj
  obtain⟨t1,q1,rfl,h1,rr⟩:=rr.inv
  obtain⟨t2,q2,rfl,h2,rr⟩:=rr.inv
  obtain⟨t3,q3,rfl,h3,rr⟩:=rr.inv
  obtain rfl:=rr.cZ
  refine⟨ra,_,rfl,sq.same e,rfl,_,_,rfl,_,_,rfl,_,_,rfl,rfl,?_⟩
  refine⟨_,rfl,_,rfl,(by show 2<=sizeLine;decide),fun t ht=>?_⟩
  have e2:=e.trans (ae ht (.tup [t2,t3]))
  refine⟨⟨_,_,_,rfl⟩,e2,?_⟩
  rw[List.take_succ_eq_append_getElem hz]
  refine(r.same (ae ht _)).snoc ?_
  rw[List.getElem_zipWith]
  exact Rp.new ht (.cons (h2.same e) (.one (h3.same e)))
 ·rintro σ us H2 ⟨_,e,r⟩ p hp
  rw[List.take_of_length_le (by rw[List.length_zipWith];omega)]at r
  exact k p _ us (e.trans (ae hp _)) ah (r.same (ae hp _))
end
theorem jQ{α β:Type}(f:α->Option β)(g:α->β):∀(l:List α),(∀a∈l,f a=some (g a))->l.filterMap f=l.map g
 | [],_=>rfl
 |a::r,h=>by rw[List.filterMap_cons,h a (.head _),List.map_cons,jQ f g r fun b hb=>h b (.tail _ hb)]
theorem ze{α:Type}(xs:List α):((List.range xs.length).map fun k=>xs.length-1-k).filterMap (xs[·]?)=xs.reverse:=by
 cases xs with
 |nil=>rfl
 |cons x r =>
  rw[List.filterMap_map,jQ _ (fun k=>(x::r).reverse.getD k x)]
  ·apply List.ext_getElem
   ·simp
   ·intro i h1 h2
    simp only[List.getElem_map,List.getElem_range]
    simp at h1
    simp only[List.getD_eq_getElem?_getD]
    rw[List.getElem?_eq_getElem h2]
    rfl
  ·intro k hk
   have hk':=List.mem_range.mp hk
   show(x::r)[(x::r).length-1-k]?=_
   have h2:k<(x::r).reverse.length:=by simpa using hk'
   simp only[List.getD_eq_getElem?_getD]
   rw[List.getElem?_eq_getElem h2,List.getElem_reverse,List.getElem?_eq_getElem (by omega)]
   rfl
theorem zf(n:Nat):sliceRange (sliceBounds none none (some (-1)) n).1 (sliceBounds none none (some (-1)) n).2.1 (sliceBounds none none (some (-1)) n).2.2=(List.range n).map fun k=>n-1-k:=by
 show sliceRange ((n:Int) - 1) (-1) (-1)=_
 unfold sliceRange
 have c:(if(-1:Int)>0 then(if(n:Int) - 1 < -1 then(-1 - ((n:Int) - 1)+-1-1) / -1 else 0)else(if(n:Int) - 1 > -1 then((n:Int) - 1 - -1 - -1-1) / (- -1)else 0))=(n:Int):=by
  rw[if_neg (by decide)]
  split
  ·rw[show(- -1:Int)=1 from rfl,Int.ediv_one];omega
  ·omega
 simp only[c,Int.toNat_natCast]
 refine List.map_congr_left fun k hk=>?_
 have:=List.mem_range.mp hk
 omega
theorem l8(xs:List V):nu xs none none (some (-1))=xs.reverse:=by
 rw[CU (zf xs.length)]
 exact ze xs
section
variable {K:PySem.W.Frag}{Q:VK}{H0:Hp}
theorem wA{a:Addr}{ps:List (List Str×Tm)}{vs:List V}(hS:H0 a=some (.lst vs))(hr:bB K H0 (ps.map ny) vs)(hlen:ps.length<=1000)
  (k:∀(p:Addr) (ws:List V),H0 p=none->bB K H0 (ps.map fun p=>enc p.2) ws->Q (.ref p) (upd H0 p (.lst ws))) :
  l7 (EK K a) (uf K 2 (iB (dW 0) (iB (dW 1) vJ))) uB (iu 1) Q [none,none] H0:=by
 have l:=hr.length
 rw[List.length_map]at l
 refine ku (xs:=vs) (fun i σ us H2=>(∃x y,σ=[x,y])/\H2=H0/\bB K H0 ((ps.take i).map fun p=>enc p.2) us) ⟨⟨none,none,rfl⟩,rfl,.nil⟩ ?_ (small (by omega)) ?_ ?_ ?_
 ·rintro i σ us H2 hi ⟨_,_,r⟩
  rw[r.length,List.length_map,List.length_take];omega
 ·rintro i σ us H2 hi ⟨_,rfl,_⟩
  exact cR.of hS
 ·rintro i x σ us H2 hx ⟨⟨x0,y0,rfl⟩,rfl,r⟩
  obtain⟨y,hy,ry⟩:=hr.get' hx
  rw[List.getElem?_map]at hy
  obtain⟨pr,hp,rfl⟩:=Option.map_eq_some_iff.mp hy
  have hil:i<ps.length:=(List.getElem?_eq_some_iff.mp hp).1
  have ep:ps[i]=pr:=(List.getElem?_eq_some_iff.mp hp).2
  obtain⟨ra,rvs,rfl,sq,rr⟩:=(show Rp K _ (.t [_,_]) x from ry).bj
  obtain⟨t1,q1,rfl,h1,rr⟩:=rr.inv
  obtain⟨t2,q2,rfl,h2,rr⟩:=rr.inv
  obtain rfl:=rr.cZ
  refine⟨ra,_,rfl,sq,rfl,_,_,rfl,_,_,rfl,rfl,?_⟩
  refine⟨_,rfl,⟨_,_,rfl⟩,rfl,?_⟩
  rw[List.take_succ_eq_append_getElem hil,List.map_append,ep]
  exact r.snoc h2
 ·rintro σ us H2 ⟨_,rfl,r⟩ p hp
  rw[l,List.take_length]at r
  exact k p us hp r
end
noncomputable def Hj(sc:Scope)(y:Str):Bool:=(sc.names.lookup y == some .local||sc.names.lookup y == some .cell||sc.names.lookup y == some .free)&&!(y == ("__debug__":Str))&&!(y == ("__classdict__":Str))
noncomputable abbrev Nm(N:List Str)(sc:Scope):Prop:=N.all (Hj sc)=true
noncomputable def Hl(sc:Scope)(y:Str):Bool:=sc.names.lookup y == some .local||sc.names.lookup y == some .cell
noncomputable abbrev Lm(N:List Str)(sc:Scope):Prop:=N.all (Hl sc)=true
theorem Nm.get{N:List Str}{sc:Scope}(h:Nm N sc){i:Nat}{x:Str}(e:N[i]?=some x):Ij sc x/\(x == ("__debug__":Str))=false/\(x == ("__classdict__":Str))=false:=by
 have z:=List.all_eq_true.mp h x (List.mem_of_getElem? e)
 unfold Hj at z
 simp only[Bool.and_eq_true,Bool.or_eq_true,Bool.not_eq_true']at z
 obtain⟨⟨z1,z2⟩,z3⟩:=z
 refine⟨?_,z2,z3⟩
 rcases z1 with(z1|z1)|z1
 ·exact Or.inl (eq_of_beq z1)
 ·exact Or.inr (Or.inl (eq_of_beq z1))
 ·exact Or.inr (Or.inr (eq_of_beq z1))
theorem Lm.get{N:List Str}{sc:Scope}(h:Lm N sc){i:Nat}{x:Str}(e:N[i]?=some x):Loc sc x:=by
 have z:=List.all_eq_true.mp h x (List.mem_of_getElem? e)
 unfold Hl at z
 simp only[Bool.or_eq_true]at z
 rcases z with z|z
 ·exact Or.inl (eq_of_beq z)
 ·exact Or.inr (eq_of_beq z)
section
variable {X:Cx}
theorem va{x:Str}{pos:Pos}(h:Nm X.N X.env.scope)(i:Nat)(hN:X.N[i]?=some x:=by rfl):PE X (.Name x pos) (iu i):=zX hN (h.get hN).1 (h.get hN).2.1 (h.get hN).2.2
theorem sa{x:Str}{e:Expr}{te:TE}{pos pos':Pos}(hN:X.N.Nodup)(h:Lm X.N X.env.scope)(i:Nat)(he:PE X e te)(hi:X.N[i]?=some x:=by rfl)(hs:swapsWith e (some (.Name x pos')) pos.line X.env=pure false:=by kernel_rfl)
  (hf:X.fn x=true\/X.env.scope.names.lookup x=some .local:=by exact .inl rfl):PS X (.Assign [.Name x pos'] e pos) (nK te (dW i)):=jy hN hi (h.get hi) he hs hf
theorem ga{x:Str}{pos:Pos}(hN:X.N.Nodup)(h:Lm X.N X.env.scope)(i:Nat)(hi:X.N[i]?=some x:=by rfl)(hf:X.fn x=true\/X.env.scope.names.lookup x=some .local:=by first|exact .inl rfl|exact .inr (by kernel_rfl)):PG X (.Name x pos) (dW i):=gY hN hi (h.get hi) hf
end
section
variable {X:Cx}
theorem C2{y:Str}{posn posa:Pos}{gg:TG}{elt iter tg:Expr}{ifs:List Expr}{scope:Scope}{pos:Pos}{wi:TI}{g:TG}{tt:TT}{te:TE}(own:List Str)(fr:List Nat)(hc:X.calm=true)
  (hkind:scope.kind=.function) (hcell:∀x∈scope.names,x.2≠.cell) (hnames:∀x∈scope.names,x.2=.local->scope.names.lookup x.1=some .local)
  (hfr:∀x∈scope.names,x.2=.free->X.env.scope.names.lookup x.1=some .cell\/X.env.scope.names.lookup x.1=some .free)
  (hin:∀j∈fr,scope.names.lookup (X.N.getD j Str.empty)=some .free)
  (hi:PI X tg iter wi) (hg:∀fp C s H,PG (aH X scope (own++fr.map fun j=>X.N.getD j Str.empty) fp C s H) tg g)
  (ht:∀fp C s H,qm (aH X scope (own++fr.map fun j=>X.N.getD j Str.empty) fp C s H) ifs tt)
  (he:∀fp C s H,PE (aH X scope (own++fr.map fun j=>X.N.getD j Str.empty) fp C s H) elt te)
  (hgg:PG X (.Name y posn) gg) (hsw:swapsWith (.ListComp elt [⟨tg,iter,ifs,0⟩] scope pos) (some (.Name y posn)) posa.line X.env=pure true)
  (hs:∀x,foldedSetIterable iter X.env x=pure x:=by intro _;rfl):PS X (.Assign [.Name y posn] (.ListComp elt [⟨tg,iter,ifs,0⟩] scope pos) posa) (nK (xV own.length fr wi g tt te) gg):=by
 intro pins s σ H D0 I h
 rw[exec_Assign_Name_used _ _ _ _ hsw,arm_evalThenUse_ListComp]
 refine wpAny_bind (wpAny_standAt (wpAny_bind (wpAny_bind ?_)))
 have hfree:∀x∈scope.names,x.2=.free->∃c,X.env.cells.lookup x.1=some c:=fun x hx e=>I.ok.has x.1 (hfr x hx e)
 refine bP (wpAny_comprehension_free (use:=some (assign (.Name y posn) X.env)) (Q:=fun _ s'=>SP X pins D0 .next s') rfl hs (gi hfree) hkind hnames ?_) fun _ _ q=>wpAny_pure (wpAny_pure q)
 refine bP (hi pins s σ H _ I h) fun v s1 h1=>bP h1 fun itv s2 h2=>?_
 obtain⟨it,fp,tn,J,H2,e,I2,T,st2,f2,W,⟨m0,w0⟩,turn⟩:=h2
 subst e
 have hfo:∀b∈fp,b<s2.heap.objs.size:=fun b hb=>by obtain⟨o,e,_⟩:=T.obj 0 _ st2 b hb;exact Heap.lt_size e
 refine wpAny_newObj_type (wpAny_newFunctionEnv hcell (by intro y hy;simp at hy) (fun h₁ hns₁ hsb₁=>?_) hkind)
 dsimp only at hns₁ hsb₁⊢
 generalize hH2:s2.heap.push {cls:=.type "list",dict:=none,data:=.seq ([]:List Value).toArray}=G2 at hns₁ hsb₁⊢
 have hC:G2.objs.size=s2.heap.objs.size+1:=by rw[←hH2,Heap.size_push]
 have hDC:s2.heap.objs.size≠G2.objs.size:=by rw[hC];exact Nat.ne_of_lt (Nat.lt_succ_self _)
 have hCle:s2.heap.objs.size<=G2.objs.size:=by rw[hC];exact Nat.le_succ _
 have old:∀b o,s2.heap.get? b=some o->h₁.get? b=some o:=fun b o e=>hsb₁.extBut b o (by rw[hC];exact Nat.ne_of_lt (Nat.lt_succ_of_lt (Heap.lt_size e))) (Heap.get?_push_of_some _ (hH2▸Heap.get?_push_of_some _ e))
 have hacc:h₁.PlainList s2.heap.objs.size #[]:=⟨_,hsb₁.extBut _ _ hDC (Heap.get?_push_of_some _ (hH2▸Heap.get?_push_size _ rfl))⟩
 have I3:Inv (aH X scope (own++fr.map fun j=>X.N.getD j Str.empty) fp G2.objs.size s2 H2) [] (fG own.length fr σ) H2 {s2 with heap:=h₁,toks:=s2.toks+([]:List (Str×Value)).length} :=
  jB I2 hkind hcell hfr hin hCle f2 hfo old hns₁
 have st3:tn 0 h₁:=T.keep 0 _ _ st2 fun b _ o e=>old b o e
 have hDf:s2.heap.objs.size∉fp:=fun hm=>Nat.lt_irrefl _ (hfo _ hm)
 have hDn2:H2 s2.heap.objs.size=none:=I2.hok.fresh (Nat.le_refl _)
 have sub:∀y c,(bA X.env scope.names []).lookup y=some c->X.env.cells.lookup y=some c:=eN _ _ hfree (by intro y c e;simp at e)
 have cellD:∀y c,(bA X.env scope.names []).lookup y=some c->c≠s2.heap.objs.size:=fun y c e=>by
  obtain⟨_,o,ho,_⟩:=I2.cell y c (sub y c e)
  exact Nat.ne_of_lt (Heap.lt_size ho)
 have gH:s2.heap.objs.size∉frs X.stack:=fun z=>by
  rcases List.mem_cons.mp (I2.kW _ z)with e|e
  ·exact absurd I2.lt (by rw[←e];exact Nat.lt_irrefl _)
  ·exact I2.vI (Nat.le_refl _) e
 -- the iterator's records,in the block's context
 have stat:∀{H':Hp}{pl:List (Addr×Obj)},(∀b∈fp,H' b=none)->(∀p∈pl,p.1=s2.heap.objs.size)->∀b∈fp,mT (aH X scope (own++fr.map fun j=>X.N.getD j Str.empty) fp G2.objs.size s2 H2) pl H' b:=fun{H' pl} hn hp b hb=>by
  refine⟨hn b hb,(I3.ok.exf b hb).1,I3.ok.exfs b hb,.inl hb,(I3.ok.exf b hb).2,fun p hpp z=>?_⟩
  have hpp':p∈pl:=by simpa[aH]using hpp
  exact hDf (by rw[←hp p hpp',z];exact hb)
 have pinD:∀{σ':St}{H':Hp}{s':Shared}{ys:Array Value}{n:Nat},Inv (aH X scope (own++fr.map fun j=>X.N.getD j Str.empty) fp G2.objs.size s2 H2) [] σ' H' s'->H' s2.heap.objs.size=none->s'.heap.get? s2.heap.objs.size=some {cls:=.type "list",data:=.seq ys n} ->
   Inv (aH X scope (own++fr.map fun j=>X.N.getD j Str.empty) fp G2.objs.size s2 H2) [(s2.heap.objs.size,{cls:=.type "list",data:=.seq ys n})] σ' H' s':=fun{σ' H' s' ys n} J hn e=>J.cD fun p hp=>by
  have e':p=(s2.heap.objs.size,{cls:=.type "list",data:=.seq ys n}):=by simpa using hp
  subst e'
  exact⟨e,hn,hDC,gH,fun v z=>nomatch z⟩
 have loop:codeAny (model X.prog X.w) X.A (.compLoop (.ListComp elt [⟨tg,iter,ifs,0⟩] scope pos) 0 (.ref it) (.ref s2.heap.objs.size) (compEnvC scope (bA X.env scope.names []) G2.objs.size X.env))
   (compPost (model X.prog X.w) X.A X.xe (some (assign (.Name y posn) X.env)) (fun _ s'=>SP X pins D0 .next s') (.ref s2.heap.objs.size) G2.objs.size) {s2 with heap:=h₁,toks:=s2.toks+([]:List (Str×Value)).length}:=by
  refine gw (E:=fun _ _=>False) (fun n s'=>∃i σ' H' vs ys,Inv (aH X scope (own++fr.map fun j=>X.N.getD j Str.empty) fp G2.objs.size s2 H2) [] σ' H' s'/\tn i s'.heap/\(∀b∈fp,H' b=none)/\H' s2.heap.objs.size=none/\s'.heap.PlainList s2.heap.objs.size ys/\Vals vs ys.toList/\W i n σ' vs H')
   ?_ (fun _ _ z=>z.elim) m0 ⟨0,_,H2,[],#[],I3,st3,fun b hb=>(f2 b hb).1,hDn2,hacc,.nil,w0⟩
  rintro n s3 ⟨i,σ3,H3,vs,ys,J3,st3,fr3,dn3,⟨pn,pl3⟩,rv,w3⟩
  have J3':=pinD J3 dn3 pl3
  have hpins:∀p∈[(s2.heap.objs.size,({cls:=.type "list",data:=.seq ys pn}:Obj))],p.1=s2.heap.objs.size:=fun p hp=>by
   have e':p=(s2.heap.objs.size,{cls:=.type "list",data:=.seq ys pn}):=by simpa using hp
   rw[e']
  rcases turn i n σ3 vs H3 w3 with⟨stop,hz,q⟩|⟨go,hz,N,hN,step⟩
  ·refine bP (T.done (aH X scope (own++fr.map fun j=>X.N.getD j Str.empty) fp G2.objs.size s2 H2) rfl rfl rfl hc i _ s3 σ3 H3 (fun _ _=>False) J3' (stat fr3 hpins) st3 stop) fun r s4 ⟨hr,J4⟩=>?_
   subst hr
   obtain⟨m4,hn4,_⟩:=id J4.loc
   have e4:s4.heap.get? s2.heap.objs.size=some {cls:=.type "list",data:=.seq ys pn}:=(J4.pin (s2.heap.objs.size,{cls:=.type "list",data:=.seq ys pn}) (List.mem_append_right _ (by simp))).1
   obtain⟨oC,es,ep,eC,dC,kC,fC⟩:=hn4
   have I4:Inv X pins σ (upd H3 s2.heap.objs.size (.lst vs)) s4:=oX (h'':=s4.heap) I2 f2 J4 hCle (Nat.le_refl _) hDC dn3 ⟨pn,e4⟩ rv hz ⟨rfl,fun _ _=>rfl⟩
   have cL:G2.objs.size≠X.env.locals:=fun z=>absurd I2.lt (by rw[←z];exact Nat.not_lt.mpr hCle)
   have I5:Inv X (pins++[(G2.objs.size,oC)]) σ (upd H3 s2.heap.objs.size (.lst vs)) s4:=I4.cD fun p hp=>by
    rcases List.mem_append.mp hp with z|z
    ·exact I4.pin p (List.mem_append_right _ z)
    ·have z:p=(G2.objs.size,oC):=by simpa using z
     subst z
     exact⟨eC,by rw[au hDC.symm];exact J4.free,cL,I2.vI hCle,fun v zv=>by rw[dC]at zv;cases zv⟩
   show wpAny _ _ (assign (.Name y posn) X.env (.ref s2.heap.objs.size)) _ _ _
   refine bP (hgg _ s4 σ _ (.ref s2.heap.objs.size) _ _ I5 rfl (q _ dn3)) fun _ s5 ⟨σ5,H5,I6,q6⟩=>?_
   have pC:=I6.pin (G2.objs.size,oC) (List.mem_append_right _ (List.mem_append_right _ (by simp)))
   refine⟨m4,⟨oC,es,ep,pC.1,dC,kC,fC⟩,fun h' hs'=>?_⟩
   have I7:Inv X pins σ5 H5 s5:=I6.cD fun p hp=>I6.pin p (List.mem_append_right _ (List.mem_append_left _ hp))
   refine⟨σ5,H5,I7.turned (t':=s5.toks) (it:=G2.objs.size) (fun b o hb e=>(hs'.2 b hb).trans e) pC.2.1 cL (.inr (Nat.le_trans I2.sz hCle)) (fun x c e z=>?_) (fun p hp z=>?_),q6⟩
   ·obtain⟨_,o,ho,_⟩:=I2.cell x c e
    exact absurd (Heap.lt_size ho) (by rw[z];exact Nat.not_lt.mpr hCle)
   ·exact absurd (Heap.lt_size (I2.pin p hp).1) (by rw[z];exact Nat.not_lt.mpr hCle)
  ·refine bP (T.item (aH X scope (own++fr.map fun j=>X.N.getD j Str.empty) fp G2.objs.size s2 H2) rfl rfl rfl hc i _ s3 σ3 H3 (fun _ _=>False) J3' (stat fr3 hpins) st3 go) fun r s4 ⟨u,hr,h4⟩=>?_
   subst hr
   refine bP h4 fun _ s5 ⟨x,H5,J5,r5,y5,st5,fr5⟩=>?_
   have J5':=J5.pinned (stat fr5 hpins) (T.obj _ _ st5)
   refine bP (hg fp _ s2 H2 _ s5 σ3 H5 x u _ J5' r5 (step x H5 y5)) fun _ s6 ⟨σ6,H6,J6,q6⟩=>?_
   refine bP (ht fp _ s2 H2 _ s6 σ6 H6 _ J6 q6) fun ok s7 ⟨H7,J7,q7⟩=>?_
   -- what stood pinned through the turn
   have after:∀{s8:Shared}{H8:Hp},Inv (aH X scope (own++fr.map fun j=>X.N.getD j Str.empty) fp G2.objs.size s2 H2) ([(s2.heap.objs.size,({cls:=.type "list",data:=.seq ys pn}:Obj))]++jU fp s5.heap) σ6 H8 s8 ->
     tn (i+1) s8.heap/\(∀b∈fp,H8 b=none)/\H8 s2.heap.objs.size=none/\s8.heap.get? s2.heap.objs.size=some {cls:=.type "list",data:=.seq ys pn}:=fun{s8 H8} J8=>by
    refine⟨T.keep _ _ _ st5 fun b hb o e=>(J8.pin (b,o) (List.mem_append_right _ (List.mem_append_right _ (cS hb e)))).1,fun b hb=>?_,?_,?_⟩
    ·obtain⟨o,e,d⟩:=T.obj _ _ st5 b hb
     exact(J8.pin (b,o) (List.mem_append_right _ (List.mem_append_right _ (cS hb e)))).2.1
    ·exact(J8.pin (s2.heap.objs.size,{cls:=.type "list",data:=.seq ys pn}) (List.mem_append_right _ (List.mem_append_left _ (by simp)))).2.1
    ·exact(J8.pin (s2.heap.objs.size,{cls:=.type "list",data:=.seq ys pn}) (List.mem_append_right _ (List.mem_append_left _ (by simp)))).1
   cases ok with
   |false =>
    obtain⟨m',hm,w7⟩:=hN _ _ _ q7
    obtain⟨a1,a2,a3,a4⟩:=after J7
    exact⟨m',hm,i+1,σ6,H7,vs,ys,J7.cD (fun p hp=>absurd hp (by simp)),a1,a2,a3,⟨pn,a4⟩,rv,w7⟩
   |true =>
    refine bP (he fp _ s2 H2 _ s7 σ6 H7 _ J7 q7) fun y s8 ⟨v8,H8,J8,r8,n8⟩=>?_
    obtain⟨m',hm,w8⟩:=hN _ _ _ n8
    obtain⟨a1,a2,a3,a4⟩:=after J8
    have J9:Inv (aH X scope (own++fr.map fun j=>X.N.getD j Str.empty) fp G2.objs.size s2 H2) [] σ6 H8 s8:=J8.cD (fun p hp=>absurd hp (by simp))
    have hys:ys.size<=sizeLine:=by
     have e1:vs.length=ys.toList.length:=rv.length
     have e2:ys.toList.length=ys.size:=by simp
     omega
    refine wpAny_list_append_plain (hsz:=hys) ⟨pn,a4⟩ fun h₅ hl₅ hs₅=>?_
    refine⟨m',hm,i+1,σ6,H8,vs++[v8],ys.push y,J9.turned (t':=s8.toks) (it:=s2.heap.objs.size) (fun b o hb e=>by rw[hs₅.2 b hb];exact e) a3 hDC (.inr (Nat.le_refl _)) cellD (fun p hp=>absurd (show p∈([]:List (Addr×Obj))from hp) (by simp)),
     T.keep _ _ _ a1 fun b hb o e=>(hs₅.2 b (fun z=>hDf (z▸hb))).trans e,a2,a3,hl₅,?_,w8⟩
    have:Vals (vs++[v8]) (ys.toList++[y]):=rv.append (.cons r8 .nil)
    simpa using this
 exact codeAny_compStart_list loop (T.self X.A 0 _ _ _ st3 loop)
end
theorem uI{X:Cx}{y:Str}{posn posa:Pos}{gg:TG}{elt iter tg:Expr}{ifs:List Expr}{scope:Scope}{pos:Pos}{wi:TI}{g:TG}{tt:TT}{te:TE}(sc:Scope)(N0 own:List Str)(fr:List Nat)(hc:X.calm=true)(hsc:X.env.scope=sc)(hN:X.N=N0)
  (ok:j0 scope sc N0 fr=true) (hi:PI X tg iter wi) (hg:∀fp C s H,PG (aH X scope (own++fr.map fun j=>N0.getD j Str.empty) fp C s H) tg g)
  (ht:∀fp C s H,qm (aH X scope (own++fr.map fun j=>N0.getD j Str.empty) fp C s H) ifs tt)
  (he:∀fp C s H,PE (aH X scope (own++fr.map fun j=>N0.getD j Str.empty) fp C s H) elt te)
  (hgg:PG X (.Name y posn) gg) (hsw:swapsWith (.ListComp elt [⟨tg,iter,ifs,0⟩] scope pos) (some (.Name y posn)) posa.line X.env=pure true:=by kernel_rfl)
  (hs:∀x,foldedSetIterable iter X.env x=pure x:=by intro _;rfl):PS X (.Assign [.Name y posn] (.ListComp elt [⟨tg,iter,ifs,0⟩] scope pos) posa) (nK (xV own.length fr wi g tt te) gg):=by
 subst hsc hN
 unfold j0 at ok
 simp only[Bool.and_eq_true,List.all_eq_true,bne_iff_ne,beq_iff_eq,Bool.or_eq_true]at ok
 obtain⟨⟨k1,k2⟩,k3⟩:=ok
 refine C2 own fr hc k1 (fun x hx=>(k2 x hx).1.1) (fun x hx e=>?_) (fun x hx e=>?_) (fun j hj=>k3 j hj) hi hg ht he hgg hsw hs
 ·rcases(k2 x hx).1.2 with z|z
  ·exact absurd e z
  ·exact z
 ·rcases(k2 x hx).2 with(z|z)|z
  ·exact absurd e z
  ·exact .inl z
  ·exact .inr z
end L2
open Lean in
def r2:List Name:=[`ok,`at',`kp,`bd,`iP,`ak,`c,`m,`PySem.F.plainAttrs_list,`PySem.F.slot_list_append,`PySem.F.type_list_append,`yW,`rfl,`aj,`K,`z_len,`PySem.boot_len,`iO,`aq,`gQ,`hfF,`hnF]
open Lean in
def r3:List (Name × Name × Nat × List Nat):=[(`Z0,`xP,16,[1000,0,1,1001,1002,1003,2,204,101,3,4,4]),
 (`Z1,`cE,5,[100,101,4]),
 (`Z2,`sa,6,[100,101,102,103,4,5,6]),
 (`Z3,`lS,99,[100,101,205,7]),
 (`Z4,`cz,5,[100,101]),
 (`Z5,`rT,20,[100,2006,2007,2000,0,2003,2,204,102,4,4,4]),
 (`Z6,`bV,5,[100]),
 (`Z8,`Eb,12,[208,209,210,211,100,101,4,4,4,4,4]),
 (`Z9,`yV,9,[100,1,101,102,103,3,3,4,4]),
 (`Za,`gY,99,[100,101,212,8,9]),
 (`Zb,`cE,99,[100,213]),
 (`Zc,`lS,7,[100,101,102,7]),
 (`Zd,`dH,3,[100]),
 (`Ze,`aQ,5,[100,101,4]),
 (`Zf,`sL,5,[100,214,212,212,101,4,4]),
 (`Zg,`gu,9,[100,1,215,216,101,3,3,4,4]),
 (`Zh,`dU,8,[100,101,217]),
 (`Zi,`vL,6,[100,101,4,4,4]),
 (`Zj,`kq,99,[10,100,218,7]),
 (`Zk,`CB,4,[100,4]),
 (`Zl,`cM,99,[219,100,101,11]),
 (`Zm,`iz,4,[100]),
 (`Zn,`cM,8,[100,101,102,11]),
 (`Zo,`HM,99,[100,220,221,212,12]),
 (`Zp,`bK,8,[100,101,102])]
set_option hygiene false in
open Lean in
def r8:Nat->MacroM Term
 | 0=>`(hr.mono (by omega))
 | 1=>`(by show _=_;kernel_rfl)
 | 2=>`(.nil)
 | 3=>`(by decide)
 | 4=>`(by rfl)
 | 5=>`(by kernel_rfl)
 | 6=>`(by exact .inl rfl)
 | 7=>`(fun _ _=>rfl)
 | 8=>`(Or.inl (by kernel_rfl))
 | 9=>`(by first|exact .inl rfl|exact .inr (by kernel_rfl))
 | 10=>`(lX hr)
 | 11=>`(cV _)
 | _=>`(by omega)
open Lean in
def r4 (f:Name)(a:Array Term):MacroM Term:=do
 let some (_,n,k,c):=r3.find? (·.1==f) | Macro.throwUnsupported
 let b←c.mapM fun i=>do
  if i<100 then r8 i else if i<200 then return a.getD (i-100) ⟨.missing⟩ else if i<1000 then return mkIdent (r2.getD (i-200) .anonymous) else return mkIdent ((a.getD (i/1000-1) ⟨.missing⟩).raw.getId++r2.getD (i%1000) .anonymous)
 let b:=b.toArray
 if k==99 then `($(mkIdent n) $b*) else
 let h←`(_)
 let s:=Array.replicate k h
 `(@$(mkIdent n) $s* $b*)
local macro_rules|`($f:ident $a*)=>r4 f.getId (a.map fun x=>⟨x.raw⟩)
namespace G27
open PySem L2
noncomputable def top(i:Nat):Stmt:=PySem.Challenge.pw_gapwork_k27_single_doings.main.body.getD i (.Pass ⟨0,0,0,0⟩)
noncomputable abbrev fV:Stmt:=top 6
noncomputable abbrev gj:Stmt:=top 7
noncomputable abbrev iD:Stmt:=top 9
noncomputable abbrev mZ:Stmt:=top 12
noncomputable abbrev kA:Stmt:=top 13
noncomputable abbrev iQ:Stmt:=top 14
noncomputable abbrev l9:Stmt:=top 15
noncomputable abbrev mh:Stmt:=top 16
noncomputable abbrev jk:Stmt:=top 17
noncomputable abbrev iE:Stmt:=top 18
noncomputable abbrev jl:Stmt:=top 19
noncomputable abbrev fW:Stmt:=top 20
noncomputable abbrev mj:Stmt:=top 21
noncomputable abbrev jm:Stmt:=top 22
noncomputable abbrev jn:Stmt:=top 24
noncomputable abbrev iF:Stmt:=top 25
noncomputable abbrev fH:Stmt:=top 26
noncomputable abbrev fJ:Stmt:=top 27
noncomputable abbrev eX:Stmt:=top 28
noncomputable abbrev iG:Stmt:=top 29
noncomputable abbrev jo:Stmt:=top 31
noncomputable abbrev uJ:Stmt:=top 33
noncomputable abbrev o9:Stmt:=top 35
noncomputable abbrev pq:Stmt:=top 36
noncomputable abbrev bW:Stmt:=top 37
noncomputable abbrev iH:Stmt:=top 38
noncomputable abbrev mq:Stmt:=top 39
noncomputable abbrev iR:Stmt:=top 40
noncomputable abbrev fK:Stmt:=top 41
noncomputable abbrev iS:Stmt:=top 42
noncomputable abbrev iT:Stmt:=top 43
noncomputable abbrev fL:Stmt:=top 44
noncomputable abbrev dm:Stmt:=top 45
noncomputable abbrev fu:Stmt:=top 46
noncomputable abbrev j3:Stmt:=top 47
noncomputable abbrev gx:Stmt:=top 48
noncomputable abbrev fM:Stmt:=top 49
noncomputable abbrev jq:Stmt:=top 50
noncomputable abbrev oh:Stmt:=top 51
noncomputable abbrev cH:Stmt:=top 52
noncomputable abbrev pA:Stmt:=top 53
noncomputable def Gq(s:Stmt)(i:Nat):Stmt:=match s with
 |.ClassDef _ _ _ b _ _ _ _ _ _ _=>b.getD i (.Pass ⟨0,0,0,0⟩)
 |s=>s
noncomputable abbrev gy:Stmt:=Gq mZ 0
noncomputable abbrev iU:Stmt:=Gq mZ 1
noncomputable abbrev fz:Stmt:=Gq mZ 2
noncomputable abbrev gk:Stmt:=Gq mZ 3
noncomputable abbrev ic:Stmt:=Gq mZ 4
noncomputable abbrev fN:Stmt:=Gq mZ 5
section
variable {P:Program}{w:World}{K:PySem.W.Frag}{mg:Str->Option Value}{base:Heap}
theorem wB:aM ["_law_feed_here","_law_many","_law_digit","_law_one"] ["_law_feed_here","_law_many"] (af pq):=⟨rfl,rfl,rfl,by decide +kernel,rfl,by decide +kernel,by decide +kernel⟩
theorem C3{f:Addr}{fd:FuncData}(F:gJ K "_law_take" "_law_take" pq f fd):bF P w K mg base dX 1 f fd ["_law_feed_here","_law_many"] dJ:=by
 refine F.ok wB (fun vs H Q E h=>?_) (fun cdv A outer s H vs Q E hr h=>?_)
 ·obtain⟨a,m,rfl,_⟩:=h
  rfl
 obtain⟨a,m,rfl,m0,m1,⟨p,q,hf⟩,k⟩:=h
 refine⟨_,cz (dU (cM ug (Z3 aA (pv 0)) ak (cV _))
   (cz (jy (i:=2) wB.nd rfl (Or.inl rfl) (bK fg (Z3 aA (pv 0)) (pv 1)))
   (cz (vL (bK rQ (Z3 aA (pv 0)) (pv 1)) (vK (pv 0) ak set_list))
   (dH (iz (pv 2))))) iO)
  (cz (jy (i:=3) wB.nd rfl (Or.inl rfl) (bK fg (bK fU (Z3 aA (pv 0)) ak) ak))
  (cz (vL (bK eT (bK fg (bK eT (bK fU (pv 3) ak) ak) ak) ak) (vK (pv 0) ak set_list))
  (dH (iz (bK fg (bK rQ (bK eT (bK fU (pv 3) ak) (Z3 aA (pv 0))) ak) (pv 1)))))),?_⟩
 have ext:∀p' q':Int,Ext a H (upd H a (.lst [.int p',.int q'])):=fun p' q'=>⟨fun b o n e=>by rw[au n];exact e,p',q',ah⟩
 refine⟨_,rfl,a,_,0,_,rfl,rfl,cR.of hf,rfl,_,_,rfl,rfl,_,rfl,?_⟩
 refine bX (fun _=>?_) (fun _=>?_)
 ·refine⟨_,rfl,a,_,0,_,rfl,rfl,cR.of hf,rfl,_,rfl,_,_,rfl,rfl,m0,?_⟩
  refine⟨_,rfl,a,_,0,_,rfl,rfl,cR.of hf,rfl,_,rfl,_,_,rfl,rfl,⟨m0,m1⟩,?_⟩
  refine⟨_,rfl,a,_,0,0,rfl,rfl,hf,rfl,?_⟩
  refine⟨_,rfl,?_⟩
  exact k _ _ (Int.emod_nonneg _ (by omega)) (Int.emod_lt_of_pos _ m0) (ext _ _)
 ·refine⟨_,rfl,a,_,1,_,rfl,rfl,cR.of hf,rfl,_,_,rfl,rfl,.inr ⟨by decide,by decide⟩,_,_,rfl,rfl,(by show(0:Int)<2147483647;decide),?_⟩
  refine⟨_,rfl,_,_,rfl,rfl,.inr ⟨by decide,by decide⟩,_,_,rfl,rfl,_,_,rfl,rfl,(by show(0:Int)<2147483399;decide),_,_,rfl,rfl,?_⟩
  refine⟨_,rfl,a,_,1,1,rfl,rfl,hf,rfl,?_⟩
  refine⟨_,rfl,_,_,rfl,rfl,.inr ⟨by decide,by decide⟩,_,rfl,a,_,1,_,rfl,rfl,cR.of ah,rfl,_,_,rfl,rfl,_,_,rfl,rfl,⟨by decide,by decide⟩,_,rfl,_,_,rfl,rfl,m0,?_⟩
  exact k _ _ (Int.emod_nonneg _ (by omega)) (Int.emod_lt_of_pos _ m0) (ext _ _)
end
section
variable {P:Program}{w:World}{K:PySem.W.Frag}{mg:Str->Option Value}{base:Heap}
theorem m7:aM ["_law_script","_law_k","_law_cell","_law_own"] ["_law_script","_law_k"] (af o9):=⟨rfl,rfl,rfl,by decide +kernel,rfl,by decide +kernel,by decide +kernel⟩
theorem C4{f:Addr}{fd:FuncData}(F:gJ K "_law_feed" "_law_feed" o9 f fd)(ml:mg "len"=none):bF P w K mg base dX 1 f fd ["_law_script","_law_k"] (AL K):=by
 refine F.ok m7 (fun vs H Q E h=>?_) (fun cdv A outer s H vs Q E hr h=>?_)
 ·obtain⟨a,ns,m,rfl,_⟩:=h
  rfl
 obtain⟨a,ns,k,rfl,hS,hn,k0,k1,kk⟩:=h
 refine⟨_,cz (jy (i:=2) m7.nd rfl (Or.inl rfl) (bK eT (bK fU ak (pv 1)) ak))
  (cz (dU (cM jP (pv 1) (gu bC (by rfl) ml PySem.boot_len (aU (pv 0) aj)) (cV _))
   (dH (jy (i:=2) m7.nd rfl (Or.inl rfl) (lS aA (pv 0) (pv 1) (fun _ _=>rfl))))
   (dH (dU (cM ug (gu bC (by rfl) ml PySem.boot_len (aU (pv 0) aj)) ak (cV _))
    (dH (jy (i:=2) m7.nd rfl (Or.inl rfl) (bK eT (bK fU (bK fg (lS aA (pv 0) (bK fg (pv 1) (gu bC (by rfl) ml PySem.boot_len (aU (pv 0) aj))) (fun _ _=>rfl)) ak) ak) (bK fU ak (pv 1)))))
    iO)))
  (cz (jy (i:=3) m7.nd rfl (Or.inl rfl) ak)
  (cz (dU (cM GL (pv 2) (bK EU ak ak) (cV _)) (dH (jy (i:=3) m7.nd rfl (Or.inl rfl) (pv 2))) iO)
  (dH (iz (b8 (aU (pv 3) (aU (bK eT (bK fg (bK eT (bK fU (bK fg (pv 2) ak) ak) (bK fU ak (pv 1))) ak) ak) aj)))))))),?_⟩
 have hl:(ns.map V.int).length=ns.length:=List.length_map _
 refine⟨_,rfl,_,_,rfl,rfl,.inl ⟨by decide,by decide⟩,_,_,rfl,rfl,?_⟩
 refine⟨_,rfl,_,rfl,a,_,rfl,.inl hS,_,_,rfl,rfl,_,rfl,?_⟩
 refine bX (fun c=>?_) (fun c=>?_)
 ·have c':k<((ns.map V.int).length:Int):=of_decide_eq_true c
  rw[hl]at c'
  obtain⟨v,hv⟩:=yc (ns:=ns) k0 c'
  refine⟨_,rfl,_,rfl,a,_,_,_,rfl,rfl,hS,hv,?_⟩
  refine⟨_,rfl,_,_,rfl,rfl,⟨by decide,by decide,by decide⟩,_,_,rfl,rfl,_,rfl,bX (fun _=>?_) (fun _=>?_)⟩
  ·refine⟨_,rfl,_,rfl,_,rfl,_,_,rfl,rfl,(by show(0:Int)<2147483629;decide),_,_,rfl,rfl,.inr ⟨by decide,by decide⟩,_,rfl,_,_,rfl,rfl,.inl ⟨by decide,by decide⟩,_,_,rfl,rfl,_,_,rfl,rfl,(by show(0:Int)<2147483629;decide),_,_,rfl,rfl,(by show 2<=sizeLine;decide),fun l hl=>?_⟩
   exact kk l _ (ae hl _) hl ⟨_,_,ah⟩
  ·refine⟨_,rfl,_,rfl,_,_,rfl,rfl,(by show(0:Int)<2147483629;decide),_,_,rfl,rfl,.inr ⟨by decide,by decide⟩,_,rfl,_,_,rfl,rfl,.inl ⟨by decide,by decide⟩,_,_,rfl,rfl,_,_,rfl,rfl,(by show(0:Int)<2147483629;decide),_,_,rfl,rfl,(by show 2<=sizeLine;decide),fun l hl=>?_⟩
   exact kk l _ (ae hl _) hl ⟨_,_,ah⟩
 ·refine⟨_,rfl,a,_,rfl,.inl hS,_,_,rfl,rfl,_,rfl,?_⟩
  refine bX (fun d=>?_) (fun d=>?_)
  ·have d':(0:Int)<((ns.map V.int).length:Int):=of_decide_eq_true d
   have d2:(0:Int)<(ns.length:Int):=by rw[hl]at d';exact d'
   obtain⟨v,hv⟩:=yc (ns:=ns) (k:=k % (((ns.map V.int).length:Nat):Int)) (Int.emod_nonneg _ (by omega)) (by rw[hl];exact Int.emod_lt_of_pos _ d2)
   refine⟨_,rfl,_,rfl,_,rfl,a,_,rfl,.inl hS,_,_,rfl,rfl,d',a,_,_,_,rfl,rfl,hS,hv,_,_,rfl,rfl,(by show(0:Int)<2147483629;decide),_,_,rfl,rfl,.inr ⟨by decide,by decide⟩,_,rfl,_,_,rfl,rfl,.inl ⟨by decide,by decide⟩,_,_,rfl,rfl,?_⟩
   refine⟨_,rfl,_,_,rfl,rfl,⟨by decide,by decide,by decide⟩,_,_,rfl,rfl,_,rfl,bX (fun _=>?_) (fun _=>?_)⟩
   ·refine⟨_,rfl,_,rfl,_,rfl,_,_,rfl,rfl,(by show(0:Int)<2147483629;decide),_,_,rfl,rfl,.inr ⟨by decide,by decide⟩,_,rfl,_,_,rfl,rfl,.inl ⟨by decide,by decide⟩,_,_,rfl,rfl,_,_,rfl,rfl,(by show(0:Int)<2147483629;decide),_,_,rfl,rfl,(by show 2<=sizeLine;decide),fun l hl=>?_⟩
    exact kk l _ (ae hl _) hl ⟨_,_,ah⟩
   ·refine⟨_,rfl,_,rfl,_,_,rfl,rfl,(by show(0:Int)<2147483629;decide),_,_,rfl,rfl,.inr ⟨by decide,by decide⟩,_,rfl,_,_,rfl,rfl,.inl ⟨by decide,by decide⟩,_,_,rfl,rfl,_,_,rfl,rfl,(by show(0:Int)<2147483629;decide),_,_,rfl,rfl,(by show 2<=sizeLine;decide),fun l hl=>?_⟩
    exact kk l _ (ae hl _) hl ⟨_,_,ah⟩
  ·refine⟨_,rfl,_,_,rfl,rfl,⟨by decide,by decide,by decide⟩,_,_,rfl,rfl,_,rfl,bX (fun _=>?_) (fun _=>?_)⟩
   ·refine⟨_,rfl,_,rfl,_,rfl,_,_,rfl,rfl,(by show(0:Int)<2147483629;decide),_,_,rfl,rfl,.inr ⟨by decide,by decide⟩,_,rfl,_,_,rfl,rfl,.inl ⟨by decide,by decide⟩,_,_,rfl,rfl,_,_,rfl,rfl,(by show(0:Int)<2147483629;decide),_,_,rfl,rfl,(by show 2<=sizeLine;decide),fun l hl=>?_⟩
    exact kk l _ (ae hl _) hl ⟨_,_,ah⟩
   ·refine⟨_,rfl,_,rfl,_,_,rfl,rfl,(by show(0:Int)<2147483629;decide),_,_,rfl,rfl,.inr ⟨by decide,by decide⟩,_,rfl,_,_,rfl,rfl,.inl ⟨by decide,by decide⟩,_,_,rfl,rfl,_,_,rfl,rfl,(by show(0:Int)<2147483629;decide),_,_,rfl,rfl,(by show 2<=sizeLine;decide),fun l hl=>?_⟩
    exact kk l _ (ae hl _) hl ⟨_,_,ah⟩
end
end G27
namespace L2
open PySem
theorem pB{f:Str}{v:V}{n:Nat}(k:Nat):∀{fs:List (Str×V)},fs.length+(k+1)<n->(fB f v fs).length+k<n
 | [],h=>by show 1+k<n;simp at h;omega
 |(g,x)::r,h=>by
  unfold fB
  split
  ·rw[List.length_cons]at h⊢;omega
  ·rw[List.length_cons]at h⊢
   have:=pB (f:=f) (v:=v) (n:=n) (k+1) (fs:=r) (by omega)
   omega
theorem AO{f:Str}{v:V}{n:Nat}{fs:List (Str×V)}(h:fs.length+1<n):(fB f v fs).length<n:=pB 0 h
theorem bY{X0:zT}{P:Program}{w:World}{K:PySem.W.Frag}{mg:Str->Option Value}{base:Heap}{N:List Str}{nm:Str}{sc:Scope}{f:Addr}{cdv:Value}{A:Around}{outer:List PySem.Env}{s:Shared}{H:Hp}{E:XK}:(ji X0 P w K mg base N nm sc f cdv A outer s H E).tX.K=K:=rfl
noncomputable def Cut(b:TS)(D:Ends)(N:St->Hp->Prop):Prop:=∀σ H,b D σ H->N σ H
theorem Cut.go{b:TS}{D:Ends}{N:St->Hp->Prop}{σ:St}{H:Hp}(h:Cut b D N)(g:b D σ H):N σ H:=h σ H g
theorem mw{a b:TS}{D:Ends}{σ:St}{H:Hp}(h:∀N:St->Hp->Prop,Cut b D N->a {D with nx:=N} σ H):aT a b D σ H:=h (b D) (fun _ _ x=>x)
theorem C5{D:Ends}{σ:St}{H:Hp}(h:D.nx σ H):D7 D σ H:=h
theorem C6{D:Ends}{σ:St}{H:Hp}{v:V}{i:Nat}(h:D.nx (σ.set i (some v)) H):nK (tC v) (dW i) D σ H:=h
theorem AQ{t0 t1 t2:TS}{D:Ends}{σ:St}{H:Hp}(h:∀N1 N2:St->Hp->Prop,Cut t1 {D with nx:=N2} N1->Cut t2 D N2->t0 {D with nx:=N1} σ H):aT t0 (aT t1 t2) D σ H:=h (aT t1 t2 D) (t2 D) (fun _ _ x=>x) (fun _ _ x=>x)
theorem AR{t0 t1 t2 t3:TS}{D:Ends}{σ:St}{H:Hp}(h:∀N1 N2 N3:St->Hp->Prop,Cut t1 {D with nx:=N2} N1->Cut t2 {D with nx:=N3} N2->Cut t3 D N3->t0 {D with nx:=N1} σ H):aT t0 (aT t1 (aT t2 t3)) D σ H:=h (aT t1 (aT t2 t3) D) (aT t2 t3 D) (t3 D) (fun _ _ x=>x) (fun _ _ x=>x) (fun _ _ x=>x)
theorem AS{t0 t1 t2 t3 t4:TS}{D:Ends}{σ:St}{H:Hp}(h:∀N1 N2 N3 N4:St->Hp->Prop,Cut t1 {D with nx:=N2} N1->Cut t2 {D with nx:=N3} N2->Cut t3 {D with nx:=N4} N3->Cut t4 D N4->t0 {D with nx:=N1} σ H):aT t0 (aT t1 (aT t2 (aT t3 t4))) D σ H:=h (aT t1 (aT t2 (aT t3 t4)) D) (aT t2 (aT t3 t4) D) (aT t3 t4 D) (t4 D) (fun _ _ x=>x) (fun _ _ x=>x) (fun _ _ x=>x) (fun _ _ x=>x)
theorem uK{t0 t1 t2 t3 t4 t5:TS}{D:Ends}{σ:St}{H:Hp}(h:∀N1 N2 N3 N4 N5:St->Hp->Prop,Cut t1 {D with nx:=N2} N1->Cut t2 {D with nx:=N3} N2->Cut t3 {D with nx:=N4} N3->Cut t4 {D with nx:=N5} N4->Cut t5 D N5->t0 {D with nx:=N1} σ H):aT t0 (aT t1 (aT t2 (aT t3 (aT t4 t5)))) D σ H:=h (aT t1 (aT t2 (aT t3 (aT t4 t5))) D) (aT t2 (aT t3 (aT t4 t5)) D) (aT t3 (aT t4 t5) D) (aT t4 t5 D) (t5 D) (fun _ _ x=>x) (fun _ _ x=>x) (fun _ _ x=>x) (fun _ _ x=>x) (fun _ _ x=>x)
theorem AU{t0 t1 t2 t3 t4 t5 t6:TS}{D:Ends}{σ:St}{H:Hp}(h:∀N1 N2 N3 N4 N5 N6:St->Hp->Prop,Cut t1 {D with nx:=N2} N1->Cut t2 {D with nx:=N3} N2->Cut t3 {D with nx:=N4} N3->Cut t4 {D with nx:=N5} N4->Cut t5 {D with nx:=N6} N5->Cut t6 D N6->t0 {D with nx:=N1} σ H):aT t0 (aT t1 (aT t2 (aT t3 (aT t4 (aT t5 t6))))) D σ H:=h (aT t1 (aT t2 (aT t3 (aT t4 (aT t5 t6)))) D) (aT t2 (aT t3 (aT t4 (aT t5 t6))) D) (aT t3 (aT t4 (aT t5 t6)) D) (aT t4 (aT t5 t6) D) (aT t5 t6 D) (t6 D) (fun _ _ x=>x) (fun _ _ x=>x) (fun _ _ x=>x) (fun _ _ x=>x) (fun _ _ x=>x) (fun _ _ x=>x)
theorem AV{t0 t1 t2 t3 t4 t5 t6 t7 t8:TS}{D:Ends}{σ:St}{H:Hp}(h:∀N1 N2 N3 N4 N5 N6 N7 N8:St->Hp->Prop,Cut t1 {D with nx:=N2} N1->Cut t2 {D with nx:=N3} N2->Cut t3 {D with nx:=N4} N3->Cut t4 {D with nx:=N5} N4->Cut t5 {D with nx:=N6} N5->Cut t6 {D with nx:=N7} N6->Cut t7 {D with nx:=N8} N7->Cut t8 D N8->t0 {D with nx:=N1} σ H):aT t0 (aT t1 (aT t2 (aT t3 (aT t4 (aT t5 (aT t6 (aT t7 t8))))))) D σ H:=h (aT t1 (aT t2 (aT t3 (aT t4 (aT t5 (aT t6 (aT t7 t8)))))) D) (aT t2 (aT t3 (aT t4 (aT t5 (aT t6 (aT t7 t8))))) D) (aT t3 (aT t4 (aT t5 (aT t6 (aT t7 t8)))) D) (aT t4 (aT t5 (aT t6 (aT t7 t8))) D) (aT t5 (aT t6 (aT t7 t8)) D) (aT t6 (aT t7 t8) D) (aT t7 t8 D) (t8 D) (fun _ _ x=>x) (fun _ _ x=>x) (fun _ _ x=>x) (fun _ _ x=>x) (fun _ _ x=>x) (fun _ _ x=>x) (fun _ _ x=>x) (fun _ _ x=>x)
theorem Ip{d:Nat}:T.cA []<=d:=by rw[T.cA];exact Nat.zero_le _
theorem yd{x:T}{xs:List T}{d:Nat}(h:x.dep<=d)(r:T.cA xs<=d):T.cA (x::xs)<=d:=by rw[T.cA];exact Nat.max_le.mpr ⟨h,r⟩
theorem Gr{xs:List T}{d:Nat}(h:T.cA xs<=d):T.dep (.t xs)<=d+1:=by rw[T.dep];exact Nat.succ_le_succ h
theorem Gs{x:Str}{d:Nat}:T.dep (.s x)<=d:=by simp[T.dep]
theorem JE{x:Int}{d:Nat}:T.dep (.i x)<=d:=by simp[T.dep]
end L2
open L2 in
local macro_rules | `(tactic| fail "Z") => `(tactic| first | exact cR.of (by first | assumption | exact ah) | exact bT.of (by first | assumption | exact ah) | omega | (dsimp only [List.length_cons, List.length_nil]; decide) | decide | exact Nat.zero_le _ | (refine AO ?_; (repeat with_reducible refine pB _ ?_); decide))
open L2 in
local macro_rules | `(tactic| fail "S") => `(tactic| first
  | ((with_reducible change @Eq _ _ _); (first | exact rfl | assumption | exact ah | (rw [au (by assumption)]; first | exact ah | assumption | (rw [au (by assumption)]; first | exact ah | assumption)) | omega))
  | ((with_reducible first | change @LT.lt _ _ _ _ | change @LE.le _ _ _ _); (first | omega | with_reducible assumption | fail "Z"))
  | assumption
  | ((with_reducible refine And.intro ?_ ?_) <;> fail "S")
  | ((with_reducible refine Or.inl ?_); fail "S")
  | ((with_reducible refine Or.inr ?_); fail "S")
  | ((with_reducible apply Exists.intro); fail "S")
  | ((with_reducible first | change Im _ _ _ _ | change EW _ _ _ _ | change ET _ _ | change yO _ _ | change GJ _ _); first | ((first | refine (?_ : @Eq _ _ _) | refine (?_ : And _ _) | refine (?_ : Or _ _) | refine (?_ : Exists _)); fail "S") | exact True.intro)
  | fail "Z")
open L2 in
local macro_rules | `(tactic| fail "T") => `(tactic| first
  | ((with_reducible first | refine AV ?_ | refine AU ?_ | refine uK ?_ | refine AS ?_ | refine AR ?_ | refine AQ ?_ | refine mw ?_); intros)
  | (refine (?_ : Exists _); first
     | with_reducible first | apply @Exists.intro Hp | apply @Exists.intro Sp
     | ((fail_if_success (with_reducible apply @Exists.intro (_ → _))); apply Exists.intro))
  | (refine And.intro ?_ ?_; fail "S")
  | ((try with_reducible first | refine C5 ?_ | refine C6 ?_); refine (by with_reducible assumption : Cut _ _ _) _ _ ?_))
local macro_rules | `(tactic| fail "R") => `(tactic| first | (fail "T"; fail "R") | refine And.intro ?_ ?_ | refine (?_ : @ite _ _ _ _ _) | skip)
local macro_rules | `(tactic| fail "F") => `(tactic| first | ((with_reducible apply Exists.intro); fail "F") | ((with_reducible refine And.intro ?_ ?_); fail "S"))
local macro_rules | `(tactic| fail "O") => `(tactic| first | (fail "T"; fail "O") | refine And.intro ?_ ?_ | ((first | (refine Or.inl ?_; fail "F") | (refine Or.inr ?_; fail "F")); fail "O") | refine (?_ : @ite _ _ _ _ _) | skip)
open L2 in
local macro_rules | `(tactic| fail "D") => `(tactic| repeat' first | exact Ip | exact Gs | exact JE | assumption | exact Nat.le_trans (by assumption) (by decide) | refine Gr ?_ | refine yd ?_ ?_)
namespace G27
open PySem L2
noncomputable def placesOf:List (Str×List Nat):=[("num",[]),("name",[]),("gap",[]),("op",[2,3]),("more",[1,2]),("first",[1]),("others",[1]),("long",[1]),("if",[1,2,3])]
noncomputable def pF:List (Str×V):=[("row",.int 1),("tag",.int 2),("call",.int 2)]
structure Ho(K:PySem.W.Frag) (w:World) (mg:Str->Option Value) (dP dM:Addr) (pl:List (Str×V)):Prop where
 mP:mg "PLACES"=some (.ref dP)
 mM:mg "PLACE_OF_MANY"=some (.ref dM)
 kP:KD K w dP pl
 kM:KD K w dM pF
 at_:∀f ps,(f,ps)∈placesOf->∃a,pl.lookup f=some (.ref a)/\∀H,bT K H a (ps.map fun(j:Nat)=>V.int (j:Int))
noncomputable def qP(K:PySem.W.Frag):Sp:=fun vs H Q _=>∃(v:V) (tm:Tm),vs=[v]/\Rp K H (enc tm) v/\Wf tm/\tm.ks.length<=900 /\
 ∀(p:Addr) (H':Hp) (ws:List V),br H H'->H' p=some (.lst ws)->bB K H' ((right tm).map ny) ws->Q (.ref p) H'
theorem qQ:∀ks:List Tm,((List.replicate ks.length ([]:List Str)).zip ks).map ny=(ks.map enc).map fun k=>.t [.t [],k]
 | []=>rfl
 |k::r=>by rw[List.length_cons,List.replicate_succ,List.zip_cons_cons,List.map_cons,List.map_cons,List.map_cons,qQ r];rfl
theorem nA{h:Hd}{ks:List Tm}(e:bnd h ks.length=List.replicate ks.length []):(right (.mk h ks)).map ny=(ks.map enc).map fun k=>.t [.t [],k]:=by
 unfold right
 show((bnd h ks.length).zip ks).map ny=_
 rw[e]
 exact qQ ks
theorem uL:∀(arms:List (Str×List Str)) (kr:List Tm),arms.length=kr.length->((arms.map (·.2)).zip kr).map ny=List.zipWith (fun(a:Str×List Str) k=>T.t [.t (a.2.map .s),k]) arms (kr.map enc)
 | [],kr,h=>rfl
 |x::r,[],h=>rfl
 |x::r,y::q,h=>by rw[List.map_cons,List.zip_cons_cons,List.map_cons,List.map_cons,List.zipWith_cons_cons,uL r q (by simpa using h)];rfl
theorem Jb{α:Type}(v:α)(q:List α):fR (v::q) 0=some v:=aN (j:=0) rfl
theorem l1{α:Type}:∀{xs:List α},xs.length=1->∃a,xs=[a]
 | [a],_=>⟨a,rfl⟩
theorem l2{α:Type}:∀{xs:List α},xs.length=2->∃a b,xs=[a,b]
 | [a,b],_=>⟨a,b,rfl⟩
theorem l3{α:Type}:∀{xs:List α},xs.length=3->∃a b c,xs=[a,b,c]
 | [a,b,c],_=>⟨a,b,c,rfl⟩
theorem Gu{a b:Str}(h:a≠b):decide (V.str a=V.str b)=false:=decide_eq_false fun z=>h (V.str.inj z)
theorem AW:∀p∈placesOf,p.1≠"match"/\p.1≠"let"/\p.1≠"fold"/\(List.lookup p.1 pF).isSome=false:=by decide +kernel
theorem zg{fm:Str}{ps:List Nat}(hm:(fm,ps)∈placesOf):ps.length<=1000:=(show ∀p∈placesOf,p.2.length<=1000 by decide +kernel) _ hm
theorem C7:∀p∈([("row",1),("tag",2),("call",2)]:List (Str×Nat)),p.1≠"match"/\p.1≠"let"/\p.1≠"fold"/\pF.lookup p.1=some (.int (p.2:Int)):=by decide +kernel
noncomputable def E7(hd:Hd)(ks:List Tm):Prop:=∃(fm:Str) (r:List T) (ps:List Nat),(fm,ps)∈placesOf/\wo hd (ks.map enc)=.t (.s fm::r)/\ps.map (fun(j:Nat)=>(T.s fm::r)[j]?)=(ks.map enc).map some/\bnd hd ks.length=List.replicate ks.length []
noncomputable def Hq(hd:Hd)(ks:List Tm):Prop:=∃(fm:Str) (r:List T) (j:Nat),(fm,j)∈([("row",1),("tag",2),("call",2)]:List (Str×Nat))/\wo hd (ks.map enc)=.t (.s fm::r)/\(T.s fm::r)[j]?=some (.t (ks.map enc))/\bnd hd ks.length=List.replicate ks.length []
theorem C8 {hd : Hd} {ks : List Tm} (ar : i7 hd ks.length = true) : E7 hd ks ∨ Hq hd ks ∨ (∃ arms, hd = .mat arms) ∨ (∃ x, hd = .lt x) ∨ ∃ x y, hd = .fold x y := by
  cases hd
  case num n => obtain rfl : ks = [] := by simpa [i7] using ar
                exact .inl ⟨"num", [.i n], [], by decide +kernel, rfl, rfl, rfl⟩
  case name x => obtain rfl : ks = [] := by simpa [i7] using ar
                 exact .inl ⟨"name", [.s x], [], by decide +kernel, rfl, rfl, rfl⟩
  case gap n => obtain rfl : ks = [] := by simpa [i7] using ar
                exact .inl ⟨"gap", [.i n], [], by decide +kernel, rfl, rfl, rfl⟩
  case op s => obtain ⟨a, b, rfl⟩ := l2 (show ks.length = 2 by simpa [i7] using ar)
               exact .inl ⟨"op", [.s s, enc a, enc b], [2, 3], by decide +kernel, rfl, rfl, rfl⟩
  case more => obtain ⟨a, b, rfl⟩ := l2 (show ks.length = 2 by simpa [i7] using ar)
               exact .inl ⟨"more", [enc a, enc b], [1, 2], by decide +kernel, rfl, rfl, rfl⟩
  case first => obtain ⟨a, rfl⟩ := l1 (show ks.length = 1 by simpa [i7] using ar)
                exact .inl ⟨"first", [enc a], [1], by decide +kernel, rfl, rfl, rfl⟩
  case others => obtain ⟨a, rfl⟩ := l1 (show ks.length = 1 by simpa [i7] using ar)
                 exact .inl ⟨"others", [enc a], [1], by decide +kernel, rfl, rfl, rfl⟩
  case long => obtain ⟨a, rfl⟩ := l1 (show ks.length = 1 by simpa [i7] using ar)
               exact .inl ⟨"long", [enc a], [1], by decide +kernel, rfl, rfl, rfl⟩
  case ife => obtain ⟨a, b, c, rfl⟩ := l3 (show ks.length = 3 by simpa [i7] using ar)
              exact .inl ⟨"if", [enc a, enc b, enc c], [1, 2, 3], by decide +kernel, rfl, rfl, rfl⟩
  case row => exact .inr (.inl ⟨"row", [.t (ks.map enc)], 1, by decide +kernel, rfl, rfl, rfl⟩)
  case tag t => exact .inr (.inl ⟨"tag", [.s t, .t (ks.map enc)], 2, by decide +kernel, rfl, rfl, rfl⟩)
  case call t => exact .inr (.inl ⟨"call", [.s t, .t (ks.map enc)], 2, by decide +kernel, rfl, rfl, rfl⟩)
  case mat arms => exact .inr (.inr (.inl ⟨_, rfl⟩))
  case lt x => exact .inr (.inr (.inr (.inl ⟨_, rfl⟩)))
  case fold x y => exact .inr (.inr (.inr (.inr ⟨_, _, rfl⟩)))
section
variable {P:Program}{w:World}{K:PySem.W.Frag}{mg:Str->Option Value}{base:Heap}{dP dM:Addr}{pl:List (Str×V)}
theorem qR:aM ["term","form"] ["term"] (af fV):=⟨rfl,rfl,rfl,by decide +kernel,rfl,by decide +kernel,by decide +kernel⟩
theorem uM{f:Addr}{fd:FuncData}(F:gJ K "right_in" "right_in" fV f fd)(TB:Ho K w mg dP dM pl):bF P w K mg base dX 1 f fd ["term"] (qP K):=by
 refine F.ok qR (fun vs H Q E h=>?_) (fun cdv A outer s H vs Q E hr h=>?_)
 ·obtain⟨v,tm,rfl,_⟩:=h
  rfl
 obtain⟨v,tm,rfl,hv,wf,hlen,k⟩:=h
 refine⟨_,(cz (jy (i:=1) qR.nd rfl (Or.inl rfl) (Z3 ay (pv 0)))
  (cz (dU (Zl (pv 1) aq) (dH (iz (bK As (b8 (aU (bV (aU (bV aj) (aU (Z3 ay (pv 0)) aj))) aj)) (dR (af fV) ["term","form"] ["tag","names","inner"] [] rfl rfl rfl (by decide +kernel) (jT (Z3 ay (pv 0))) (fun _ _ _ _=>(sL (n:=3) K rfl rfl (aQ (gY (i:=0) (show(["tag","names","inner"]:List Str).Nodup by decide +kernel) rfl (Or.inl rfl)) (aQ (gY (i:=1) (show(["tag","names","inner"]:List Str).Nodup by decide +kernel) rfl (Or.inl rfl)) (aQ (gY (i:=2) (show(["tag","names","inner"]:List Str).Nodup by decide +kernel) rfl (Or.inl rfl)) bh))))) (fun _ _ _ _=>cN) (fun _ _ _ _=>(bV (aU (pv 1) (aU (pv 2) aj)))))))) iO)
  (cz (dU (Zl (pv 1) aq) (dH (iz (b8 (aU (bV (aU (bV aj) (aU (Z3 ay (pv 0)) aj))) (aU (bV (aU (bV (aU (Z3 ay (pv 0)) aj)) (aU (Z3 ay (pv 0)) aj))) aj))))) iO)
  (cz (dU (Zl (pv 1) aq) (dH (iz (b8 (aU (bV (aU (bV aj) (aU (Z3 ay (pv 0)) aj))) (aU (bV (aU (bV aj) (aU (Z3 ay (pv 0)) aj))) (aU (bV (aU (bV (aU (Z3 ay (pv 0)) (aU (Z3 ay (pv 0)) aj))) (aU (Z3 ay (pv 0)) aj))) aj)))))) iO)
  (cz (dU (cM CZ (pv 1) (iM (v:=.ref dM) (by rfl) TB.mM rfl) (by with_unfolding_all rfl)) (dH (iz (dR (af fV) ["term","form"] ["inner"] [] rfl rfl rfl (by decide +kernel) (jT (lS ay (pv 0) (nZ (iM (v:=.ref dM) (by rfl) TB.mM rfl) (pv 1) (fun _ _=>rfl)) (fun _ _=>rfl))) (fun _ _ _ _=>(gY (i:=0) (show(["inner"]:List Str).Nodup by decide +kernel) rfl (Or.inl rfl))) (fun _ _ _ _=>cN) (fun _ _ _ _=>(bV (aU (bV aj) (aU (pv 0) aj))))))) iO)
  (dH (iz (dR (af fV) ["term","form"] ["place"] [0] rfl rfl rfl (by decide +kernel) (jT (nZ (iM (v:=.ref dP) (by rfl) TB.mP rfl) (pv 1) (fun _ _=>rfl))) (fun _ _ _ _=>(gY (i:=0) (show(["place","term"]:List Str).Nodup by decide +kernel) rfl (Or.inl rfl))) (fun _ _ _ _=>cN) (fun _ _ _ _=>(bV (aU (bV aj) (aU (lS (sN K rfl) (pv 1) (pv 0) (fun _ _=>rfl)) aj)))))))))))),?_⟩
 try dsimp only[bY]
 have kM:=TB.kM
 have kP:=TB.kP
 refine uK ?_
 intro N1 N2 N3 N4 N5 c1 c2 c3 c4 c5
 cases wf with
 |mk ar wk =>
 rename_i hd ks
 rw[bO]at hv
 have hlen':ks.length<=900:=hlen
 have nE:(ks.map enc).length=ks.length:=List.length_map _
 rcases C8 ar with⟨fm,r,ps,hm,he,hp,hb⟩|⟨fm,r,j,hm,he,hj,hb⟩|⟨arms,rfl⟩|⟨x,rfl⟩|⟨x,y,rfl⟩
 ·rw[he]at hv
  obtain⟨a,vs,rfl,hS,hr0⟩:=hv.bj
  obtain⟨v0,q0,rfl,e0,hr1⟩:=hr0.inv
  obtain rfl:=e0.aD
  obtain⟨pa,lk,hpa⟩:=TB.at_ fm ps hm
  have hpa':=hpa H
  fail "R"
  ·exact Jb _ _
  fail "R"
  obtain⟨n1,n2,n3,n4⟩:=AW (fm,ps) hm
  refine qO (Gu n1) ?_
  fail "R"
  refine qO (Gu n2) ?_
  fail "R"
  refine qO (Gu n3) ?_
  fail "R"
  refine qO n4 ?_
  fail "R"
  refine uH (ks:=ks.map enc) hS hr0 (hpa H) (zg hm) hp fun p H' ws s1 h1 r1=>k p H' ws s1 h1 ?_
  rw[nA hb];exact r1
 ·rw[he]at hv
  obtain⟨a,vs,rfl,hS,hr0⟩:=hv.bj
  obtain⟨u,hu,ru⟩:=hr0.get hj
  obtain⟨b,us,rfl,hSb,hrb⟩:=ru.bj
  obtain⟨v0,q0,rfl,e0,hr1⟩:=hr0.inv
  obtain rfl:=e0.aD
  obtain⟨n1,n2,n3,n4⟩:=C7 (fm,j) hm
  have n4':List.lookup fm pF=some (.int (j:Int)):=n4
  have hat:=aN hu
  fail "R"
  ·exact Jb _ _
  fail "R"
  refine qO (Gu n1) ?_
  fail "R"
  refine qO (Gu n2) ?_
  fail "R"
  refine qO (Gu n3) ?_
  fail "R"
  refine I9 (by rw[n4];rfl) ?_
  fail "R"
  refine zc (ks:=ks.map enc) hSb hrb (by omega) fun p H' ws s1 h1 r1=>k p H' ws s1 h1 ?_
  rw[nA hb];exact r1
 ·skip
  have hk:ks.length=arms.length+1:=by simpa[i7]using ar
  match ks,hk with
  |k0::kr,hk =>
  have hkr:arms.length=kr.length:=by simpa using hk.symm
  unfold wo at hv
  obtain⟨a,vs,rfl,hS,hr0⟩:=hv.bj
  obtain⟨v0,q0,rfl,e0,hr1⟩:=hr0.inv
  obtain rfl:=e0.aD
  obtain⟨v1,q1,rfl,e1,hr2⟩:=hr1.inv
  obtain⟨v2,q2,rfl,e2,hr3⟩:=hr2.inv
  obtain rfl:=hr3.cZ
  obtain⟨b,us,rfl,hSb,hrb⟩:=e2.bj
  fail "R"
  intro p1 hp1
  have s1:=ae hp1 (.tup [])
  refine⟨_,rfl,a,_,1,_,rfl,rfl,hS.same s1,rfl,(by show 2<=sizeLine;decide),fun p2 hp2=>?_⟩
  have s2:=s1.trans (ae hp2 (.tup [.ref p1,v1]))
  refine⟨(by show 1<=sizeLine;decide),fun p3 hp3=>?_⟩
  have s3:=s2.trans (ae hp3 (.lst [.ref p2]))
  refine⟨_,rfl,a,_,2,_,rfl,rfl,hS.same s3,rfl,b,rfl,⟨_,hSb.same s3⟩,?_⟩
  refine zd (arms:=arms) (ks:=kr.map enc) (by rw[List.length_map];exact hkr) (hSb.same s3) (by exact hrb.same s3) (by rw[List.length_map];have:=hlen';simp at this;omega) fun p H' ws s4 h4 r4=>?_
  have z3:H' p3=some (.lst [.ref p2]):=s4 _ _ ah
  refine⟨p3,p,_,_,rfl,rfl,z3,h4,?_,fun p5 hp5=>?_⟩
  ·have l:=r4.length
   rw[List.length_zipWith,List.length_map]at l
   rw[l]
   exact small (by have:=hlen';simp at this;show 1+_<=1000;omega)
  have s5:=s4.trans (ae hp5 (.lst ([.ref p2]++ws)))
  refine k p5 _ _ (s3.trans s5) ah ?_
  have e:(right (.mk (.mat arms) (k0::kr))).map ny=T.t [.t [],enc k0]::List.zipWith (fun(a:Str×List Str) k=>T.t [.t (a.2.map .s),k]) arms (kr.map enc):=by
   unfold right
   show((([]:List Str)::arms.map (·.2)).zip (k0::kr)).map ny=_
   rw[List.zip_cons_cons,List.map_cons]
   rw[uL arms kr hkr]
   rfl
  rw[e]
  refine .cons ?_ (r4.same (ae hp5 _))
  refine Rp.same ((ae hp3 _).trans s5) (Rp.new hp2 (.cons (Rp.new hp1 .nil) (.one (e1.same s1))))
 ·skip
  have hk:ks.length=2:=by simpa[i7]using ar
  match ks,hk with
  | [k0,k1],hk =>
  unfold wo at hv
  obtain⟨a,vs,rfl,hS,hr0⟩:=hv.bj
  obtain⟨v0,q0,rfl,e0,hr1⟩:=hr0.inv
  obtain rfl:=e0.aD
  obtain⟨v1,q1,rfl,e1,hr2⟩:=hr1.inv
  obtain⟨v2,q2,rfl,e2,hr3⟩:=bB.inv hr2
  obtain⟨v3,q3,rfl,e3,hr4⟩:=bB.inv hr3
  obtain rfl:=hr4.cZ
  fail "R"
  intro p1 hp1
  have s1:=ae hp1 (.tup [])
  refine⟨_,rfl,a,_,2,_,rfl,rfl,hS.same s1,rfl,(by show 2<=sizeLine;decide),fun p2 hp2=>?_⟩
  have s2:=s1.trans (ae hp2 (.tup [.ref p1,v2]))
  refine⟨_,rfl,a,_,1,_,rfl,rfl,hS.same s2,rfl,(by show 1<=sizeLine;decide),fun p3 hp3=>?_⟩
  have s3:=s2.trans (ae hp3 (.tup [v1]))
  refine⟨_,rfl,a,_,3,_,rfl,rfl,hS.same s3,rfl,(by show 2<=sizeLine;decide),fun p4 hp4=>?_⟩
  have s4:=s3.trans (ae hp4 (.tup [.ref p3,v3]))
  refine⟨(by show 2<=sizeLine;decide),fun p5 hp5=>?_⟩
  have s5:=s4.trans (ae hp5 (.lst [.ref p2,.ref p4]))
  refine k p5 _ _ s5 ah ?_
  refine .cons (Rp.same ((ae hp3 _).trans ((ae hp4 _).trans (ae hp5 _))) (Rp.new hp2 (.cons (Rp.new hp1 .nil) (.one (e2.same s1))))) (.one ?_)
  exact Rp.same (ae hp5 _) (Rp.new hp4 (.cons (Rp.new hp3 (.one (e1.same s2))) (.one (e3.same s3))))
 ·skip
  have hk:ks.length=3:=by simpa[i7]using ar
  match ks,hk with
  | [k0,k1,k2],hk =>
  unfold wo at hv
  obtain⟨a,vs,rfl,hS,hr0⟩:=hv.bj
  obtain⟨v0,q0,rfl,e0,hr1⟩:=hr0.inv
  obtain rfl:=e0.aD
  obtain⟨v1,q1,rfl,e1,hr2⟩:=hr1.inv
  obtain⟨v2,q2,rfl,e2,hr3⟩:=hr2.inv
  obtain⟨v3,q3,rfl,e3,hr4⟩:=hr3.inv
  obtain⟨v4,q4,rfl,e4,hr5⟩:=hr4.inv
  obtain⟨v5,q5,rfl,e5,hr6⟩:=hr5.inv
  obtain rfl:=hr6.cZ
  fail "R"
  intro p1 hp1
  have s1:=ae hp1 (.tup [])
  refine⟨_,rfl,a,_,1,_,rfl,rfl,hS.same s1,rfl,(by show 2<=sizeLine;decide),fun p2 hp2=>?_⟩
  have s2:=s1.trans (ae hp2 (.tup [.ref p1,v1]))
  refine⟨Nat.zero_le _,fun p3 hp3=>?_⟩
  have s3:=s2.trans (ae hp3 (.tup []))
  refine⟨_,rfl,a,_,4,_,rfl,rfl,hS.same s3,rfl,(by show 2<=sizeLine;decide),fun p4 hp4=>?_⟩
  have s4:=s3.trans (ae hp4 (.tup [.ref p3,v4]))
  refine⟨_,rfl,a,_,2,_,rfl,rfl,hS.same s4,rfl,_,rfl,a,_,3,_,rfl,rfl,hS.same s4,rfl,(by show 2<=sizeLine;decide),fun p5 hp5=>?_⟩
  have s5:=s4.trans (ae hp5 (.tup [v2,v3]))
  refine⟨_,rfl,a,_,5,_,rfl,rfl,hS.same s5,rfl,(by show 2<=sizeLine;decide),fun p6 hp6=>?_⟩
  have s6:=s5.trans (ae hp6 (.tup [.ref p5,v5]))
  refine⟨(by show 3<=sizeLine;decide),fun p7 hp7=>?_⟩
  have s7:=s6.trans (ae hp7 (.lst [.ref p2,.ref p4,.ref p6]))
  refine k p7 _ _ s7 ah ?_
  have s67:=(ae hp6 (.tup [.ref p5,v5])).trans (ae hp7 (.lst [.ref p2,.ref p4,.ref p6]))
  have s57:=(ae hp5 (.tup [v2,v3])).trans s67
  have s37:=(ae hp3 (.tup [])).trans ((ae hp4 (.tup [.ref p3,v4])).trans s57)
  refine .cons (Rp.same s37 (Rp.new hp2 (.cons (Rp.new hp1 .nil) (.one (e1.same s1))))) (.cons (Rp.same s57 (Rp.new hp4 (.cons (Rp.new hp3 .nil) (.one (e4.same s3))))) (.one ?_))
  exact Rp.same (ae hp7 _) (Rp.new hp6 (.cons (Rp.new hp5 (.cons (e2.same s4) (.one (e3.same s4)))) (.one (e5.same s5))))
end
theorem qS(tm:Tm)(wf:Wf tm):(right tm).map (·.2)=tm.ks:=by
 cases wf with
 |mk ar wk =>
 rename_i h ks
 show(((bnd h ks.length).zip ks).map Prod.snd)=ks
 refine List.map_snd_zip ?_
 cases h<;>simp_all[bnd,i7]
theorem zh(tm:Tm)(wf:Wf tm):(right tm).length=tm.ks.length:=by
 have z:=congrArg List.length (qS tm wf)
 rwa [List.length_map]at z
theorem Hr(tm:Tm):tm.ks.length<tm.size:=by
 cases tm with
 |mk h ks =>
  rw[Tm.CQ]
  show ks.length<_
  have:ks.length<=Tm.sizes ks:=by
   induction ks with
   |nil=>exact Nat.le_refl _
   |cons k r ih=>rw[Tm.wq,List.length_cons];have:=Tm.size_pos k;omega
  omega
noncomputable def ye(K:PySem.W.Frag):Sp:=fun vs H Q _=>∃(v:V) (tm:Tm),vs=[v]/\Rp K H (enc tm) v/\Wf tm/\tm.size<=900 /\
 ∀(p:Addr) (H':Hp) (ws:List V),br H H'->H p=none->H' p=some (.lst ws)->bB K H' (tm.ks.map enc) ws->Q (.ref p) H'
section
variable {P:Program}{w:World}{K:PySem.W.Frag}{mg:Str->Option Value}{base:Heap}{gR:Addr}{rfd:FuncData}
theorem C9:aM ["term"] ["term"] (af gj):=⟨rfl,rfl,rfl,by decide +kernel,rfl,by decide +kernel,by decide +kernel⟩
theorem AX{f:Addr}{fd:FuncData}(F:gJ K "inner_terms" "inner_terms" gj f fd)(RI:bG P w K mg base "right_in" 1 ["term"] (qP K) gR rfd):bF P w K mg base dX 2 f fd ["term"] (ye K):=by
 refine F.ok C9 (fun vs H Q E h=>?_) (fun cdv A outer s H vs Q E hr h=>?_)
 ·obtain⟨v,tm,rfl,_⟩:=h
  rfl
 obtain⟨v,tm,rfl,hv,wf,hlen,k⟩:=h
 refine⟨_,(dH (iz (dR (af gj) ["term"] ["names","inner"] [] rfl rfl rfl (by decide +kernel) (lN (xP RI.ok (hr.mono (by omega)) rfl RI.at' RI.kp RI.bd .nil iP (aU (pv 0) aj))) (fun _ _ _ _=>(sL (n:=2) K rfl rfl (aQ (gY (i:=0) (show(["names","inner"]:List Str).Nodup by decide +kernel) rfl (Or.inl rfl)) (aQ (gY (i:=1) (show(["names","inner"]:List Str).Nodup by decide +kernel) rfl (Or.inl rfl)) bh)))) (fun _ _ _ _=>cN) (fun _ _ _ _=>(pv 1))))),?_⟩
 have hk:=Hr tm
 refine⟨_,rfl,v,tm,rfl,hv,wf,by omega,fun p H5 vs5 s5 h5 r5=>?_⟩
 refine⟨p,rfl,⟨_,cR.of h5⟩,?_⟩
 refine wA h5 r5 (by rw[zh tm wf];omega) fun p6 ws6 hp6 r6=>?_
 have e6:(right tm).map (fun p=>enc p.2)=tm.ks.map enc:=by rw[←qS tm wf,List.map_map];rfl
 rw[e6]at r6
 exact k p6 _ ws6 (s5.trans (ae hp6 _)) (s5.free hp6) ah (r6.same (ae hp6 _))
end
end G27
namespace L2
open PySem PySem.Spec PyProof.Rows
section
variable {prog:Program}{w:World}{A:Around}{E:Value->Shared->Prop}{s:Shared}
theorem qq{z TI TO i1 i2 l1 l2 T:Addr}{flag:Bool}{oT:Obj}{k1 k2:Nat}{xs ys:Array Value}{x:Value}{Q:Option Value->Shared->Prop}(hh:A.handled=none)(D:ZipApart z TI TO i1 i2 l1 l2)
  (hz:kI s.heap z TI TO T flag) (hT:s.heap.get? T=some oT) (hTI:IsPair s.heap TI (.ref i1) (.ref i2))
  (h1:s.heap.IsListIter i1 l1 k1) (h2:s.heap.IsListIter i2 l2 k2) (hl1:s.heap.IsList l1 xs) (hl2:s.heap.IsList l2 ys) (hx:xs[k1]?=some x) (hy:ys[k2]?=none)
  (hQ:∀h',(∀c o,c≠z->c≠i1->c≠i2->s.heap.get? c=some o->h'.get? c=some o)->Q none {s with heap:=h'}) :
  wpAny (model prog w) A (pyNext (.ref z)) Q E s:=by
 have hTy:s.TypeIs (.ref z) "zip":=⟨_,hz,rfl⟩
 unfold pyNext
 refine wpAny_bind (wpAny_attempt (wpAny_callSpecial?_slot (name:=Str.ofString "__next__") hTy PySem.F.slot_zip_next
  (wpAny_call_entry PySem.F.slot_zip_next hTy PySem.F.entry_zip_next ?_ (PySem.F.args_zip_next_1 _))))
 show wpAny _ _ (field (.ref z) 2>>=_) _ _ _
 refine wpAny_bind (wpAny_field hz rfl (x:=.bool false) rfl ?_)
 show wpAny _ _ (field (.ref z) 3>>=_) _ _ _
 refine wpAny_bind (wpAny_field hz rfl (x:=.ref TI) rfl ?_)
 refine wpAny_bind (wpAny_seqItems hTI rfl ?_)
 show wpAny _ _ (Builtin.SmallTypes.ownedTupleIsFree (.ref z)>>=_) _ _ _
 refine wpAny_bind (ir hz hT fun h₁ hz₁ hs₁=>?_)
 simp only[Bool.false_eq_true,if_false]
 refine wpAny_bind ?_
 simp only[←Array.forIn_toList,List.forIn_cons,List.forIn_nil]
 refine wpAny_bind (wpAny_bind (wpAny_holding ?_))
 show wpAny _ _ (Builtin.SmallTypes.nextOf (.ref i1)>>=_) _ _ _
 refine wpAny_bind (wpAny_nextOf_list_item (h1.extBut hs₁.extBut D.i1z) (hl1.extBut hs₁.extBut D.l1z) hx fun h₂ h1₂ hs₂=>wpAny_pure (wpAny_pure ?_))
 dsimp only
 refine wpAny_bind (wpAny_bind (wpAny_holding ?_))
 show wpAny _ _ (Builtin.SmallTypes.nextOf (.ref i2)>>=_) _ _ _
 refine wpAny_bind (wpAny_nextOf_list_end hh ((h2.extBut hs₁.extBut D.i2z).extBut hs₂.extBut D.i12.symm) ((hl2.extBut hs₁.extBut D.l2z).extBut hs₂.extBut D.l2i1) hy fun h₃ e hs₃ he=>?_)
 obtain⟨oe,hoe,hce⟩:=he
 refine wpAny_bind (wpAny_isInstance (T:="StopIteration") (b:=true) ⟨oe,hoe,hce⟩ isSubtype_stop ?_)
 exact wpAny_pure (hQ _ fun c o c1 c2 c3 e'=>hs₃ _ _ c3 (hs₂.extBut _ _ c2 (hs₁.extBut _ _ c1 e')))
end
section
variable {prog:Program}{w:World}{A:Around}{R:Result->Shared->Prop}{s:Shared}
theorem zj{z TI TO i1 i2 l1 l2 S lo n:Nat}{xs ys:Array Value}(hh:A.handled=none)(D:ZipApart z TI TO i1 i2 l1 l2)(hS:S≠z/\S≠TI/\S≠TO/\S≠i1/\S≠i2/\S≠l1/\S≠l2)
  (hL:z<lo/\TO<lo/\i1<lo/\i2<lo/\S<lo) (hnx:n<=xs.size) (hny:n<=ys.size) (hend:xs[n]?=none\/ys[n]?=none) (hn:n<=sizeLine) (res:Value) {h₁:Heap}
  (hR:∀h' tk acc c (as:List Nat),(∀b o,b≠S->b≠z->b≠TO->b≠i1->b≠i2->h₁.get? b=some o->h'.get? b=some o)->h'.get? S=some {cls:=.type "list",dict:=none,data:=.seq acc c,slots:=#[]}->as.length=n->gS h' lo xs ys as ->
   acc.toList=as.map Value.ref->R (.ok (.ret res)) {s with heap:=h',toks:=tk}) :
  ∀(k i:Nat) (h:Heap) (tk c:Nat) (acc:Array Value) (as:List Nat),n-i=k->i<=n->JD h z TI TO i1 i2 l1 l2 lo xs ys i ->
   (∀b o,b≠S->b≠z->b≠TO->b≠i1->b≠i2->h₁.get? b=some o->h.get? b=some o)->lo<=h.objs.size ->
   h.get? S=some {cls:=.type "list",dict:=none,data:=.seq acc c,slots:=#[]}->acc.toList=as.map Value.ref->as.length=i->gS h lo xs ys as ->
   codeAny (model prog w) A (.builtin "list.extend.loop" ⟨[.ref S,.ref z,res],[]⟩) R {s with heap:=h,toks:=tk}:=by
 obtain⟨s1,s2,s3,s4,s5,s6,s7⟩:=hS
 obtain⟨L1,L2,L3,L4,L5⟩:=hL
 have up:∀{a b:Nat},b<lo->lo<=a->a≠b:=fun h1 h2=>Nat.ne_of_gt (Nat.lt_of_lt_of_le h1 h2)
 intro k
 induction k with
 |zero =>
  intro i h tk c acc as hk hi hst hkeep hlo hS hacc hal hG
  have hin:i=n:=by omega
  subst hin
  refine codeAny_builtin PySem.F.entry_extend_loop ?_
  rw[Around.under_plainId PySem.F.plain_extend_loop _]
  show wpAny _ A.in1 (pyNext (.ref z)>>=_) _ _ _
  have fin:∀h':Heap,(∀c o,c≠z->c≠TO->c≠i1->c≠i2->h.get? c=some o->h'.get? c=some o)->R (.ok (.ret res)) {s with heap:=h',toks:=tk}:=fun h' hq =>
   hR h' tk acc c as (fun b o b1 b2 b3 b4 b5 e=>hq b o b2 b3 b4 b5 (hkeep b o b1 b2 b3 b4 b5 e)) (hq S _ s1 s3 s4 s5 hS) hal (hG.keep fun(c:Nat) o hc e=>hq c o (up L1 hc) (up L2 hc) (up L3 hc) (up L4 hc) e) hacc
  rcases hst.st with⟨e0,hz,a,b,hTO⟩|⟨T,flag,oT,hz,hT,hTlo⟩
  ·exact wpAny_bind (wpAny_pyNext_zip_end (s:={s with heap:=h,toks:=tk}) (A:=A.in1) hh D hz hst.ti hTO hst.it1 hst.it2 hst.ls1 hst.ls2 hend fun h' hq=>wpAny_pure (fin h' hq))
  ·cases hx:xs[i]? with
   |none=>exact wpAny_bind (sI (s:={s with heap:=h,toks:=tk}) (A:=A.in1) hh D hz hT hst.ti hst.it1 hst.ls1 hx fun h' hq=>wpAny_pure (fin h' fun c o c1 _ c3 c4 e=>hq c o c1 c3 c4 e))
   |some x =>
    have hy:ys[i]?=none:=hend.resolve_left (by rw[hx];intro z;cases z)
    exact wpAny_bind (qq (s:={s with heap:=h,toks:=tk}) (A:=A.in1) hh D hz hT hst.ti hst.it1 hst.it2 hst.ls1 hst.ls2 hx hy fun h' hq=>wpAny_pure (fin h' fun c o c1 _ c3 c4 e=>hq c o c1 c3 c4 e))
 |succ k ih =>
  intro i h tk c acc as hk hi hst hkeep hlo hS hacc hal hG
  have hlt:i<xs.size:=by omega
  have hltn:i<n:=by omega
  have hlt2:i<ys.size:=by omega
  have hx:xs[i]?=some xs[i]:=Array.getElem?_eq_getElem hlt
  have hy:ys[i]?=some ys[i]:=Array.getElem?_eq_getElem hlt2
  have hasz:acc.size=i:=by rw[←hal,←List.length_map (f:=Value.ref),←hacc];simp
  refine codeAny_builtin PySem.F.entry_extend_loop ?_
  rw[Around.under_plainId PySem.F.plain_extend_loop _]
  show wpAny _ A.in1 (pyNext (.ref z)>>=_) _ _ _
  -- what follows a turn
  have next:∀h':Heap,(∃(T:Nat) (flag:Bool) (oT:Obj),kI h' z TI TO T flag/\h'.get? T=some oT/\lo<=T)->h'.IsListIter i1 l1 (i+1)->h'.IsListIter i2 l2 (i+1)->IsPair h' h.objs.size xs[i] ys[i] ->
    (∀c o,c≠z->c≠TO->c≠i1->c≠i2->h.get? c=some o->h'.get? c=some o) ->
    wpAny (model prog w) A.in1 (updateSeq S (·.push (Value.ref h.objs.size))>>=fun _=>again (.builtin "list.extend.loop" ⟨[.ref S,.ref z,res],[]⟩))
     (fun fin s'=>match fin with|.done f=>R (.ok f) s'|.again c'=>c'.quiet=true/\codeAny (model prog w) A c' R s') (fun e s'=>R (.error e) s') {s with heap:=h',toks:=tk}:=by
   intro h' hb j1 j2 hp hq
   have hS':h'.get? S=some {cls:=.type "list",dict:=none,data:=.seq acc c,slots:=#[]}:=hq S _ s1 s3 s4 s5 hS
   have oth:∀b o,b≠S->h'.get? b=some o->(h'.update S (Obj.mapSeq (·.push (Value.ref h.objs.size)))).get? b=some o:=fun b o hb e=>(Heap.get?_update_other _ _ (Ne.symm hb)).trans e
   have hp':IsPair (h'.update S (Obj.mapSeq (·.push (Value.ref h.objs.size)))) h.objs.size xs[i] ys[i]:=oth _ _ (up L5 hlo) hp
   refine wpAny_bind (wpAny_updateSeq hS' rfl (wpAny_pure ⟨plainId_quiet PySem.F.plain_extend_loop _,?_⟩) (by rw[hasz];omega) (by show(acc.push _).size<=sizeLine+1;rw[Array.size_push,hasz];omega))
   refine ih (i+1) (h'.update S (Obj.mapSeq (·.push (Value.ref h.objs.size)))) tk _ (acc.push (Value.ref h.objs.size)) (as++[h.objs.size]) (by omega) hltn ⟨?_,?_,?_,?_,?_,?_⟩ ?_ ?_ (Heap.get?_update_self _ hS' rfl) ?_ (by rw[List.length_append,hal];rfl) ?_
   ·exact oth _ _ (Ne.symm s2) (hq TI _ D.TIz D.TITO D.TIi1 D.TIi2 hst.ti)
   ·exact j1.at fun o e=>oth _ o (Ne.symm s4) e
   ·exact j2.at fun o e=>oth _ o (Ne.symm s5) e
   ·exact hst.ls1.at fun o e=>oth _ o (Ne.symm s6) (hq _ o D.l1z D.l1TO D.l1i1 D.l1i2 e)
   ·exact hst.ls2.at fun o e=>oth _ o (Ne.symm s7) (hq _ o D.l2z D.l2TO D.l2i1 D.l2i2 e)
   ·obtain⟨T,flag,oT,e1,e2,e3⟩:=hb
    exact .inr ⟨T,flag,oT,oth _ _ (Ne.symm s1) e1,oth _ _ (up L5 e3) e2,e3⟩
   ·exact fun b o b1 b2 b3 b4 b5 e=>oth b o b1 (hq b o b2 b3 b4 b5 (hkeep b o b1 b2 b3 b4 b5 e))
   ·have:h.objs.size<(h'.update S (Obj.mapSeq (·.push (Value.ref h.objs.size)))).objs.size:=Heap.lt_size hp'
    omega
   ·rw[Array.toList_push,hacc,List.map_append];rfl
   ·exact hG.snoc (h':=h'.update S (Obj.mapSeq (·.push (Value.ref h.objs.size)))) (fun(c:Nat) o hc e=>oth c o (up L5 hc) (hq c o (up L1 hc) (up L2 hc) (up L3 hc) (up L4 hc) e)) hlo (Nat.le_refl _) (by rw[hal];exact hx) (by rw[hal];exact hy) hp'
  rcases hst.st with⟨e0,hz,a,b,hTO⟩|⟨T,flag,oT,hz,hT,hTlo⟩
  ·refine wpAny_bind (wpAny_pyNext_zip_item (s:={s with heap:=h,toks:=tk}) D hz hst.ti hTO hst.it1 hst.it2 hst.ls1 hst.ls2 hx hy fun h' a1 a2 a3 a4 a5 a6 hq=>?_)
   exact next h' ⟨h.objs.size,false,_,a1,a5,hlo⟩ a3 a4 a5 hq
  ·refine wpAny_bind (qo (s:={s with heap:=h,toks:=tk}) D hz hT hst.ti hst.it1 hst.it2 hst.ls1 hst.ls2 hx hy fun h' a1 a3 a4 a5 hq=>?_)
   exact next h' ⟨T,true,oT,a1,hq T oT (up L1 hTlo) (up L3 hTlo) (up L4 hTlo) hT,hTlo⟩ a3 a4 a5 fun c o c1 _ c3 c4 e=>hq c o c1 c3 c4 e
end
section
variable {prog:Program}{w:World}{A:Around}{E:Value->Shared->Prop}{s:Shared}
theorem pG{l1 l2 n:Nat}{xs ys:Array Value}{Q:Value->Shared->Prop}(hh:A.handled=none)(hl1:s.heap.IsList l1 xs)(hl2:s.heap.IsList l2 ys)(hnx:n<=xs.size)(hny:n<=ys.size)(hend:xs[n]?=none\/ys[n]?=none)(hn:n<=sizeLine)
  (hQ:∀h' tk acc c (as:List Nat),(∀b o,s.heap.get? b=some o->h'.get? b=some o)->h'.get? (s.heap.objs.size+5)=some {cls:=.type "list",dict:=none,data:=.seq acc c,slots:=#[]}->as.length=n->gS h' (s.heap.objs.size+6) xs ys as ->
   acc.toList=as.map Value.ref->Q (.ref (s.heap.objs.size+5)) {s with heap:=h',toks:=tk}) :
  wpAny (model prog w) A (call (.type "zip") [.ref l1,.ref l2]) (fun v s1=>wpAny (model prog w) A (call (.type "list") [v]) Q E s1) E s:=by
 have lt1:l1<s.heap.objs.size:=by obtain⟨_,e,_⟩:=hl1;exact Heap.lt_size e
 have lt2:l2<s.heap.objs.size:=by obtain⟨_,e,_⟩:=hl2;exact Heap.lt_size e
 refine call_zip_2 hl1 hl2 fun g hz hTI hTO h1 h2 hsz hk=>?_
 have D:ZipApart (s.heap.objs.size+4) (s.heap.objs.size+2) (s.heap.objs.size+3) s.heap.objs.size (s.heap.objs.size+1) l1 l2:=by
  refine⟨?_,?_,?_,?_,?_,?_,?_,?_,?_,?_,?_,?_,?_,?_,?_,?_,?_,?_⟩<;>(show @Ne Nat _ _;omega)
 have hS:(g.push {cls:=.type "list",data:=.seq #[]}).get? g.objs.size=some {cls:=.type "list",data:=.seq #[]}:=Heap.get?_push_size _ rfl
 refine callType_codes (Q₁:=fun obj s₁=>obj=.ref g.objs.size/\s₁={s with heap:=g.push {cls:=.type "list",data:=.seq #[]}}) PySem.F.called_list (PySem.F.typeCall_list_1 _) PySem.F.entry_list_init
  (code_list_new _ ⟨rfl,rfl⟩) fun obj s₁ h₁=>?_
 obtain⟨rfl,rfl⟩:=h₁
 refine⟨⟨_,hS,rfl⟩,PySem.F.args_list_init_2 _ _,?_⟩
 show wpAny _ A.in1.in1 (do let old ←Builtin.List.listItems (.ref g.objs.size);Builtin.List.listUpdate (.ref g.objs.size) (fun _=>#[]);letGo old.toList.reverse;Builtin.List.listExtendWith (.ref g.objs.size) (.ref (s.heap.objs.size+4)) .none) _ _ _
 refine wpAny_bind ?_
 unfold Builtin.List.listItems
 refine wpAny_bind (wpAny_seqItems hS rfl (wpAny_pure ?_))
 show wpAny _ A.in1.in1 (updateSeq g.objs.size (fun _=>#[])>>=fun _=>letGo (#[]:Array Value).toList.reverse>>=fun _=>Builtin.List.listExtendWith (.ref g.objs.size) (.ref (s.heap.objs.size+4)) .none) _ _ _
 refine wpAny_bind (wpAny_updateSeq hS rfl ?_)
 have hS₂:=Heap.get?_update_self (Obj.mapSeq (fun _=>(#[]:Array Value))) hS rfl
 have oth:∀b o,g.get? b=some o->((g.push {cls:=.type "list",data:=.seq #[]}).update g.objs.size (Obj.mapSeq (fun _=>(#[]:Array Value)))).get? b=some o :=
  fun b o e=>(Heap.get?_update_other _ _ (Nat.ne_of_gt (Heap.lt_size e))).trans (Heap.get?_push_of_some _ e)
 generalize hg2:(g.push {cls:=.type "list",data:=.seq #[]}).update g.objs.size (Obj.mapSeq (fun _=>(#[]:Array Value)))=g2 at hS₂ oth⊢
 refine wpAny_bind (wpAny_letGo ?_)
 have hT2:Shared.TypeIs {s with heap:=g2} (.ref (s.heap.objs.size+4)) "zip":=⟨_,oth _ _ hz,rfl⟩
 unfold Builtin.List.listExtendWith
 refine wpAny_bind (wpAny_typeOf hT2 ?_)
 have q1:Builtin.List.listSameRef (.ref g.objs.size) (.ref (s.heap.objs.size+4))=false:=by
  simp only[Builtin.List.listSameRef,beq_eq_false_iff_ne]
  intro z
  have z':(g.objs.size:Nat)=s.heap.objs.size+4:=z
  omega
 have q2:(Value.type "zip" == Value.type "list")=false:=by decide
 have q3:(Value.type "zip" == Value.type "tuple")=false:=by decide
 simp only[q1,q2,q3,Bool.or_false,Bool.false_eq_true,if_false]
 refine wpAny_bind (wpAny_pyIter_zip (s:={s with heap:=g2}) (oth _ _ hz) ?_)
 refine wpAny_bind (wpAny_holding ?_)
 unfold Builtin.List.listLengthHint
 refine wpAny_bind (wpAny_specialOf hT2 oY ?_)
 show wpAny _ A.in1.in1 (specialOf (Value.ref (s.heap.objs.size+4)) (Str.ofString "__length_hint__")>>=_) _ _ _
 refine wpAny_bind (wpAny_specialOf hT2 nt ?_)
 refine wpAny_pure ?_
 show wpAny _ A.in1.in1 (rule "list.extend.makes-room">>=fun _=>Builtin.List.listTouch (.ref g.objs.size)>>=fun _ =>
  again (.builtin "list.extend.loop" ⟨[.ref g.objs.size,.ref (s.heap.objs.size+4),.none],[]⟩)) _ _ _
 refine wpAny_bind (wpAny_rule ?_)
 refine wpAny_bind ?_
 show wpAny _ A.in1.in1 (updateSeq g.objs.size (·.push .none)>>=fun _=>updateSeq g.objs.size (·.pop)) _ _ _
 refine wpAny_bind (wpAny_updateSeq hS₂ rfl ?_)
 have hS₃:=Heap.get?_update_self (Obj.mapSeq (·.push Value.none)) hS₂ rfl
 refine wpAny_updateSeq (hz:=by seq_fits) hS₃ rfl ?_
 have hS₄:=Heap.get?_update_self (Obj.mapSeq (·.pop)) hS₃ rfl
 have oth2:∀b o,b≠g.objs.size->g2.get? b=some o->((g2.update g.objs.size (Obj.mapSeq (·.push Value.none))).update g.objs.size (Obj.mapSeq (·.pop))).get? b=some o :=
  fun b o hb e=>(Heap.get?_update_other _ _ (Ne.symm hb)).trans ((Heap.get?_update_other _ _ (Ne.symm hb)).trans e)
 have all:∀b o,g.get? b=some o->((g2.update g.objs.size (Obj.mapSeq (·.push Value.none))).update g.objs.size (Obj.mapSeq (·.pop))).get? b=some o:=fun b o e=>oth2 b o (Nat.ne_of_lt (Heap.lt_size e)) (oth b o e)
 generalize hg3:(g2.update g.objs.size (Obj.mapSeq (·.push Value.none))).update g.objs.size (Obj.mapSeq (·.pop))=g3 at hS₄ all⊢
 have hlo:s.heap.objs.size+6<=g3.objs.size:=by
  have h5:(g.objs.size:Nat)<g3.objs.size:=Heap.lt_size hS₄
  have h6:(g.objs.size:Nat)=s.heap.objs.size+5:=hsz
  omega
 refine wpAny_pure ⟨plainId_quiet PySem.F.plain_extend_loop _,zj (n:=n) (s:=s) (lo:=s.heap.objs.size+6) (h₁:=g3) (A:=A.in1) hh D (by omega) (by omega) hnx hny hend hn .none (fun h' tk acc c as hq hS' hal hG hacc=>?_) n 0 g3 s.toks _ #[] [] (by omega) (Nat.zero_le _)
  ⟨all _ _ hTI,h1.at fun o e=>all _ o e,h2.at fun o e=>all _ o e,hl1.at fun o e=>all _ o (hk _ o e),hl2.at fun o e=>all _ o (hk _ o e),.inl ⟨rfl,all _ _ hz,_,_,all _ _ hTO⟩⟩ (fun _ _ _ _ _ _ _ e=>e) hlo hS₄ rfl rfl ⟨List.Pairwise.nil,(fun _ z=>nomatch z),fun _ _ z=>by simp at z⟩⟩
 have eg:g.objs.size=s.heap.objs.size+5:=hsz
 refine⟨rfl,?_⟩
 rw[eg]at hS' ⊢
 refine hQ h' tk acc c as (fun b o e=>?_) hS' hal hG hacc
 have hb:∀k,b≠s.heap.objs.size+k:=fun k=>Nat.ne_of_lt (Nat.lt_of_lt_of_le (Heap.lt_size e) (Nat.le_add_right _ k))
 exact hq b o (by rw[eg];exact hb 5) (hb 4) (hb 3) (hb 0) (hb 1) (all b o (hk b o e))
end
theorem wC:isType (.type "tuple")=pure true:=rfl
theorem zk:isSubtype (.type "tuple") (.type "tuple")=pure true:=by kernel_rfl
theorem AY:Bind.madeHere "tuple.__new__" (.type "tuple")=pure ():=by kernel_rfl
theorem AZ:typeLookup (.type "tuple") (Str.ofString "__init__")=pure (some (.builtin "object.__init__")):=by rw[typeLookup_type,builtinLookup_eq_fast];kernel_rfl
theorem zl:((Manifest.find? "tuple").elim false fun x=>x.noNew)=false:=by kernel_rfl
section
variable {prog:Program}{w:World}{A:Around}{E:Value->Shared->Prop}{s:Shared}
end
section
variable {X:Cx}{a b:Expr}{t:TA}{p1 p2 p3 p4:Pos}
theorem yf{α:Type}{xs ys:List α}:xs[min xs.length ys.length]?=none\/ys[min xs.length ys.length]?=none:=by
 rcases Nat.le_total xs.length ys.length with h|h
 ·left;rw[Nat.min_eq_left h];exact List.getElem?_eq_none (Nat.le_refl _)
 ·right;rw[Nat.min_eq_right h];exact List.getElem?_eq_none (Nat.le_refl _)
noncomputable def Dc(xs ys:List V)(ts:List Addr)(H H':Hp):Prop:=br H H'/\ts.length=min xs.length ys.length/\∀(j:Nat) (u:Nat),ts[j]?=some u->∃x y,xs[j]?=some x/\ys[j]?=some y/\H' u=some (.tup [x,y])
noncomputable def Jc(K:PySem.W.Frag)(t:TA):TE:=fun σ H Q=>t σ H fun vs H2=>∃p q xs ys,vs=[.ref p,.ref q]/\cR K H2 p xs/\cR K H2 q ys /\
 ∀(l:Addr) (ts:List Addr) (H':Hp),Dc xs ys ts H2 H'->H2 l=none->H' l=some (.lst (ts.map V.ref))->Q (.ref l) H'
theorem yg{pins:List (Addr×Obj)}{σ:St}{H1:Hp}{s1:Shared}{h':Heap}{tk lo:Nat}{xs ys:List V}{its jts:List Value}{as:List Nat}{S:Nat}{o:HO}(I1:Inv X pins σ H1 s1)(rv:Vals xs its)(rw':Vals ys jts)
  (hlo:s1.heap.objs.size<=lo) (hk:∀b o,s1.heap.get? b=some o->h'.get? b=some o) (hal:as.length=min xs.length ys.length) (hG:gS h' lo its.toArray jts.toArray as) (hSn:s1.heap.objs.size<=S) (hSa:S∉as)
  (hS:di X.prog X.w (upd (jD as xs ys H1) S o) h' S o):Inv X pins σ (upd (jD as xs ys H1) S o) {s1 with heap:=h',toks:=tk}/\Dc xs ys as H1 (upd (jD as xs ys H1) S o)/\H1 S=none:=by
 have low:∀u∈as,lo<=u:=hG.low
 have hS5:∀u∈as,u≠S:=fun u hu z=>hSa (z▸hu)
 have old:∀c,c<s1.heap.objs.size->upd (jD as xs ys H1) S o c=H1 c:=fun c hc=>by
  rw[au (Nat.ne_of_lt (Nat.lt_of_lt_of_le hc hSn))]
  exact uD as xs ys fun hm=>absurd (Nat.lt_of_lt_of_le hc (Nat.le_trans hlo (low c hm))) (Nat.lt_irrefl _)
 have tups:∀(j:Nat) (u:Nat),as[j]?=some u->∃x y,xs[j]?=some x/\ys[j]?=some y/\upd (jD as xs ys H1) S o u=some (.tup [x,y]):=fun j u hj=>by
  have hj0:=(List.getElem?_eq_some_iff.mp hj).1
  have hjl:j<xs.length:=by omega
  have hjl2:j<ys.length:=by omega
  have hx:xs[j]?=some xs[j]:=List.getElem?_eq_getElem hjl
  have hy:ys[j]?=some ys[j]:=List.getElem?_eq_getElem hjl2
  refine⟨_,_,hx,hy,?_⟩
  rw[au (hS5 u (List.mem_of_getElem? hj))]
  exact xW as xs ys hG.rise j u _ _ hj hx hy
 refine⟨I1.grow (t':=tk) hk old (fun c o' hc e=>?_),⟨fun c o e=>by rw[old c (I1.hok.lt e)];exact e,hal,tups⟩,I1.hok.fresh hSn⟩
 by_cases hcS:c=S
 ·subst hcS
  rw[ah]at e
  cases e
  exact hS
 ·rw[au hcS]at e
  rcases qJ as xs ys e with z|⟨j,x,y,f1,f2,f3,rfl⟩
  ·exact absurd (I1.hok.lt z) (Nat.not_lt.mpr hc)
  ·obtain⟨vx,vy,g1,g2,g3⟩:=hG.pairs j c f1
   obtain⟨ux,k1,k2⟩:=rv.get f2
   obtain⟨uy,k3,k4⟩:=rw'.get f3
   have g1':its[j]?=some vx:=by simpa using g1
   have g2':jts[j]?=some vy:=by simpa using g2
   rw[k1]at g1'
   rw[k3]at g2'
   cases g1'
   cases g2'
   exact⟨(by show 2<=sizeLine;decide),_,.cons k2 (.cons k4 .nil),⟨_,g3,rfl,_,rfl⟩,_,g3,rfl⟩
theorem uN(hc:X.calm=true)(hgl:Gl X "list")(hml:X.mg "list"=none)(hgz:Gl X "zip")(hmz:X.mg "zip"=none)(ha:PA X [a,b] t)
  (he:starEach [a,b] X.env=(false,eval a X.env)::starEach [b] X.env:=by rfl) (hpl:(backTo p2 (starEach [b] X.env)).any (·.1)=false:=by rfl)
  (he2:starEach [.Call (.Name "zip" p1) [a,b] [] p2] X.env=[(false,eval (.Call (.Name "zip" p1) [a,b] [] p2) X.env)]:=by rfl) :
  PE X (.Call (.Name "list" p3) [.Call (.Name "zip" p1) [a,b] [] p2] [] p4) (Jc X.K t):=by
 intro pins s σ H Q I h
 refine wpAny_Call_Name_kw (kX I hgl hml boot_list ?_ (by decide) (by decide))
 refine PyProof.Rows.callWith_type1 ?_ he2 rfl
 rw[he2]
 refine Calls.spliced_cons ?_
 refine wpAny_Call_Name_kw (kX I hgz hmz boot_zip ?_ (by decide) (by decide))
 refine PyProof.Rows.callWith_type1 ?_ he hpl
 refine bP (ha p2 pins s σ H _ I h) fun us s1 ⟨vs,H1,I1,r1,q1⟩=>?_
 obtain⟨p,q,xs,ys,rfl,hx,hy,hq⟩:=q1
 obtain⟨u,w',rfl,r1,r2⟩:=vals2 r1
 cases r1
 cases r2
 obtain⟨its,rv,pl,hz⟩:=I1.list hx
 obtain⟨jts,rw',pm,hz'⟩:=I1.list hy
 have e1:=rv.length
 have e2:=rw'.length
 refine bP (pG (n:=min xs.length ys.length) (Q:=EP X pins σ Q) (E:=X.xe) (I1.ok.hd hc) pl.isList pm.isList (by simp only[List.size_toArray];omega) (by simp only[List.size_toArray];omega) (by have:=yf (xs:=its) (ys:=jts);rw[←e1,←e2]at this;simpa using this) (by omega) fun h' tk acc ce as hk hS hal hG hacc=>?_) fun v s2 h2=>Calls.spliced_nil (by simpa using h2)
 have hSa:s1.heap.objs.size+5∉as:=fun hm=>by have:=hG.low _ hm;omega
 obtain⟨I2,zo,hn⟩:=yg (tk:=tk) (o:=.lst (as.map V.ref)) I1 rv rw' (Nat.le_add_right _ 6) hk hal hG (Nat.le_add_right _ 5) hSa
  (show di X.prog X.w _ _ _ (.lst _)from⟨by rw[List.length_map,hal];omega,as.map Value.ref,ce,mX as,by rw[←hacc];simpa using hS⟩)
 exact⟨.ref (s1.heap.objs.size+5),_,I2,rfl,hq _ as _ zo hn ah⟩
end
theorem qT:entryFor table "dict.update.loop"=some Builtin.«dict.update.loop»:=by kernel_rfl
theorem jr:plainId "dict.update.loop"=true:=by kernel_rfl
theorem wD:typeLookup (.type "tuple") (Str.ofString "keys")=pure none:=by rw[typeLookup_type,builtinLookup_eq_fast];kernel_rfl
theorem wF:typeLookup (.type "list") (Str.ofString "keys")=pure none:=by rw[typeLookup_type,builtinLookup_eq_fast];kernel_rfl
theorem iV:isSubtype (.type "AttributeError") (.type "AttributeError")=pure true:=by kernel_rfl
section
variable {prog:Program}{w:World}{A:Around}{E:Value->Shared->Prop}{s:Shared}
theorem wG{a:Addr}{xs:Array Value}{k:Nat}{sl:Array (Option Value)}{u:Tok}{Q E:Value->Shared->Prop}(hh:A.handled=none)(ho:s.heap.get? a=some {cls:=.type "tuple",dict:=none,data:=.seq xs k,slots:=sl})
  (hE:∀h' tk e,s.heap.NewAttrErr h' e (.ref a) (Str.ofString "keys")->E (.ref e) {s with heap:=h',toks:=tk}):wpAny (model prog w) A (call (.builtin "tuple.__getattribute__") ([.ref a]++[.str (Str.ofString "keys") u])) Q E s:=by
 have hT:s.TypeIs (.ref a) "tuple":=⟨_,ho,rfl⟩
 refine wpAny_call (codeAny_call_builtin PySem.F.slot_tuple_getattribute.plain PySem.F.entry_tuple_ga (PySem.F.slot_tuple_getattribute.check _ _ _ _ _ _ [] _ hT (PySem.F.args_tuple_getattribute_2 _ _) ?_))
 refine wpAny_mono (meets_getattribute_miss_tuple a xs k sl (Str.ofString "keys") u wD (by decide) (by decide) prog w A (fun r s'=>∃h' tk e,r=.error (.ref e)/\s.heap.NewAttrErr h' e (.ref a) (Str.ofString "keys")/\s'={s with heap:=h',toks:=tk}) s ⟨ho,hh,fun h' tk e ne=>⟨h',tk,e,rfl,ne,rfl⟩⟩) (fun fin s' z=>?_) (fun e s' z=>?_)
 ·rcases fin with f|c
  ·obtain⟨_,_,_,h,_⟩:=z;cases h
  ·exact⟨z.1,codeAny_mono z.2 fun r s'' q=>by obtain⟨h',tk,e,rfl,ne,rfl⟩:=q;exact hE h' tk e ne⟩
 ·obtain⟨h',tk,e,h,ne,rfl⟩:=z
  cases h
  exact hE h' tk e ne
theorem qt{a:Addr}{xs:Array Value}{k:Nat}{sl:Array (Option Value)}{Q:Option Value->Shared->Prop}(hh:A.handled=none)(ho:s.heap.get? a=some {cls:=.type "tuple",dict:=none,data:=.seq xs k,slots:=sl})
  (hQ:∀h' tk,(∀b o,s.heap.get? b=some o->h'.get? b=some o)->Q none {s with heap:=h',toks:=tk}):wpAny (model prog w) A (getAttr? (.ref a) (Str.ofString "keys")) Q E s:=by
 unfold getAttr?
 refine wpAny_bind (wpAny_mkText ?_)
 have hT:Shared.TypeIs {s with toks:=s.toks+1} (.ref a) "tuple":=⟨_,ho,rfl⟩
 unfold getAttrBy?
 refine wpAny_bind (wpAny_attempt ?_)
 unfold getAttrBy
 refine wpAny_holding (wpAny_bind (wpAny_typeOf hT ?_))
 rw[show typeLookup (.type "tuple") (Str.ofString "__getattribute__")=pure (some (.builtin "tuple.__getattribute__"))from PySem.F.slot_tuple_getattribute.lookup]
 refine wpAny_bind (wpAny_pure ?_)
 dsimp only
 rw[if_neg (by decide)]
 unfold getAttrByItsOwn hookBefore
 rw[if_neg (by decide)]
 refine wpAny_bind (wpAny_pure ?_)
 refine wpAny_bind (wpAny_attempt (wpAny_holding ?_))
 unfold callGetattribute
 rw[if_neg (by decide)]
 unfold boundAndCalled
 rw[PySem.F.slot_tuple_getattribute.bind]
 refine wpAny_bind (wpAny_pure ?_)
 refine wG (s:={s with toks:=s.toks+1}) hh ho fun h' tk e ne=>?_
 obtain⟨t,u,he⟩:=ne.there
 have hTe:Shared.TypeIs {s with heap:=h',toks:=tk} (.ref e) "AttributeError":=⟨_,he,rfl⟩
 show wpAny _ _ (getattributeRaised _ _ _ _ none false false) _ _ _
 unfold getattributeRaised
 refine wpAny_bind (wpAny_isInstance hTe iV ?_)
 rw[if_pos rfl]
 unfold hookBehind
 rw[if_neg (by decide),PySem.F.plainAttrs_tuple.noGetattr]
 refine wpAny_bind (wpAny_pure ?_)
 unfold hookOrError
 dsimp only
 unfold attributeErrorLeaves
 dsimp only
 rw[if_pos (show(!false)=true from rfl)]
 refine wpAny_bind (wpAny_throw ?_)
 refine wpAny_bind (wpAny_isInstance hTe iV ?_)
 rw[if_pos rfl]
 exact wpAny_pure (hQ h' tk ne.keeps)
theorem zm{a:Addr}{xs:Array Value}{k:Nat}{sl:Array (Option Value)}{u:Tok}{Q E:Value->Shared->Prop}(hh:A.handled=none)(ho:s.heap.get? a=some {cls:=.type "list",dict:=none,data:=.seq xs k,slots:=sl})
  (hE:∀h' tk e,s.heap.NewAttrErr h' e (.ref a) (Str.ofString "keys")->E (.ref e) {s with heap:=h',toks:=tk}):wpAny (model prog w) A (call (.builtin "list.__getattribute__") ([.ref a]++[.str (Str.ofString "keys") u])) Q E s:=by
 have hT:s.TypeIs (.ref a) "list":=⟨_,ho,rfl⟩
 refine wpAny_call (codeAny_call_builtin PySem.F.slot_list_getattribute.plain PySem.F.entry_list_ga (PySem.F.slot_list_getattribute.check _ _ _ _ _ _ [] _ hT (PySem.F.args_list_getattribute_2 _ _) ?_))
 refine wpAny_mono (meets_getattribute_miss_list a xs k sl (Str.ofString "keys") u wF (by decide) (by decide) prog w A (fun r s'=>∃h' tk e,r=.error (.ref e)/\s.heap.NewAttrErr h' e (.ref a) (Str.ofString "keys")/\s'={s with heap:=h',toks:=tk}) s ⟨ho,hh,fun h' tk e ne=>⟨h',tk,e,rfl,ne,rfl⟩⟩) (fun fin s' z=>?_) (fun e s' z=>?_)
 ·rcases fin with f|c
  ·obtain⟨_,_,_,h,_⟩:=z;cases h
  ·exact⟨z.1,codeAny_mono z.2 fun r s'' q=>by obtain⟨h',tk,e,rfl,ne,rfl⟩:=q;exact hE h' tk e ne⟩
 ·obtain⟨h',tk,e,h,ne,rfl⟩:=z
  cases h
  exact hE h' tk e ne
theorem sO{a:Addr}{xs:Array Value}{k:Nat}{sl:Array (Option Value)}{Q:Option Value->Shared->Prop}(hh:A.handled=none)(ho:s.heap.get? a=some {cls:=.type "list",dict:=none,data:=.seq xs k,slots:=sl})
  (hQ:∀h' tk,(∀b o,s.heap.get? b=some o->h'.get? b=some o)->Q none {s with heap:=h',toks:=tk}):wpAny (model prog w) A (getAttr? (.ref a) (Str.ofString "keys")) Q E s:=by
 unfold getAttr?
 refine wpAny_bind (wpAny_mkText ?_)
 have hT:Shared.TypeIs {s with toks:=s.toks+1} (.ref a) "list":=⟨_,ho,rfl⟩
 unfold getAttrBy?
 refine wpAny_bind (wpAny_attempt ?_)
 unfold getAttrBy
 refine wpAny_holding (wpAny_bind (wpAny_typeOf hT ?_))
 rw[show typeLookup (.type "list") (Str.ofString "__getattribute__")=pure (some (.builtin "list.__getattribute__"))from PySem.F.slot_list_getattribute.lookup]
 refine wpAny_bind (wpAny_pure ?_)
 dsimp only
 rw[if_neg (by decide)]
 unfold getAttrByItsOwn hookBefore
 rw[if_neg (by decide)]
 refine wpAny_bind (wpAny_pure ?_)
 refine wpAny_bind (wpAny_attempt (wpAny_holding ?_))
 unfold callGetattribute
 rw[if_neg (by decide)]
 unfold boundAndCalled
 rw[PySem.F.slot_list_getattribute.bind]
 refine wpAny_bind (wpAny_pure ?_)
 refine zm (s:={s with toks:=s.toks+1}) hh ho fun h' tk e ne=>?_
 obtain⟨t,u,he⟩:=ne.there
 have hTe:Shared.TypeIs {s with heap:=h',toks:=tk} (.ref e) "AttributeError":=⟨_,he,rfl⟩
 show wpAny _ _ (getattributeRaised _ _ _ _ none false false) _ _ _
 unfold getattributeRaised
 refine wpAny_bind (wpAny_isInstance hTe iV ?_)
 rw[if_pos rfl]
 unfold hookBehind
 rw[if_neg (by decide),PySem.F.plainAttrs_list.noGetattr]
 refine wpAny_bind (wpAny_pure ?_)
 unfold hookOrError
 dsimp only
 unfold attributeErrorLeaves
 dsimp only
 rw[if_pos (show(!false)=true from rfl)]
 refine wpAny_bind (wpAny_throw ?_)
 refine wpAny_bind (wpAny_isInstance hTe iV ?_)
 rw[if_pos rfl]
 exact wpAny_pure (hQ h' tk ne.keeps)
theorem A0{κ:Type}[DecidableEq κ]{knd:KeyKind prog w κ}{d I:Addr}{fp wr:List Addr}{n:Nat}{St:Nat->Heap->Prop}{R:Result->Shared->Prop}{us:List Value}{rs:List (κ×Value)}{h₁:Heap}(W:Walks prog w A.in1 I fp wr n (fun i v=>us[i]?=some v) St)(hn:n=us.length)(hrl:rs.length=us.length)(hsz:n<=sizeLine)
  (hd:d∉fp) (hpr:∀(i:Nat) (u:Value) (kv:κ×Value),us[i]?=some u->rs[i]?=some kv->∃a o m key,u=.ref a/\h₁.get? a=some o/\o.cls=.type "tuple"/\o.data=.seq #[key,kv.2] m/\knd.is kv.1 key=true/\a≠d/\a∉wr)
  (hR:∀h' tk,h'.DictOf knd d (merged [] rs)->(∀b o,b≠d->b∉wr->h₁.get? b=some o->h'.get? b=some o)->R (.ok (.ret .none)) {s with heap:=h',toks:=tk}) :
  ∀(k i:Nat) (h:Heap) (tk:Nat),n-i=k->i<=n->St i h->h.DictOf knd d (merged [] (rs.take i))->(∀b o,b≠d->b∉wr->h₁.get? b=some o->h.get? b=some o) ->
   codeAny (model prog w) A (.builtin "dict.update.loop" ⟨[.ref d,.ref I,rawInt i,.none],[]⟩) R {s with heap:=h,toks:=tk}:=by
 intro k
 induction k with
 |zero =>
  intro i h tk hk hi hst hdd hkeep
  have hin:i=n:=by omega
  subst hin
  refine codeAny_builtin qT ?_
  rw[Around.under_plainId jr _]
  show wpAny _ A.in1 (pyNext (.ref I)>>=_) _ _ _
  refine wpAny_bind (W.done {s with heap:=h,toks:=tk} _ _ hst fun h' tk' hq=>?_)
  refine wpAny_bind (wpAny_pure (wpAny_pure ?_))
  refine hR h' tk' ?_ (fun b o b1 b2 e=>hq b o b2 (hkeep b o b1 b2 e))
  rw[hn,←hrl,List.take_length]at hdd
  exact hdd.at fun o e=>hq d o (fun z=>hd (W.sub d z)) e
 |succ k ih =>
  intro i h tk hk hi hst hdd hkeep
  refine codeAny_builtin qT ?_
  rw[Around.under_plainId jr _]
  show wpAny _ A.in1 (pyNext (.ref I)>>=_) _ _ _
  refine wpAny_bind (W.item i {s with heap:=h,toks:=tk} _ _ (by omega) hst fun v h2 tk2 hv hst2 hq=>?_)
  have hil:i<rs.length:=by omega
  obtain⟨a,o,m,key,rfl,ha,hc,hdta,hkey,nad,naw⟩:=hpr i v rs[i] hv (List.getElem?_eq_getElem hil)
  have ha2:h2.get? a=some o:=hq a o naw (hkeep a o nad naw ha)
  have hdd2:h2.DictOf knd d (merged [] (rs.take i)):=hdd.at fun o e=>hq d o (fun z=>hd (W.sub d z)) e
  have hT:Shared.TypeIs {s with heap:=h2,toks:=tk2} (.ref a) "tuple":=⟨o,ha2,hc⟩
  dsimp only
  refine wpAny_bind (wpAny_holding (wpAny_bind (wpAny_tryCatch ?_)))
  unfold Builtin.Dict.pairItems
  refine wpAny_bind (wpAny_typeOf hT ?_)
  rw[if_pos (show(Value.type "tuple" == Value.type "list"||Value.type "tuple" == Value.type "tuple")=true by decide)]
  refine wpAny_bind (wpAny_seqItems ha2 hdta (wpAny_pure ?_))
  show wpAny _ _ (holding [key,rs[i].2] (dictSet d key rs[i].2)) _ _ _
  refine wpAny_holding (wpAny_dictSet_pairs hkey hdd2 (fun h3 hd3 hs3=>?_) (by have:=merged_length_le ([]:List (κ×Value)) (rs.take i);rw[List.length_take]at this;simp at this;omega))
  refine wpAny_pure ⟨plainId_quiet jr _,?_⟩
  have e1:stored (merged [] (rs.take i)) rs[i].1 rs[i].2=merged [] (rs.take (i+1)):=by
   rw[merged_take_succ [] rs i _ (List.getElem?_eq_getElem hil)]
  rw[e1]at hd3
  exact ih (i+1) h3 _ (by omega) (by omega) (W.frame (i+1) _ _ hst2 fun b hb ob e=>hs3.extBut b ob (fun z=>hd (z▸hb)) e) hd3 fun b ob b1 b2 e=>hs3.extBut b ob b1 (hq b ob b2 (hkeep b ob b1 b2 e))
theorem nQ{κ:Type}[DecidableEq κ]{knd:KeyKind prog w κ}{p:Addr}{o:Obj}{us:List Value}{m:Nat}{T:String}{rs:List (κ×Value)}{Q:Value->Shared->Prop}(hh:A.handled=none)(hTy:T="list"\/T="tuple")(ho:s.heap.get? p=some o)(hcl:o.cls=.type T)(hdi:o.dict=none)(hdt:o.data=.seq us.toArray m)
  (hrl:rs.length=us.length) (hsz:us.length<=sizeLine) (hpr:∀(i:Nat) (u:Value) (kv:κ×Value),us[i]?=some u->rs[i]?=some kv->∃a o m key,u=.ref a/\s.heap.get? a=some o/\o.cls=.type "tuple"/\o.data=.seq #[key,kv.2] m/\knd.is kv.1 key=true)
  (hQ:∀h' tk,h'.DictOf knd s.heap.objs.size (merged [] rs)->(∀b o,s.heap.get? b=some o->h'.get? b=some o)->Q (.ref s.heap.objs.size) {s with heap:=h',toks:=tk}) :
  wpAny (model prog w) A (call (.type "dict") [.ref p]) Q E s:=by
 have hlt:p<s.heap.objs.size:=Heap.lt_size ho
 have hS:(s.heap.push {cls:=.type "dict",data:=.dict #[]}).get? s.heap.objs.size=some {cls:=.type "dict",data:=.dict #[]}:=Heap.get?_push_size _ rfl
 have oth:∀b o,s.heap.get? b=some o->(s.heap.push {cls:=.type "dict",data:=.dict #[]}).get? b=some o:=fun b o e=>Heap.get?_push_of_some _ e
 refine callType_codes (Q₁:=fun obj s₁=>obj=.ref s.heap.objs.size/\s₁={s with heap:=s.heap.push {cls:=.type "dict",data:=.dict #[]}}) PySem.F.kt_called_dict (PySem.F.kt_typeCall_dict_1 _) PySem.F.entry_dict_init
  (kt_code_dict_new _ ⟨rfl,rfl⟩) fun obj s₁ h₁=>?_
 obtain⟨rfl,rfl⟩:=h₁
 refine⟨⟨_,hS,rfl⟩,PySem.F.args_dict_init_2 _ _,?_⟩
 have hD0:Heap.DictOf knd (s.heap.push {cls:=.type "dict",data:=.dict #[]}) s.heap.objs.size (merged ([]:List (κ×Value)) (rs.take 0)):=Heap.DictOf.new s.heap
 generalize s.heap.push {cls:=.type "dict",data:=.dict #[]}=g at hS oth hD0⊢
 have hTd:Shared.TypeIs {s with heap:=g} (.ref s.heap.objs.size) "dict":=⟨_,hS,rfl⟩
 have hTp:Shared.TypeIs {s with heap:=g} (.ref p) T:=⟨_,oth _ _ ho,hcl⟩
 unfold Builtin.«dict.__init__» Builtin.Dict.selfAndRest Builtin.Dict.notOrdered
 refine wpAny_bind (wpAny_bind ?_)
 rw[if_pos (by decide)]
 dsimp only[List.headD]
 refine wpAny_bind (wpAny_typeOf hTd ?_)
 rw[if_neg (by decide)]
 refine wpAny_pure ?_
 refine wpAny_bind (show wpAny _ _ (Builtin.Dict.addrOf (.ref s.heap.objs.size)) _ _ _ from wpAny_pure (wpAny_pure ?_))
 show wpAny _ _ (Builtin.Dict.updateFrom "dict.__init__" s.heap.objs.size (.ref p) [] .none) _ _ _
 unfold Builtin.Dict.updateFrom
 refine wpAny_bind (wpAny_typeOf hTp ?_)
 dsimp only
 rw[if_pos (by rcases hTy with rfl|rfl<;>decide)]
 have fin:∀(g2:Heap) (tk:Nat),(∀b o,g.get? b=some o->g2.get? b=some o)->wpAny (model prog w) A.in1.in1 (pyIter (.ref p)) (fun it s2=>wpAny (model prog w) A.in1.in1 (again (.builtin "dict.update.loop" ⟨[.ref s.heap.objs.size,it,rawInt 0,.none],[]⟩))
   (fun fin s'=>match fin with
    |.done f=>wants (fun r s₂=>r=.none/\Q (.ref s.heap.objs.size) s₂) E (.ok f) s'
    |.again c'=>c'.quiet=true/\codeAny (model prog w) A.in1 c' (wants (fun r s₂=>r=.none/\Q (.ref s.heap.objs.size) s₂) E) s')
   (fun e s'=>wants (fun r s₂=>r=.none/\Q (.ref s.heap.objs.size) s₂) E (.error e) s') s2)
   (fun e s'=>wants (fun r s₂=>r=.none/\Q (.ref s.heap.objs.size) s₂) E (.error e) s') {s with heap:=g2,toks:=tk}:=by
  intro g2 tk hk2
  have ho2:g2.get? p=some o:=hk2 _ _ (oth _ _ ho)
  have hdlt:s.heap.objs.size<g2.objs.size:=Heap.lt_size (hk2 _ _ hS)
  have loop:∀(g3:Heap) (tk3:Nat) (St:Nat->Heap->Prop),Walks prog w A.in1.in1 g2.objs.size [g2.objs.size,p] [g2.objs.size] us.toArray.size (fun i v=>us.toArray[i]?=some v) St->St 0 g3->(∀b o,g2.get? b=some o->g3.get? b=some o) ->
    codeAny (model prog w) A.in1 (.builtin "dict.update.loop" ⟨[.ref s.heap.objs.size,.ref g2.objs.size,rawInt 0,.none],[]⟩) (wants (fun r s₂=>r=.none/\Q (.ref s.heap.objs.size) s₂) E) {s with heap:=g3,toks:=tk3}:=by
   intro g3 tk3 St W hst hk3
   have nd:s.heap.objs.size∉[g2.objs.size,p]:=by
    intro hm
    rcases List.mem_cons.mp hm with z|z
    ·exact absurd hdlt (by rw[z];exact Nat.lt_irrefl _)
    ·rw[List.mem_singleton]at z;exact absurd hlt (by rw[←z];exact Nat.lt_irrefl _)
   refine A0 (A:=A.in1) (us:=us) (rs:=rs) (h₁:=g3) (n:=us.toArray.size) (by simpa using W) (by simp) hrl (by simpa using hsz) nd ?_ ?_ us.toArray.size 0 g3 tk3 (by simp) (Nat.zero_le _) hst (hD0.at fun o e=>hk3 _ _ (hk2 _ _ e)) (fun _ _ _ _ e=>e)
   ·intro i u kv hu hkv
    obtain⟨a,ob,mm,key,e1,e2,e3,e4,e5⟩:=hpr i u kv hu hkv
    have hal:a<s.heap.objs.size:=Heap.lt_size e2
    refine⟨a,ob,mm,key,e1,hk3 _ _ (hk2 _ _ (oth _ _ e2)),e3,e4,e5,Nat.ne_of_lt hal,fun z=>?_⟩
    rw[List.mem_singleton]at z
    exact absurd (Nat.lt_trans hal hdlt) (by rw[z];exact Nat.lt_irrefl _)
   ·intro h' tk' hd' hkp
    refine⟨rfl,hQ h' tk' hd' fun b ob e=>hkp b ob (Nat.ne_of_lt (Heap.lt_size e)) (fun z=>?_) (hk3 _ _ (hk2 _ _ (oth _ _ e)))⟩
    rw[List.mem_singleton]at z
    exact absurd (Nat.lt_trans (Heap.lt_size e) hdlt) (by rw[z];exact Nat.lt_irrefl _)
  have pne:p≠g2.objs.size:=Nat.ne_of_lt (Nat.lt_trans hlt hdlt)
  rcases hTy with rfl|rfl
  ·have hl:g2.IsList p us.toArray:=⟨o,ho2,hcl,m,hdt⟩
   refine wpAny_pyIter_list (s:={s with heap:=g2,toks:=tk}) hl (wpAny_pure ⟨plainId_quiet jr _,?_⟩)
   exact loop _ tk _ (Walks.list (A:=A.in1.in1) hh _ p pne us.toArray) ⟨⟨_,Heap.get?_push_size _ rfl,rfl,rfl⟩,hl.push _⟩ fun b o e=>Heap.get?_push_of_some _ e
  ·have hl:g2.IsTuple p us.toArray:=⟨o,ho2,hcl,m,hdt⟩
   refine wpAny_pyIter_tuple (s:={s with heap:=g2,toks:=tk}) hl (wpAny_pure ⟨plainId_quiet jr _,?_⟩)
   exact loop _ tk _ (Walks.tuple (A:=A.in1.in1) hh _ p pne us.toArray) ⟨⟨_,Heap.get?_push_size _ rfl,rfl,rfl⟩,hl.push _⟩ fun b o e=>Heap.get?_push_of_some _ e
 obtain⟨ocl,odi,odt,osl⟩:=o
 obtain rfl:ocl=_:=hcl
 obtain rfl:odi=_:=hdi
 obtain rfl:odt=_:=hdt
 rcases hTy with rfl|rfl
 ·refine wpAny_bind (sO (s:={s with heap:=g}) hh (oth _ _ ho) fun g2 tk hk2=>?_)
  dsimp only
  rw[if_pos (show(none:Option Value).isNone=true from rfl)]
  exact wpAny_bind (wpAny_rule (wpAny_bind (fin g2 tk hk2)))
 ·refine wpAny_bind (qt (s:={s with heap:=g}) hh (oth _ _ ho) fun g2 tk hk2=>?_)
  dsimp only
  rw[if_pos (show(none:Option Value).isNone=true from rfl)]
  exact wpAny_bind (wpAny_rule (wpAny_bind (fin g2 tk hk2)))
end
section
variable {X:Cx}{pins:List (Addr×Obj)}{σ:St}{H:Hp}{s:Shared}
noncomputable abbrev wH(K:PySem.W.Frag)(H:Hp):List (Key×V)->List V->Prop:=Paired fun kv y=>∃a,y=.ref a/\bT K H a [kV kv.1,kv.2]
theorem zq(I:Inv X pins σ H s):∀{kvs:List (Key×V)}{ys:List V}{its:List Value},wH X.K H kvs ys->Vals ys its ->
  ∃rs:List (Key×Value),KV kvs rs/\rs.length=its.length/\∀(i:Nat) (u:Value) (kv:Key×Value),its[i]?=some u->rs[i]?=some kv->∃a o m key,u=.ref a/\s.heap.get? a=some o/\o.cls=.type "tuple"/\o.data=.seq #[key,kv.2] m/\(bx X.prog X.w).is kv.1 key=true:=by
 intro kvs ys its h
 induction h generalizing its with
 |nil=>intro v;cases v;exact⟨[],.nil,rfl,fun i u kv h _=>by simp at h⟩
 |@cons kv y kvs ys hd r ih =>
  intro v
  cases v with
  |cons ru rv =>
   obtain⟨a,e,hq⟩:=hd
   obtain⟨rs,k1,k2,k3⟩:=ih rv
   subst e
   cases ru
   obtain⟨jts,rj,⟨o,o1,o2,m,o3⟩,_⟩:=I.tuple hq
   obtain⟨u1,u2,rfl,r1,r2⟩:=vals2 rj
   refine⟨(kv.1,u2)::rs,.cons ⟨rfl,r2⟩ k1,by simp[k2],fun i u kv' h1 h2=>?_⟩
   cases i with
   |zero =>
    simp at h1 h2
    subst h1 h2
    exact⟨a,o,m,u1,rfl,o1,o2,by simpa using o3,oU r1⟩
   |succ i=>exact k3 i u kv' (by simpa using h1) (by simpa using h2)
theorem Inv.E8(I:Inv X pins σ H s){a:Addr}{xs:List V}(h:bT X.K H a xs):∃(its:List Value) (o:Obj) (n:Nat),Vals xs its/\s.heap.get? a=some o/\o.cls=.type "tuple"/\o.dict=none/\o.data=.seq its.toArray n/\xs.length<=sizeLine:=by
 rcases h with h|⟨o,its,n,hk,hc,hs,hz,r,hd⟩
 ·obtain⟨z,its,r,⟨o,e1,e2,n,e3⟩,o2,f1,f2⟩:=h.ok I.hok
  rw[e1]at f1
  cases f1
  exact⟨its,o,n,r,e1,e2,f2,e3,z⟩
 ·refine⟨its.toList,o,n,r,I.tV a o hk,hc,hd,by simpa using hs,?_⟩
  have e:=r.length
  simp only[Array.length_toList]at e
  omega
theorem wI(hc:X.calm=true):kL X (.type "dict") (fun xs H Q=>∃p ys kvs,xs=[.ref p]/\(H p=some (.lst ys)\/bT X.K H p ys)/\wH X.K H kvs ys/\∀d,H d=none->Q (.ref d) (upd H d (.dK (d9 [] kvs)))):=by
 intro pins s σ H xs us Q I r h
 obtain⟨p,ys,kvs,rfl,hp,hd,q⟩:=h
 obtain⟨u,rfl,ru⟩:=vals1 r
 cases ru
 obtain⟨its,o,T,m,rv,hTy,ho,hcl,hdi,hdt,hz⟩:∃(its:List Value) (o:Obj) (T:String) (m:Nat),Vals ys its/\(T="list"\/T="tuple")/\s.heap.get? p=some o/\o.cls=.type T/\o.dict=none/\o.data=.seq its.toArray m/\ys.length<=sizeLine:=by
  rcases hp with hp|hp
  ·obtain⟨z,its,n,rv,e⟩:=(show di X.prog X.w H s.heap p (.lst ys)from I.hok p _ hp)
   exact⟨its,_,"list",n,rv,.inl rfl,e,rfl,rfl,rfl,z⟩
  ·obtain⟨its,o,n,rv,e1,e2,e3,e4,z⟩:=I.E8 hp
   exact⟨its,o,"tuple",n,rv,.inr rfl,e1,e2,e3,e4,z⟩
 obtain⟨rs,k1,k2,k3⟩:=zq I hd rv
 have hl:=rv.length
 have hkl:kvs.length<=sizeLine:=by have:=KV.length k1;omega
 refine nQ (knd:=bx X.prog X.w) (rs:=rs) (I.ok.hd hc) hTy ho hcl hdi hdt k2 (by omega) k3 fun h' tk hd' hk=>?_
 have hb:=I.big
 refine⟨.ref s.heap.objs.size,_,I.laid (t':=tk) hk (Nat.le_refl _) (wj (kvs:=d9 [] kvs) ?_ (beq_eq_false_iff_ne.mpr (Ne.symm (Nat.ne_of_lt hb))) (KV.merge k1 .nil) hd'),rfl,q _ (I.hok.fresh (Nat.le_refl _))⟩
 have:=iZ kvs []
 simp at this
 omega
end
section
variable {prog:Program}{w:World}{A:Around}{R:Result->Shared->Prop}{s:Shared}
theorem fT{kx vx target iter:Expr}{ifs:List Expr}{scope:Scope}{pos:Pos}{it:Value}{D:Addr}{env:Env}{E:Value->Shared->Prop}(I:Nat->Shared->Prop)
  (turn:∀n s,I n s->wpAny (model prog w) A (pyNext it) (fun r s₁=>match r with
   |none=>R (.ok .next) s₁
   |some v=>wpAny (model prog w) A (letOwnedTupleGo target it v) (fun _ s₁'=>wpAny (model prog w) A (assign target env v) (fun _ s₂ =>
     wpAny (model prog w) A (forIn ifs true fun c r=>if r=true then do let ok ←isTrue c env (eval c env);pure (ForInStep.yield ok)else pure (ForInStep.yield r)) (fun ok s₃ =>
      if ok=true then wpAny (model prog w) A (eval kx env) (fun x s₄=>wpAny (model prog w) A (eval vx env) (fun y s₅ =>
       wpAny (model prog w) A (dictSet D x y) (fun _ s₆=>∃m,m<n/\I m s₆) E s₅) E s₄) E s₃
      else ∃m,m<n/\I m s₃) E s₂) E s₁') E s₁) E s)
  (hE:∀e s',E e s'->notedBy (model prog w) A env (fun e s'=>R (.error e) s') e s')
  (n:Nat) (h:I n s) :
  codeAny (model prog w) A (.compLoop (.DictComp kx vx [⟨target,iter,ifs,0⟩] scope pos) 0 it (.ref D) env) R s:=by
 refine codeAny_loop rfl I (fun n s hI=>?_) n h
 show wpAny _ A ((compTurn (.DictComp kx vx [⟨target,iter,ifs,0⟩] scope pos) 0 it (.ref D) env).onRaise (fun x=>do noteFrame x env;theTreesLotGoes x)) _ _ s
 refine wpAny_noted ?_
 rw[compTurn_dict]
 refine wpAny_bind (wpAny_standAt (wpAny_bind (wpAny_mono (turn n s hI) (fun r s₁ h₁=>?_) hE)))
 cases r with
 |none=>exact wpAny_pure h₁
 |some v =>
  refine wpAny_bind (wpAny_mono h₁ (fun _ s₁' h₁'=>?_) hE)
  refine wpAny_bind (wpAny_mono h₁' (fun _ s₂ h₂=>wpAny_bind (wpAny_mono h₂ (fun ok s₃ h₃=>?_) hE)) hE)
  cases ok with
  |false=>exact wpAny_pure ⟨rfl,h₃⟩
  |true =>
   exact wpAny_bind (wpAny_bind (wpAny_mono h₃ (fun x s₄ h₄=>wpAny_bind (wpAny_holding (wpAny_mono h₄ (fun y s₅ h₅=>wpAny_bind (wpAny_standAt (wpAny_holding (wpAny_mono h₅ (fun _ s₆ h₆=>wpAny_pure ⟨rfl,h₆⟩) hE)))) hE))) hE))
end
section
variable {X:Cx}{pins:List (Addr×Obj)}{σ:St}{H:Hp}{s:Shared}
theorem nB{scope:Scope}{N':List Str}{fp:List Addr}{C D:Addr}{s':Shared}{H':Hp}{σ':St}{pins':List (Addr×Obj)}{kvs:List (Key×V)}{rs:List (Key×Value)}{h'':Heap}(I:Inv X pins σ H s)(hf:∀b∈fp,mT X pins H b)
  (I':Inv (aH X scope N' fp C s H) pins' σ' H' s') (hC:s.heap.objs.size<=C) (hD:s.heap.objs.size<=D) (hDC:D≠C) (hDn:H' D=none) (pl:s'.heap.DictOf (bx X.prog X.w) D rs) (rv:KV kvs rs) (hz:kvs.length<=sizeLine) (hs:Heap.SameBut C s'.heap h'') :
  Inv X pins σ (upd H' D (.dK kvs)) {s' with heap:=h''}:=by
 have un:Un (frs X.stack) fp H H' s.heap s'.heap:=I'.base
 have hCn:H' C=none:=I'.free
 have at':∀b,b≠C->h''.get? b=s'.heap.get? b:=fun b hb=>hs.2 b hb
 have neC:∀b o,s.heap.get? b=some o->b≠C:=fun b o e=>Nat.ne_of_lt (Nat.lt_of_lt_of_le (Heap.lt_size e) hC)
 have neD:∀b o,s.heap.get? b=some o->b≠D:=fun b o e=>Nat.ne_of_lt (Nat.lt_of_lt_of_le (Heap.lt_size e) hD)
 have okHD:∀b u,H b=some u->b≠D:=fun b u e=>Nat.ne_of_lt (Nat.lt_of_lt_of_le (I.hok.lt e) hD)
 have un':Un (frs X.stack) fp H (upd H' D (.dK kvs)) s.heap h'':=by
  refine⟨fun b o e n h1 h2=>?_,fun b o e n h1 h2=>?_,fun b o e n h2=>?_,fun b o e h2=>?_,fun b xs e=>?_,fun b o u e=>?_,fun b ps e=>?_⟩
  ·rw[at' b (neC b o e)];exact un.keep b o e n h1 h2
  ·rw[at' b (neC b o e)];exact un.slot b o e n h1 h2
  ·rw[au (neD b o e)];exact un.free b o e n h2
  ·rw[at' b (neC b o e)];exact un.there b o e h2
  ·rw[au (okHD b _ e)];exact un.tups b xs e
  ·rw[au (okHD b _ e)];exact un.frzs b o u e
  ·rw[au (okHD b _ e)];exact un.tbls b ps e
 have hok:kK X.prog X.w (upd H' D (.dK kvs)) h'':=fun b u e=>by
  by_cases hb:b=D
  ·subst hb
   rw[ah]at e
   cases e
   exact⟨hz,beq_eq_false_iff_ne.mpr (Ne.symm (Nat.ne_of_lt (Nat.lt_of_lt_of_le I.big hD))),rs,rv,pl.at fun o e=>by rw[at' b hDC];exact e⟩
  ·rw[au hb]at e
   refine(I'.hok b u e).stay (fun c v hc q=>?_) (fun c q=>?_) fun c xs q=>?_
   ·rw[at' c ?_];exact q
    rintro rfl
    rcases hc with z|z
    ·rw[←z,hCn]at e;cases e
    ·rw[hCn]at z;cases z
   ·rw[au (fun z=>by rw[z,hDn]at q;cases q)];exact q
   ·rw[au (fun z=>by rw[z,hDn]at q;cases q)];exact q
 exact I.DZ (s':={s' with heap:=h''}) (ch:=fp) I'.os un' hok I'.bare fun b hb=>⟨(hf b hb).2.2.2.1,(hf b hb).2.1,(hf b hb).2.2.2.2.1,(hf b hb).2.2.2.2.2⟩
end
noncomputable def wJ(J:It)(g:TG)(tt:TT)(tk tv:TE)(Q:VK)(σ0:St)(H0:Hp):Prop:=∃W:Nat->Nat->St->List (Key×V)->Hp->Prop,(∃m,W 0 m σ0 [] H0)/\∀i m σ' kvs H,W i m σ' kvs H ->
 (J.stop i H/\kvs.length<=sizeLine/\∀p,H p=none->Q (.ref p) (upd H p (.dK kvs))) \/
 (J.go i H/\kvs.length<sizeLine/\∃N:St->List (Key×V)->Hp->Prop,(∀σ2 vs2 H2,N σ2 vs2 H2->∃m',m' < m/\W (i+1) m' σ2 vs2 H2)/\∀x H',J.yld i H x H'->g x σ' H' fun σ2 H2=>tt σ2 H2 fun ok H3 =>
  if ok=true then tk σ2 H3 fun kv H4=>tv σ2 H4 fun v H5=>∃key,kv=kV key/\N σ2 (putK kvs key v) H5 else N σ2 kvs H3)
noncomputable def sQ(own:Nat)(fr:List Nat)(wi:TI)(g:TG)(tt:TT)(tk tv:TE):TE:=fun σ H Q=>wi σ H fun J H1=>wJ J g tt tk tv Q (fG own fr σ) H1
section
variable {X:Cx}
theorem A1{kx vx iter tg:Expr}{ifs:List Expr}{scope:Scope}{pos:Pos}{wi:TI}{g:TG}{tt:TT}{tk tv:TE}(own:List Str)(fr:List Nat)(hc:X.calm=true)
  (hkind:scope.kind=.function) (hcell:∀x∈scope.names,x.2≠.cell) (hnames:∀x∈scope.names,x.2=.local->scope.names.lookup x.1=some .local)
  (hfr:∀x∈scope.names,x.2=.free->X.env.scope.names.lookup x.1=some .cell\/X.env.scope.names.lookup x.1=some .free)
  (hin:∀j∈fr,scope.names.lookup (X.N.getD j Str.empty)=some .free)
  (hi:PI X tg iter wi) (hg:∀fp C s H,PG (aH X scope (own++fr.map fun j=>X.N.getD j Str.empty) fp C s H) tg g)
  (ht:∀fp C s H,qm (aH X scope (own++fr.map fun j=>X.N.getD j Str.empty) fp C s H) ifs tt)
  (hk:∀fp C s H,PE (aH X scope (own++fr.map fun j=>X.N.getD j Str.empty) fp C s H) kx tk)
  (he:∀fp C s H,PE (aH X scope (own++fr.map fun j=>X.N.getD j Str.empty) fp C s H) vx tv)
  (hs:∀x,foldedSetIterable iter X.env x=pure x:=by intro _;rfl):PE X (.DictComp kx vx [⟨tg,iter,ifs,0⟩] scope pos) (sQ own.length fr wi g tt tk tv):=by
 intro pins s σ H Q I h
 rw[arm_eval_DictComp]
 have hfree:∀x∈scope.names,x.2=.free->∃c,X.env.cells.lookup x.1=some c:=fun x hx e=>I.ok.has x.1 (hfr x hx e)
 refine wpAny_comprehension_free (use:=none) rfl hs (gi hfree) hkind hnames ?_
 refine bP (hi pins s σ H _ I h) fun v s1 h1=>bP h1 fun itv s2 h2=>?_
 obtain⟨it,fp,tn,J,H2,e,I2,T,st2,f2,W,⟨m0,w0⟩,turn⟩:=h2
 subst e
 have hfo:∀b∈fp,b<s2.heap.objs.size:=fun b hb=>by obtain⟨o,e,_⟩:=T.obj 0 _ st2 b hb;exact Heap.lt_size e
 refine wpAny_newObj_type (wpAny_newFunctionEnv hcell (by intro y hy;simp at hy) (fun h₁ hns₁ hsb₁=>?_) hkind)
 dsimp only at hns₁ hsb₁⊢
 generalize hH2:s2.heap.push {cls:=.type "dict",dict:=none,data:=.dict #[]}=G2 at hns₁ hsb₁⊢
 have hC:G2.objs.size=s2.heap.objs.size+1:=by rw[←hH2,Heap.size_push]
 have hDC:s2.heap.objs.size≠G2.objs.size:=by rw[hC];exact Nat.ne_of_lt (Nat.lt_succ_self _)
 have hCle:s2.heap.objs.size<=G2.objs.size:=by rw[hC];exact Nat.le_succ _
 have old:∀b o,s2.heap.get? b=some o->h₁.get? b=some o:=fun b o e=>hsb₁.extBut b o (by rw[hC];exact Nat.ne_of_lt (Nat.lt_succ_of_lt (Heap.lt_size e))) (Heap.get?_push_of_some _ (hH2▸Heap.get?_push_of_some _ e))
 have hacc:h₁.DictOf (bx X.prog X.w) s2.heap.objs.size []:=(hH2▸Heap.DictOf.new (knd:=bx X.prog X.w) s2.heap:G2.DictOf (bx X.prog X.w) s2.heap.objs.size []).at fun o e=>hsb₁.extBut _ _ hDC (Heap.get?_push_of_some _ e)
 have I3:Inv (aH X scope (own++fr.map fun j=>X.N.getD j Str.empty) fp G2.objs.size s2 H2) [] (fG own.length fr σ) H2 {s2 with heap:=h₁,toks:=s2.toks+([]:List (Str×Value)).length} :=
  jB I2 hkind hcell hfr hin hCle f2 hfo old hns₁
 have st3:tn 0 h₁:=T.keep 0 _ _ st2 fun b _ o e=>old b o e
 have hDf:s2.heap.objs.size∉fp:=fun hm=>Nat.lt_irrefl _ (hfo _ hm)
 have hDn2:H2 s2.heap.objs.size=none:=I2.hok.fresh (Nat.le_refl _)
 have sub:∀y c,(bA X.env scope.names []).lookup y=some c->X.env.cells.lookup y=some c:=eN _ _ hfree (by intro y c e;simp at e)
 have cellD:∀y c,(bA X.env scope.names []).lookup y=some c->c≠s2.heap.objs.size:=fun y c e=>by
  obtain⟨_,o,ho,_⟩:=I2.cell y c (sub y c e)
  exact Nat.ne_of_lt (Heap.lt_size ho)
 have gH:s2.heap.objs.size∉frs X.stack:=fun z=>by
  rcases List.mem_cons.mp (I2.kW _ z)with e|e
  ·exact absurd I2.lt (by rw[←e];exact Nat.lt_irrefl _)
  ·exact I2.vI (Nat.le_refl _) e
 -- the iterator's records,in the block's context
 have stat:∀{H':Hp}{pl:List (Addr×Obj)},(∀b∈fp,H' b=none)->(∀p∈pl,p.1=s2.heap.objs.size)->∀b∈fp,mT (aH X scope (own++fr.map fun j=>X.N.getD j Str.empty) fp G2.objs.size s2 H2) pl H' b:=fun{H' pl} hn hp b hb=>by
  refine⟨hn b hb,(I3.ok.exf b hb).1,I3.ok.exfs b hb,.inl hb,(I3.ok.exf b hb).2,fun p hpp z=>?_⟩
  have hpp':p∈pl:=by simpa[aH]using hpp
  exact hDf (by rw[←hp p hpp',z];exact hb)
 have pinD:∀{σ':St}{H':Hp}{s':Shared}{o:Obj}{es:Array DictEntry}{n:Nat},Inv (aH X scope (own++fr.map fun j=>X.N.getD j Str.empty) fp G2.objs.size s2 H2) [] σ' H' s'->H' s2.heap.objs.size=none->s'.heap.get? s2.heap.objs.size=some o->o.data=.dict es n ->
   Inv (aH X scope (own++fr.map fun j=>X.N.getD j Str.empty) fp G2.objs.size s2 H2) [(s2.heap.objs.size,o)] σ' H' s':=fun{σ' H' s' o es n} J hn e ed=>J.cD fun p hp=>by
  have e':p=(s2.heap.objs.size,o):=by simpa using hp
  subst e'
  exact⟨e,hn,hDC,gH,fun v z=>by rw[ed]at z;cases z⟩
 have loop:codeAny (model X.prog X.w) X.A (.compLoop (.DictComp kx vx [⟨tg,iter,ifs,0⟩] scope pos) 0 (.ref it) (.ref s2.heap.objs.size) (compEnvC scope (bA X.env scope.names []) G2.objs.size X.env))
   (compPost (model X.prog X.w) X.A X.xe none (EP X pins σ Q) (.ref s2.heap.objs.size) G2.objs.size) {s2 with heap:=h₁,toks:=s2.toks+([]:List (Str×Value)).length}:=by
  refine fT (E:=fun _ _=>False) (fun n s'=>∃i σ' H' kvs rs,Inv (aH X scope (own++fr.map fun j=>X.N.getD j Str.empty) fp G2.objs.size s2 H2) [] σ' H' s'/\tn i s'.heap/\(∀b∈fp,H' b=none)/\H' s2.heap.objs.size=none/\s'.heap.DictOf (bx X.prog X.w) s2.heap.objs.size rs/\KV kvs rs/\W i n σ' kvs H')
   ?_ (fun _ _ z=>z.elim) m0 ⟨0,_,H2,[],[],I3,st3,fun b hb=>(f2 b hb).1,hDn2,hacc,.nil,w0⟩
  rintro n s3 ⟨i,σ3,H3,kvs,rs,J3,st3,fr3,dn3,dd3,rv,w3⟩
  obtain⟨od,oes,oep,pl3,oex,odt,oks,opr,ond⟩:=id dd3
  have J3':=pinD J3 dn3 pl3 odt
  have hpins:∀p∈[(s2.heap.objs.size,od)],p.1=s2.heap.objs.size:=fun p hp=>by
   have e':p=(s2.heap.objs.size,od):=by simpa using hp
   rw[e']
  rcases turn i n σ3 kvs H3 w3 with⟨stop,hz,q⟩|⟨go,hz,N,hN,step⟩
  ·refine bP (T.done (aH X scope (own++fr.map fun j=>X.N.getD j Str.empty) fp G2.objs.size s2 H2) rfl rfl rfl hc i _ s3 σ3 H3 (fun _ _=>False) J3' (stat fr3 hpins) st3 stop) fun r s4 ⟨hr,J4⟩=>?_
   subst hr
   obtain⟨m4,hn4,_⟩:=id J4.loc
   refine⟨m4,hn4,fun h' hs'=>?_⟩
   have e4:s4.heap.get? s2.heap.objs.size=some od:=(J4.pin (s2.heap.objs.size,od) (List.mem_append_right _ (by simp))).1
   exact⟨.ref s2.heap.objs.size,_,nB I2 f2 J4 hCle (Nat.le_refl _) hDC dn3 ⟨od,oes,oep,e4,oex,odt,oks,opr,ond⟩ rv hz hs',rfl,q _ dn3⟩
  ·refine bP (T.item (aH X scope (own++fr.map fun j=>X.N.getD j Str.empty) fp G2.objs.size s2 H2) rfl rfl rfl hc i _ s3 σ3 H3 (fun _ _=>False) J3' (stat fr3 hpins) st3 go) fun r s4 ⟨u,hr,h4⟩=>?_
   subst hr
   refine bP h4 fun _ s5 ⟨x,H5,J5,r5,y5,st5,fr5⟩=>?_
   have J5':=J5.pinned (stat fr5 hpins) (T.obj _ _ st5)
   refine bP (hg fp _ s2 H2 _ s5 σ3 H5 x u _ J5' r5 (step x H5 y5)) fun _ s6 ⟨σ6,H6,J6,q6⟩=>?_
   refine bP (ht fp _ s2 H2 _ s6 σ6 H6 _ J6 q6) fun ok s7 ⟨H7,J7,q7⟩=>?_
   -- what stood pinned through the turn
   have after:∀{s8:Shared}{H8:Hp},Inv (aH X scope (own++fr.map fun j=>X.N.getD j Str.empty) fp G2.objs.size s2 H2) ([(s2.heap.objs.size,od)]++jU fp s5.heap) σ6 H8 s8 ->
     tn (i+1) s8.heap/\(∀b∈fp,H8 b=none)/\H8 s2.heap.objs.size=none/\s8.heap.get? s2.heap.objs.size=some od:=fun{s8 H8} J8=>by
    refine⟨T.keep _ _ _ st5 fun b hb o e=>(J8.pin (b,o) (List.mem_append_right _ (List.mem_append_right _ (cS hb e)))).1,fun b hb=>?_,?_,?_⟩
    ·obtain⟨o,e,d⟩:=T.obj _ _ st5 b hb
     exact(J8.pin (b,o) (List.mem_append_right _ (List.mem_append_right _ (cS hb e)))).2.1
    ·exact(J8.pin (s2.heap.objs.size,od) (List.mem_append_right _ (List.mem_append_left _ (by simp)))).2.1
    ·exact(J8.pin (s2.heap.objs.size,od) (List.mem_append_right _ (List.mem_append_left _ (by simp)))).1
   cases ok with
   |false =>
    obtain⟨m',hm,w7⟩:=hN _ _ _ q7
    obtain⟨a1,a2,a3,a4⟩:=after J7
    exact⟨m',hm,i+1,σ6,H7,kvs,rs,J7.cD (fun p hp=>absurd hp (by simp)),a1,a2,a3,⟨od,oes,oep,a4,oex,odt,oks,opr,ond⟩,rv,w7⟩
   |true =>
    refine bP (hk fp _ s2 H2 _ s7 σ6 H7 _ J7 q7) fun x s75 ⟨v75,H75,J75,r75,n75⟩=>?_
    refine bP (he fp _ s2 H2 _ s75 σ6 H75 _ J75 n75) fun y s8 ⟨v8,H8,J8,r8,n8⟩=>?_
    obtain⟨key,rfl,n8⟩:=n8
    obtain⟨m',hm,w8⟩:=hN _ _ _ n8
    obtain⟨a1,a2,a3,a4⟩:=after J8
    have J9:Inv (aH X scope (own++fr.map fun j=>X.N.getD j Str.empty) fp G2.objs.size s2 H2) [] σ6 H8 s8:=J8.cD (fun p hp=>absurd hp (by simp))
    have hrs:rs.length<=sizeLine:=by have:=KV.length rv;omega
    refine wpAny_dictSet_pairs (oU r75) (⟨od,oes,oep,a4,oex,odt,oks,opr,ond⟩:s8.heap.DictOf (bx X.prog X.w) s2.heap.objs.size rs) (fun h₅ hl₅ hs₅=>?_) hrs
    exact⟨m',hm,i+1,σ6,H8,putK kvs key v8,stored rs key y,J9.turned (t':=s8.toks+1) (it:=s2.heap.objs.size) (fun b o hb e=>by rw[hs₅.2 b hb];exact e) a3 hDC (.inr (Nat.le_refl _)) cellD (fun p hp=>absurd (show p∈([]:List (Addr×Obj))from hp) (by simp)),
     T.keep _ _ _ a1 fun b hb o e=>(hs₅.2 b (fun z=>hDf (z▸hb))).trans e,a2,a3,hl₅,rv.put key r8,w8⟩
 exact codeAny_compStart_dict loop (T.self X.A 0 _ _ _ st3 loop)
end
theorem zu{X:Cx}{kx vx iter tg:Expr}{ifs:List Expr}{scope:Scope}{pos:Pos}{wi:TI}{g:TG}{tt:TT}{tk tv:TE}(sc:Scope)(N0 own:List Str)(fr:List Nat)(hc:X.calm=true)(hsc:X.env.scope=sc)(hN:X.N=N0)
  (ok:j0 scope sc N0 fr=true) (hi:PI X tg iter wi) (hg:∀fp C s H,PG (aH X scope (own++fr.map fun j=>N0.getD j Str.empty) fp C s H) tg g)
  (ht:∀fp C s H,qm (aH X scope (own++fr.map fun j=>N0.getD j Str.empty) fp C s H) ifs tt)
  (hk:∀fp C s H,PE (aH X scope (own++fr.map fun j=>N0.getD j Str.empty) fp C s H) kx tk)
  (he:∀fp C s H,PE (aH X scope (own++fr.map fun j=>N0.getD j Str.empty) fp C s H) vx tv)
  (hs:∀x,foldedSetIterable iter X.env x=pure x:=by intro _;rfl):PE X (.DictComp kx vx [⟨tg,iter,ifs,0⟩] scope pos) (sQ own.length fr wi g tt tk tv):=by
 subst hsc hN
 unfold j0 at ok
 simp only[Bool.and_eq_true,List.all_eq_true,bne_iff_ne,beq_iff_eq,Bool.or_eq_true]at ok
 obtain⟨⟨k1,k2⟩,k3⟩:=ok
 refine A1 own fr hc k1 (fun x hx=>(k2 x hx).1.1) (fun x hx e=>?_) (fun x hx e=>?_) (fun j hj=>k3 j hj) hi hg ht hk he hs
 ·rcases(k2 x hx).1.2 with z|z
  ·exact absurd e z
  ·exact z
 ·rcases(k2 x hx).2 with(z|z)|z
  ·exact absurd e z
  ·exact .inl z
  ·exact .inr z
section
variable {g:TG}{tt:TT}{tk tv:TE}{Q:VK}{σ0:St}{H0:Hp}
theorem A2{J:It}(n:Nat)(Pv:Nat->St->List (Key×V)->Hp->Prop)(h0:Pv 0 σ0 [] H0)(hlen:∀i σ kvs H,i<=n->Pv i σ kvs H->kvs.length<=i)(hn:n<=sizeLine)(hgo:∀i σ kvs H,i<n->Pv i σ kvs H->J.go i H)(hst:∀σ kvs H,Pv n σ kvs H->J.stop n H)
  (hs:∀i σ kvs H x H',i<n->Pv i σ kvs H->J.yld i H x H'->g x σ H' fun σ2 H2=>tt σ2 H2 fun ok H3=>if ok=true then tk σ2 H3 fun kv H4=>tv σ2 H4 fun v H5=>∃key,kv=kV key/\Pv (i+1) σ2 (putK kvs key v) H5 else Pv (i+1) σ2 kvs H3)
  (hd:∀σ kvs H,Pv n σ kvs H->∀p,H p=none->Q (.ref p) (upd H p (.dK kvs))):wJ J g tt tk tv Q σ0 H0:=by
 refine⟨fun i m σ kvs H=>m=n-i/\i<=n/\Pv i σ kvs H,⟨n,by simp,Nat.zero_le _,h0⟩,?_⟩
 rintro i m σ kvs H ⟨rfl,hi,p⟩
 have hv:=hlen i σ kvs H hi p
 by_cases hlt:i<n
 ·exact .inr ⟨hgo i σ kvs H hlt p,by omega,Pv (i+1),fun σ2 vs2 H2 q=>⟨n - (i+1),by omega,rfl,hlt,q⟩,fun x H' y=>hs i σ kvs H x H' hlt p y⟩
 ·have e:i=n:=by omega
  subst e
  exact .inl ⟨hst σ kvs H p,by omega,hd σ kvs H p⟩
theorem qU{K:PySem.W.Frag}{a:Addr}{xs:List V}(Pv:Nat->St->List (Key×V)->Hp->Prop)(h0:Pv 0 σ0 [] H0)(hlen:∀i σ kvs H,i<=xs.length->Pv i σ kvs H->kvs.length<=i)(hn:xs.length<=sizeLine)(hl:∀i σ kvs H,i<=xs.length->Pv i σ kvs H->bT K H a xs)
  (hs:∀i x σ kvs H,xs[i]?=some x->Pv i σ kvs H->g x σ H fun σ2 H2=>tt σ2 H2 fun ok H3=>if ok=true then tk σ2 H3 fun kv H4=>tv σ2 H4 fun v H5=>∃key,kv=kV key/\Pv (i+1) σ2 (putK kvs key v) H5 else Pv (i+1) σ2 kvs H3)
  (hd:∀σ kvs H,Pv xs.length σ kvs H->∀p,H p=none->Q (.ref p) (upd H p (.dK kvs))):wJ (EL K a) g tt tk tv Q σ0 H0:=by
 refine A2 xs.length Pv h0 hlen hn (fun i σ vs H hi p=>⟨xs,xs[i],hl i σ vs H (Nat.le_of_lt hi) p,by simp[hi]⟩) (fun σ vs H p=>⟨xs,hl _ σ vs H (Nat.le_refl _) p,Nat.le_refl _⟩) (fun i σ vs H x H' hi p y=>?_) hd
 obtain⟨rfl,y⟩:=y
 exact hs i x σ vs _ (y xs (hl i σ vs _ (Nat.le_of_lt hi) p)) p
end
end L2
namespace L2
open PySem
section
variable {K:PySem.W.Frag}{H:Hp}{v:V}
theorem Rp.t1{x:T}(h:Rp K H (.t [x]) v):∃a u,v=.ref a/\bT K H a [u]/\Rp K H x u:=by
 obtain⟨a,vs,rfl,sq,r⟩:=h.bj
 obtain⟨u,q,rfl,g,r2⟩:=r.inv
 obtain rfl:=r2.cZ
 exact⟨a,u,rfl,sq,g⟩
theorem Rp.t2{x y:T}(h:Rp K H (.t [x,y]) v):∃a u1 u2,v=.ref a/\bT K H a [u1,u2]/\Rp K H x u1/\Rp K H y u2:=by
 obtain⟨a,vs,rfl,sq,r⟩:=h.bj
 obtain⟨u,q,rfl,g,r2⟩:=r.inv
 obtain⟨u2,q2,rfl,g2,r3⟩:=r2.inv
 obtain rfl:=r3.cZ
 exact⟨a,u,u2,rfl,sq,g,g2⟩
theorem Rp.t3{x y z:T}(h:Rp K H (.t [x,y,z]) v):∃a u1 u2 u3,v=.ref a/\bT K H a [u1,u2,u3]/\Rp K H x u1/\Rp K H y u2/\Rp K H z u3:=by
 obtain⟨a,vs,rfl,sq,r⟩:=h.bj
 obtain⟨u,q,rfl,g,r2⟩:=r.inv
 obtain⟨u2,q2,rfl,g2,r3⟩:=r2.inv
 obtain⟨u3,q3,rfl,g3,r4⟩:=r3.inv
 obtain rfl:=r4.cZ
 exact⟨a,u,u2,u3,rfl,sq,g,g2,g3⟩
theorem Rp.t4{x y z x4:T}(h:Rp K H (.t [x,y,z,x4]) v):∃a u1 u2 u3 u4,v=.ref a/\bT K H a [u1,u2,u3,u4]/\Rp K H x u1/\Rp K H y u2/\Rp K H z u3/\Rp K H x4 u4:=by
 obtain⟨a,vs,rfl,sq,r⟩:=h.bj
 obtain⟨u,q,rfl,g,r2⟩:=r.inv
 obtain⟨u2,q2,rfl,g2,r3⟩:=r2.inv
 obtain⟨u3,q3,rfl,g3,r4⟩:=r3.inv
 obtain⟨u4,q4,rfl,g4,r5⟩:=r4.inv
 obtain rfl:=r5.cZ
 exact⟨a,u,u2,u3,u4,rfl,sq,g,g2,g3,g4⟩
theorem Rp.t5{x y z x4 x5:T}(h:Rp K H (.t [x,y,z,x4,x5]) v):∃a u1 u2 u3 u4 u5,v=.ref a/\bT K H a [u1,u2,u3,u4,u5]/\Rp K H x u1/\Rp K H y u2/\Rp K H z u3/\Rp K H x4 u4/\Rp K H x5 u5:=by
 obtain⟨a,vs,rfl,sq,r⟩:=h.bj
 obtain⟨u,q,rfl,g,r2⟩:=r.inv
 obtain⟨u2,q2,rfl,g2,r3⟩:=r2.inv
 obtain⟨u3,q3,rfl,g3,r4⟩:=r3.inv
 obtain⟨u4,q4,rfl,g4,r5⟩:=r4.inv
 obtain⟨u5,q5,rfl,g5,r6⟩:=r5.inv
 obtain rfl:=r6.cZ
 exact⟨a,u,u2,u3,u4,u5,rfl,sq,g,g2,g3,g4,g5⟩
end
end L2
namespace L2
open PySem PySem.Spec PyProof.Rows
section
variable {X:Cx}
noncomputable def E9(T:Addr->Sp->Prop)(tf:TE)(t:TA):TE:=fun σ H Q=>tf σ H fun x H0=>∃f sp,x=.ref f/\T f sp/\t σ H0 fun vs H1=>sp vs H1 Q E0
theorem uO{T:Addr->Sp->Prop}{x:Str}{p pos:Pos}{e:Expr}{es:List Expr}{tf:TE}{t:TA}
  (hT:∀f sp,T f sp->∃k fd ps,bF X.prog X.w X.K X.mg X.base dX k f fd ps sp/\cT k X.A/\PySem.W.keepIn X.K (.ref f)=true/\Binds X.K fd ps [])
  (hf:PE X (.Name x p) tf) (ha:PA X (e::es) t) (he:starEach (e::es) X.env=(false,eval e X.env)::starEach es X.env:=by rfl) (hpl:(backTo pos (starEach es X.env)).any (·.1)=false:=by rfl) :
  PE X (.Call (.Name x p) (e::es) [] pos) (E9 T tf t):=by
 intro pins s σ H Q I h
 refine wpAny_Call_Name_kw (bP (hf pins s σ H _ I h) fun u s0 ⟨v,H0,I0,rx,f,sp,ev,hTf,q⟩=>?_)
 subst ev
 obtain rfl:u=Value.ref f:=rx
 obtain⟨k,fd,ps,F,hr,hk,hb⟩:=hT f sp hTf
 refine PySem.W.callWith_K (h₀:=X.base) I0.ok.mod.kin hk (bP (ha pos pins s0 σ H0 _ I0 q) fun us s1 ⟨vs,H1,I1,r,q⟩=>⟨I1.tV,?_⟩) he hpl
 exact rS (E:=E0) (dvs:=[]) F hr hb .nil iP I1 r (by simpa using q)
section
variable {prog:Program}{w:World}{A:Around}{E:Value->Shared->Prop}{s:Shared}
end
theorem Dd{l tg:Expr}{tl:TE}(K:PySem.W.Frag)(hK:X.K=K)(hl:PE X l tl):PI X tg l (GG K tl):=by subst hK;exact jT hl
theorem De{e:Expr}{f:Str}{pos:Pos}{ta:TE}(K:PySem.W.Frag)(hK:X.K=K)(he:PE X e ta)(hb:attributeBase e f X.env (eval e X.env)=eval e X.env):PE X (.Attribute e f pos) (GQ K ta f):=by subst hK;exact dI he hb
theorem Df{T:String}{name:Str}{id:String}{r:V->List V->Hp->VK->Prop}{o:Expr}{to:TE}{apos cpos:Pos}(K:PySem.W.Frag)(hK:X.K=K)(pa:PlainAttrs T)(slot:Slot T name id)(hty:typeOf (.builtin id)=pure (.type "method_descriptor"))(hm:G0 X id r)(ho:PE X o to)
  (hbase:attributeBase o name X.env (eval o X.env)=eval o X.env:=by rfl) (hline:(apos.endLine == cpos.line)=true:=by rfl):PE X (.Call (.Attribute o name apos) [] [] cpos) (G4 K T r to):=by subst hK;exact Aq pa slot hty hm ho hbase hline
end
section
variable {X:Cx}
theorem A3:lO X (binaryOp .Add) (fun x y H Q=>∃a b ys,x=.ref a/\y=.ref b/\bT X.K H a []/\bT X.K H b ys/\Q (.ref b) H):=by
 intro pins s σ H x y u v Q I rx ry h
 obtain⟨a,b,ys,rfl,rfl,ha,hb,q⟩:=h
 cases rx
 cases ry
 obtain⟨its,r1,ht,_⟩:=I.tuple ha
 obtain⟨jts,r2,hb2,_⟩:=I.tuple hb
 cases r1
 obtain⟨⟨cls,dd,data,sl⟩,ho,hc,n,hd⟩:=id ht
 obtain⟨⟨cls2,dd2,data2,sl2⟩,ho2,hc2,n2,hd2⟩:=id hb2
 simp only at hc hd hc2 hd2
 subst hc hd hc2 hd2
 exact concat_meets ⟨_,ho,rfl⟩ ⟨_,ho2,rfl⟩ noFill_tuple_add seq_tuple_add PySem.F.slot_tuple_add PySem.F.entry_tuple_add (PySem.F.args_tuple_add_2 _ _)
   (tuple_addW0 a b _ jts.toArray n n2 dd dd2 sl sl2 (by simp)) ⟨ho,ho2,⟨.ref b,H,I,rfl,q⟩⟩
end
section
variable {X:Cx}
noncomputable def Hs(K:PySem.W.Frag):R2:=fun x y H Q=>∃a b xs ys,x=.ref a/\y=.ref b/\bT K H a xs/\bT K H b ys/\xs.length+ys.length<=sizeLine/\∀p H',br H H'->bT K H' p (xs++ys)->Q (.ref p) H'
theorem jt:lO X (binaryOp .Add) (Hs X.K):=by
 intro pins s σ H x y u v Q I rx ry h
 obtain⟨a,b,xs,ys,rfl,rfl,ha,hb,hz,k⟩:=h
 cases xs with
 |nil=>exact A3 pins s σ H _ _ u v Q I rx ry ⟨a,b,ys,rfl,rfl,ha,hb,k b H (br.refl _) hb⟩
 |cons x r =>
  exact CJ pins s σ H _ _ u v Q I rx ry ⟨a,b,_,ys,rfl,rfl,ha,hb,(by simp),hz,(fun z=>by subst z;have:=k a H (br.refl _);rw[List.append_nil]at this;exact this ha),fun _ p hp=>k p _ (ae hp _) (bT.of ah)⟩
end
noncomputable def lE(b:Bool)(h:Heap)(l:Addr)(xs:Array Value):Prop:=match b with|false=>h.IsList l xs|true=>h.IsTuple l xs
noncomputable def kO(b:Bool)(h:Heap)(i l:Addr)(k:Nat):Prop:=match b with|false=>h.IsListIter i l k|true=>h.IsTupleIter i l k
theorem lE.at{b:Bool}{h h':Heap}{l:Addr}{xs:Array Value}(x:lE b h l xs)(k:∀o,h.get? l=some o->h'.get? l=some o):lE b h' l xs:=by
 cases b with
 |false=>exact Heap.IsList.at (show h.IsList l xs from x) k
 |true=>obtain⟨o,e,r⟩:=(show h.IsTuple l xs from x);exact⟨o,k o e,r⟩
theorem kO.at{b:Bool}{h h':Heap}{i l:Addr}{n:Nat}(x:kO b h i l n)(k:∀o,h.get? i=some o->h'.get? i=some o):kO b h' i l n:=by
 cases b with
 |false=>exact Heap.IsListIter.at (show h.IsListIter i l n from x) k
 |true=>obtain⟨o,e,r⟩:=(show h.IsTupleIter i l n from x);exact⟨o,k o e,r⟩
theorem lE.extBut{b:Bool}{h h':Heap}{l c:Addr}{xs:Array Value}(x:lE b h l xs)(hs:Heap.ExtBut c h h')(hc:l≠c):lE b h' l xs:=x.at fun o e=>hs l o hc e
theorem kO.extBut{b:Bool}{h h':Heap}{i l c:Addr}{n:Nat}(x:kO b h i l n)(hs:Heap.ExtBut c h h')(hc:i≠c):kO b h' i l n:=x.at fun o e=>hs i o hc e
theorem lE.got{b:Bool}{h:Heap}{l:Addr}{xs:Array Value}(x:lE b h l xs):∃o,h.get? l=some o:=by
 cases b with
 |false=>obtain⟨o,e,_⟩:=(show h.IsList l xs from x);exact⟨o,e⟩
 |true=>obtain⟨o,e,_⟩:=(show h.IsTuple l xs from x);exact⟨o,e⟩
section
variable {prog:Program}{w:World}{A:Around}{E:Value->Shared->Prop}{s:Shared}
theorem qu{it t:Addr}{i:Nat}{items:Array Value}{x:Value}{Q:Value->Shared->Prop}(hit:s.heap.IsTupleIter it t i)(ht:s.heap.IsTuple t items)(hx:items[i]?=some x)
  (hQ:∀h',h'.IsTupleIter it t (i+1)->Heap.SameBut it s.heap h'->Q x {s with heap:=h'}):wpAny (model prog w) A (Builtin.SmallTypes.nextOf (.ref it)) Q E s:=by
 obtain⟨o,ho,hc,hd⟩:=id hit
 obtain⟨ol,hol,_,nl,hdl⟩:=ht
 have hT:=hit.typeIs
 unfold Builtin.SmallTypes.nextOf
 refine wpAny_bind (wpAny_callSpecial?_slot (name:=Str.ofString "__next__") hT PySem.F.slot_tuple_iterator_next (wpAny_call_entry PySem.F.slot_tuple_iterator_next hT PySem.F.entry_tuple_iterator_next ?_ (PySem.F.args_tuple_iterator_next_1 _)))
 show wpAny _ _ (field (.ref it) 0>>=_) _ _ s
 refine wpAny_bind (wpAny_field ho hd (x:=.ref t) rfl ?_)
 show wpAny _ _ (if(Value.ref t == Value.none)=true then _ else _) _ _ s
 rw[if_neg (show ¬((Value.ref t == Value.none)=true)from Bool.false_ne_true)]
 show wpAny _ _ (field (.ref it) 1>>=_) _ _ s
 refine wpAny_bind (wpAny_field ho hd (x:=.int i 0) rfl ?_)
 show wpAny _ _ (seqItems? (.ref t)>>=_) _ _ s
 refine wpAny_bind (wpAny_seqItems hol hdl ?_)
 simp only[Int.toNat_natCast,hx]
 refine wpAny_bind (wpAny_setField ho hd (by simp) (wpAny_pure ⟨x,rfl,wpAny_pure (hQ _ ⟨_,Heap.get?_update_self _ ho (Obj.isFreed_of_fields (Obj.data_mapFields hd _)),(Obj.cls_mapFields ..).trans hc,?_⟩ (Heap.SameBut.update ..))⟩))
 rw[Obj.data_mapFields hd];simp[rawInt]
theorem sR{it t:Addr}{i:Nat}{items:Array Value}{Q:Value->Shared->Prop}(hh:A.handled=none)(hit:s.heap.IsTupleIter it t i)(ht:s.heap.IsTuple t items)(hx:items[i]?=none)
  (hE:∀h' e,Heap.ExtBut it s.heap h'->(∃o,h'.get? e=some o/\o.cls=.type "StopIteration")->E (.ref e) {s with heap:=h'}):wpAny (model prog w) A (Builtin.SmallTypes.nextOf (.ref it)) Q E s:=by
 obtain⟨o,ho,hc,hd⟩:=id hit
 obtain⟨ol,hol,_,nl,hdl⟩:=ht
 have hT:=hit.typeIs
 unfold Builtin.SmallTypes.nextOf
 refine wpAny_bind (wpAny_callSpecial?_slot (name:=Str.ofString "__next__") hT PySem.F.slot_tuple_iterator_next (wpAny_call_entry PySem.F.slot_tuple_iterator_next hT PySem.F.entry_tuple_iterator_next ?_ (PySem.F.args_tuple_iterator_next_1 _)))
 show wpAny _ _ (field (.ref it) 0>>=_) _ _ s
 refine wpAny_bind (wpAny_field ho hd (x:=.ref t) rfl ?_)
 show wpAny _ _ (if(Value.ref t == Value.none)=true then _ else _) _ _ s
 rw[if_neg (show ¬((Value.ref t == Value.none)=true)from Bool.false_ne_true)]
 show wpAny _ _ (field (.ref it) 1>>=_) _ _ s
 refine wpAny_bind (wpAny_field ho hd (x:=.int i 0) rfl ?_)
 show wpAny _ _ (seqItems? (.ref t)>>=_) _ _ s
 refine wpAny_bind (wpAny_seqItems hol hdl ?_)
 simp only[Int.toNat_natCast,hx]
 refine wpAny_bind (wpAny_rule (wpAny_bind (wpAny_setField ho hd (by simp) ?_)))
 show wpAny _ _ (newExc (.type "StopIteration") []>>=_) _ _ _
 refine wpAny_bind ?_
 simp only[newExc,newTuple]
 refine wpAny_bind (wpAny_newObj_type ?_ (by size_fits))
 refine wpAny_bind (m:=firstArgMember _ _) (wpAny_of_eq (a:=Value.none) (by first|rfl|(simp only[firstArgMember];rfl)) ?_)
 refine wpAny_newObj_type ?_ (by size_fits)
 simp only[raiseNew]
 refine wpAny_bind (wpAny_handled ?_)
 first|rw[show A.in1.handled=none from hh]|rw[hh]
 refine wpAny_bind (wpAny_pure (wpAny_throw ?_))
 exact hE _ _ (((Heap.SameBut.update ..).extBut.push _).push _) ⟨_,Heap.get?_push_size _ rfl,rfl⟩
theorem ju{b:Bool}{it l:Addr}{i:Nat}{items:Array Value}{x:Value}{Q:Value->Shared->Prop}(hit:kO b s.heap it l i)(hl:lE b s.heap l items)(hx:items[i]?=some x)
  (hQ:∀h',kO b h' it l (i+1)->Heap.SameBut it s.heap h'->Q x {s with heap:=h'}):wpAny (model prog w) A (Builtin.SmallTypes.nextOf (.ref it)) Q E s:=by
 cases b with
 |false=>exact wpAny_nextOf_list_item hit hl hx hQ
 |true=>exact qu hit hl hx hQ
theorem oj{b:Bool}{it l:Addr}{i:Nat}{items:Array Value}{Q:Value->Shared->Prop}(hh:A.handled=none)(hit:kO b s.heap it l i)(hl:lE b s.heap l items)(hx:items[i]?=none)
  (hE:∀h' e,Heap.ExtBut it s.heap h'->(∃o,h'.get? e=some o/\o.cls=.type "StopIteration")->E (.ref e) {s with heap:=h'}):wpAny (model prog w) A (Builtin.SmallTypes.nextOf (.ref it)) Q E s:=by
 cases b with
 |false=>exact wpAny_nextOf_list_end hh hit hl hx hE
 |true=>exact sR hh hit hl hx hE
noncomputable abbrev pH(b:Bool)(l:Addr):Obj:={cls:=.type (cond b "tuple_iterator" "list_iterator"),data:=.fields #[.ref l,.int 0 0]}
theorem Ef{b:Bool}{l:Addr}{items:Array Value}{Q:Value->Shared->Prop}(hl:lE b s.heap l items)(hQ:Q (.ref s.heap.objs.size) {s with heap:=s.heap.push (pH b l)}):wpAny (model prog w) A (pyIter (.ref l)) Q E s:=by
 cases b with
 |false=>exact wpAny_pyIter_list hl hQ
 |true=>exact wpAny_pyIter_tuple hl hQ
end
noncomputable abbrev Iq(b1:Bool)(h:Heap)(l1:Addr):Heap:=h.push (pH b1 l1)
noncomputable abbrev Ir(b1 b2:Bool)(h:Heap)(l1 l2:Addr):Heap:=(Iq b1 h l1).push (pH b2 l2)
noncomputable abbrev Iu(b1 b2:Bool)(h:Heap)(l1 l2:Addr):Heap:=(Ir b1 b2 h l1 l2).push {cls:=.type "tuple",data:=.seq #[.ref h.objs.size,.ref (Iq b1 h l1).objs.size]}
noncomputable abbrev Iv(b1 b2:Bool)(h:Heap)(l1 l2:Addr):Heap:=(Iu b1 b2 h l1 l2).push {cls:=.type "tuple",data:=.seq #[.none,.none]}
noncomputable abbrev Fb(b1 b2:Bool)(h:Heap)(l1 l2:Addr):Heap:=(Iv b1 b2 h l1 l2).push {cls:=.type "zip",data:=.fields #[.none,.bool false,.bool false,.ref (Ir b1 b2 h l1 l2).objs.size,.ref (Iu b1 b2 h l1 l2).objs.size]}
theorem Fc(b1 b2:Bool)(l1 l2:Addr)(xs ys:Array Value) :
  Meets (Builtin.«zip.__new__» ⟨[.type "zip",.ref l1,.ref l2],[]⟩) (fun _ R s=>lE b1 s.heap l1 xs/\lE b2 s.heap l2 ys/\R (.ok (.ret (.ref (Iv b1 b2 s.heap l1 l2).objs.size))) {s with heap:=Fb b1 b2 s.heap l1 l2}) :=
 .of_wp fun prog w A R s h=>by
  obtain⟨hp,g,d,tk,os⟩:=s
  obtain⟨hl1,hl2,h⟩:=h
  have hsub:=sub_zip
  have hL1:lE b1 (Shared.heap ⟨hp,g,d,tk,os⟩) l1 xs:=hl1
  have hL2:lE b2 (Shared.heap ⟨hp.push (pH b1 l1),g,d,tk,os⟩) l2 ys:=hl2.at fun o e=>Heap.get?_push_of_some _ e
  wp_walk using Ef hL1,Ef hL2
  exact⟨_,rfl,h⟩
section
variable {prog:Program}{w:World}{A:Around}{E:Value->Shared->Prop}{s:Shared}{b1 b2:Bool}
theorem Eg{b:Bool}{h:Heap}{i l:Addr}(e:h.get? i=some (pH b l)):kO b h i l 0:=by
 cases b with
 |false=>exact⟨_,e,rfl,rfl⟩
 |true=>exact⟨_,e,rfl,rfl⟩
theorem Dg{l1 l2:Addr}{xs ys:Array Value}{Q:Value->Shared->Prop}(hl1:lE b1 s.heap l1 xs)(hl2:lE b2 s.heap l2 ys)
  (h:∀h',IsZip h' (s.heap.objs.size+4) (s.heap.objs.size+2) (s.heap.objs.size+3) .none->IsPair h' (s.heap.objs.size+2) (.ref s.heap.objs.size) (.ref (s.heap.objs.size+1)) ->
   IsPair h' (s.heap.objs.size+3) .none .none->kO b1 h' s.heap.objs.size l1 0->kO b2 h' (s.heap.objs.size+1) l2 0->h'.objs.size=s.heap.objs.size+5 ->
   (∀c o,s.heap.get? c=some o->h'.get? c=some o)->Q (.ref (s.heap.objs.size+4)) {s with heap:=h'}) :
  wpAny (model prog w) A (call (.type "zip") [.ref l1,.ref l2]) Q E s:=by
 refine callType_new PySem.F.called_zip (by decide) (PySem.F.typeCall_zip_2 _ _) (PySem.F.newCall_zip_2 _ _) (fun obj=>PySem.F.args_object_init_3 obj _ _) PySem.F.entry_zip_new (Fc b1 b2 l1 l2 xs ys) ⟨hl1,hl2,?_⟩
 have z1:(Iq b1 s.heap l1).objs.size=s.heap.objs.size+1:=Heap.size_push ..
 have z2:(Ir b1 b2 s.heap l1 l2).objs.size=s.heap.objs.size+2:=by rw[Heap.size_push,z1]
 have z3:(Iu b1 b2 s.heap l1 l2).objs.size=s.heap.objs.size+3:=by rw[Heap.size_push,z2]
 have z4:(Iv b1 b2 s.heap l1 l2).objs.size=s.heap.objs.size+4:=by rw[Heap.size_push,z3]
 have z5:(Fb b1 b2 s.heap l1 l2).objs.size=s.heap.objs.size+5:=by rw[Heap.size_push,z4]
 have up:∀{h:Heap}{c:Addr}{o:Obj}(x:Obj),h.get? c=some o->(h.push x).get? c=some o:=fun x e=>Heap.get?_push_of_some _ e
 have g5:(Fb b1 b2 s.heap l1 l2).get? (Iv b1 b2 s.heap l1 l2).objs.size=some _:=Heap.get?_push_size _ rfl
 have g4:(Fb b1 b2 s.heap l1 l2).get? (Iu b1 b2 s.heap l1 l2).objs.size=some _:=up _ (Heap.get?_push_size _ rfl)
 have g3:(Fb b1 b2 s.heap l1 l2).get? (Ir b1 b2 s.heap l1 l2).objs.size=some _:=up _ (up _ (Heap.get?_push_size _ rfl))
 have g2:(Fb b1 b2 s.heap l1 l2).get? (Iq b1 s.heap l1).objs.size=some (pH b2 l2):=up _ (up _ (up _ (Heap.get?_push_size _ rfl)))
 have g1:(Fb b1 b2 s.heap l1 l2).get? s.heap.objs.size=some (pH b1 l1):=up _ (up _ (up _ (up _ (Heap.get?_push_size _ rfl))))
 show _/\_
 rw[z2,z3,z4]at g5
 rw[z1,z2]at g3
 rw[z3]at g4
 rw[z1]at g2
 rw[z4]
 exact⟨⟨_,g5,rfl⟩,h _ g5 g3 g4 (Eg g1) (Eg g2) z5 fun c o x=>up _ (up _ (up _ (up _ (up _ x))))⟩
theorem Dh{z TI TO i1 i2 l1 l2:Addr}{k1 k2:Nat}{xs ys:Array Value}{x y a b:Value}{Q:Option Value->Shared->Prop}(D:ZipApart z TI TO i1 i2 l1 l2)(hz:IsZip s.heap z TI TO .none)(hTI:IsPair s.heap TI (.ref i1) (.ref i2))(hTO:IsPair s.heap TO a b)
  (h1:kO b1 s.heap i1 l1 k1) (h2:kO b2 s.heap i2 l2 k2) (hl1:lE b1 s.heap l1 xs) (hl2:lE b2 s.heap l2 ys) (hx:xs[k1]?=some x) (hy:ys[k2]?=some y)
  (hQ:∀h',IsZip h' z TI TO (rawInt s.heap.objs.size)->IsPair h' TO x y->kO b1 h' i1 l1 (k1+1)->kO b2 h' i2 l2 (k2+1)->IsPair h' s.heap.objs.size x y->h'.objs.size=s.heap.objs.size+1 ->
   (∀c o,c≠z->c≠TO->c≠i1->c≠i2->s.heap.get? c=some o->h'.get? c=some o)->Q (some (.ref s.heap.objs.size)) {s with heap:=h'}) :
  wpAny (model prog w) A (pyNext (.ref z)) Q E s:=by
 have hTy:s.TypeIs (.ref z) "zip":=⟨_,hz,rfl⟩
 unfold pyNext
 refine wpAny_bind (wpAny_attempt (wpAny_callSpecial?_slot (name:=Str.ofString "__next__") hTy PySem.F.slot_zip_next (wpAny_call_entry PySem.F.slot_zip_next hTy PySem.F.entry_zip_next ?_ (PySem.F.args_zip_next_1 _))))
 show wpAny _ _ (field (.ref z) 2>>=_) _ _ _
 refine wpAny_bind (wpAny_field hz rfl (x:=.bool false) rfl ?_)
 show wpAny _ _ (field (.ref z) 3>>=_) _ _ _
 refine wpAny_bind (wpAny_field hz rfl (x:=.ref TI) rfl (wpAny_bind (wpAny_seqItems hTI rfl ?_)))
 show wpAny _ _ (Builtin.SmallTypes.ownedTupleIsFree (.ref z)>>=_) _ _ _
 refine wpAny_bind ?_
 unfold Builtin.SmallTypes.ownedTupleIsFree
 refine wpAny_bind (wpAny_field hz rfl (x:=.none) rfl (wpAny_pure ?_))
 simp only[if_true]
 refine wpAny_bind (wpAny_rule (wpAny_bind (wpAny_field hz rfl (x:=.ref TO) rfl ?_)))
 refine wpAny_bind (wpAny_setField_rec hz (by simp) fun h₁ hz₁ hs₁=>?_)
 replace hz₁:IsZip h₁ z TI TO .ellipsis:=hz₁
 refine wpAny_bind ?_
 simp only[List.zipIdx_cons,List.zipIdx_nil,List.forIn_cons,List.forIn_nil]
 refine wpAny_bind (wpAny_bind (wpAny_onRaise ?_))
 show wpAny _ _ (Builtin.SmallTypes.nextOf (.ref i1)>>=_) _ _ _
 refine wpAny_bind (ju (h1.extBut hs₁.extBut D.i1z) (hl1.extBut hs₁.extBut D.l1z) hx fun h₂ h1₂ hs₂=>wpAny_pure ?_)
 have hTO₂:IsPair h₂ TO a b:=hs₂.extBut _ _ D.TOi1 (hs₁.extBut _ _ D.TOz hTO)
 refine wpAny_bind (wpAny_seqItems hTO₂ rfl (wpAny_bind (wpAny_updateSeq_pair hTO₂ fun h₃ hTO₃ hs₃=>?_)))
 replace hTO₃:IsPair h₃ TO x b:=hTO₃
 refine wpAny_bind (wpAny_letGo (wpAny_pure ?_))
 refine wpAny_bind (wpAny_bind (wpAny_onRaise ?_))
 show wpAny _ _ (Builtin.SmallTypes.nextOf (.ref i2)>>=_) _ _ _
 refine wpAny_bind (ju (((h2.extBut hs₁.extBut D.i2z).extBut hs₂.extBut D.i12.symm).extBut hs₃.extBut D.TOi2.symm) (((hl2.extBut hs₁.extBut D.l2z).extBut hs₂.extBut D.l2i1).extBut hs₃.extBut D.l2TO) hy fun h₄ h2₄ hs₄=>wpAny_pure ?_)
 have hTO₄:IsPair h₄ TO x b:=hs₄.extBut _ _ D.TOi2 hTO₃
 refine wpAny_bind (wpAny_seqItems hTO₄ rfl (wpAny_bind (wpAny_updateSeq_pair hTO₄ fun h₅ hTO₅ hs₅=>?_)))
 replace hTO₅:IsPair h₅ TO x y:=hTO₅
 refine wpAny_bind (wpAny_letGo (wpAny_pure (wpAny_pure (wpAny_bind (wpAny_seqItems hTO₅ rfl (wpAny_bind (wpAny_newTuple ?_)))))))
 have hsz:h₅.objs.size=s.heap.objs.size:=by rw[hs₅.1,hs₄.1,hs₃.1,hs₂.1,hs₁.1]
 have hz₅:IsZip h₅ z TI TO .ellipsis:=hs₅.extBut _ _ D.TOz.symm (hs₄.extBut _ _ D.i2z.symm (hs₃.extBut _ _ D.TOz.symm (hs₂.extBut _ _ D.i1z.symm hz₁)))
 have hk₅:∀c o,c≠z->c≠TO->c≠i1->c≠i2->s.heap.get? c=some o->h₅.get? c=some o:=fun c o c1 c2 c3 c4 e=>hs₅.extBut _ _ c2 (hs₄.extBut _ _ c4 (hs₃.extBut _ _ c2 (hs₂.extBut _ _ c3 (hs₁.extBut _ _ c1 e))))
 have h1₅:kO b1 h₅ i1 l1 (k1+1):=((h1₂.extBut hs₃.extBut D.TOi1.symm).extBut hs₄.extBut D.i12).extBut hs₅.extBut D.TOi1.symm
 have h2₅:kO b2 h₅ i2 l2 (k2+1):=h2₄.extBut hs₅.extBut D.TOi2.symm
 have hzlt:z<h₅.objs.size:=Heap.lt_size hz₅
 show wpAny _ _ (Builtin.SmallTypes.ownedTupleHandOut (.ref z) (.ref h₅.objs.size)>>=_) _ _ _
 refine wpAny_bind ?_
 unfold Builtin.SmallTypes.ownedTupleHandOut
 have hz₆:IsZip (h₅.push {cls:=.type "tuple",data:=.seq #[x,y]}) z TI TO .ellipsis:=Heap.get?_push_of_some _ hz₅
 refine wpAny_bind (wpAny_setField_rec hz₆ (by simp) fun h₇ hz₇ hs₇=>?_)
 replace hz₇:IsZip h₇ z TI TO (rawInt h₅.objs.size):=hz₇
 refine wpAny_setField_rec hz₇ (by simp) fun h₈ hz₈ hs₈=>?_
 replace hz₈:IsZip h₈ z TI TO (rawInt h₅.objs.size):=hz₈
 have up:∀c o,c≠z->h₅.get? c=some o->h₈.get? c=some o:=fun c o c1 e=>hs₈.extBut _ _ c1 (hs₇.extBut _ _ c1 (Heap.get?_push_of_some _ e))
 have hT₈:IsPair h₈ h₅.objs.size x y:=hs₈.extBut _ _ (Nat.ne_of_gt hzlt) (hs₇.extBut _ _ (Nat.ne_of_gt hzlt) (Heap.get?_push_size _ rfl))
 have hz8:h₈.objs.size=h₅.objs.size+1:=by rw[hs₈.1,hs₇.1,Heap.size_push]
 rw[hsz]at hz₈ hT₈ hz8
 refine wpAny_pure ⟨_,rfl,wpAny_pure ?_⟩
 show Q (some (.ref h₅.objs.size)) _
 rw[hsz]
 exact hQ h₈ hz₈ (up _ _ D.TOz hTO₅) (h1₅.at fun o e=>up _ o D.i1z e) (h2₅.at fun o e=>up _ o D.i2z e) hT₈ hz8 fun c o c1 c2 c3 c4 e=>up c o c1 (hk₅ c o c1 c2 c3 c4 e)
theorem Fd{z TI TO i1 i2 l1 l2:Addr}{k1 k2:Nat}{xs ys:Array Value}{a b:Value}{Q:Option Value->Shared->Prop}(hh:A.handled=none)(D:ZipApart z TI TO i1 i2 l1 l2)(hz:IsZip s.heap z TI TO .none)(hTI:IsPair s.heap TI (.ref i1) (.ref i2))(hTO:IsPair s.heap TO a b)
  (h1:kO b1 s.heap i1 l1 k1) (h2:kO b2 s.heap i2 l2 k2) (hl1:lE b1 s.heap l1 xs) (hl2:lE b2 s.heap l2 ys) (hend:xs[k1]?=none\/ys[k2]?=none)
  (hQ:∀h',(∀c o,c≠z->c≠TO->c≠i1->c≠i2->s.heap.get? c=some o->h'.get? c=some o)->Q none {s with heap:=h'}):wpAny (model prog w) A (pyNext (.ref z)) Q E s:=by
 have hTy:s.TypeIs (.ref z) "zip":=⟨_,hz,rfl⟩
 have stop:∀(h':Heap) (e:Addr),(∀c o,c≠z->c≠TO->c≠i1->c≠i2->s.heap.get? c=some o->h'.get? c=some o)->(∃o,h'.get? e=some o/\o.cls=.type "StopIteration") ->
   wpAny (model prog w) A (do if(←isInstance (.ref e) (.type "StopIteration"))then pure none else throw (.ref e)) Q E {s with heap:=h'}:=fun h' e hk ⟨o,ho,hc⟩ =>
  wpAny_bind (wpAny_isInstance (T:="StopIteration") (b:=true) ⟨o,ho,hc⟩ isSubtype_stop (wpAny_pure (hQ _ hk)))
 unfold pyNext
 refine wpAny_bind (wpAny_attempt (wpAny_callSpecial?_slot (name:=Str.ofString "__next__") hTy PySem.F.slot_zip_next (wpAny_call_entry PySem.F.slot_zip_next hTy PySem.F.entry_zip_next ?_ (PySem.F.args_zip_next_1 _))))
 show wpAny _ _ (field (.ref z) 2>>=_) _ _ _
 refine wpAny_bind (wpAny_field hz rfl (x:=.bool false) rfl ?_)
 show wpAny _ _ (field (.ref z) 3>>=_) _ _ _
 refine wpAny_bind (wpAny_field hz rfl (x:=.ref TI) rfl (wpAny_bind (wpAny_seqItems hTI rfl ?_)))
 show wpAny _ _ (Builtin.SmallTypes.ownedTupleIsFree (.ref z)>>=_) _ _ _
 refine wpAny_bind ?_
 unfold Builtin.SmallTypes.ownedTupleIsFree
 refine wpAny_bind (wpAny_field hz rfl (x:=.none) rfl (wpAny_pure ?_))
 simp only[if_true]
 refine wpAny_bind (wpAny_rule (wpAny_bind (wpAny_field hz rfl (x:=.ref TO) rfl ?_)))
 refine wpAny_bind (wpAny_setField_rec hz (by simp) fun h₁ hz₁ hs₁=>?_)
 replace hz₁:IsZip h₁ z TI TO .ellipsis:=hz₁
 refine wpAny_bind ?_
 simp only[List.zipIdx_cons,List.zipIdx_nil,List.forIn_cons,List.forIn_nil]
 refine wpAny_bind (wpAny_bind (wpAny_onRaise ?_))
 show wpAny _ _ (Builtin.SmallTypes.nextOf (.ref i1)>>=_) _ _ _
 cases hx:xs[k1]? with
 |none =>
  refine wpAny_bind (oj hh (h1.extBut hs₁.extBut D.i1z) (hl1.extBut hs₁.extBut D.l1z) hx fun h₂ e hs₂ he=>?_)
  obtain⟨oe,hoe,hce⟩:=he
  have hz₂:IsZip h₂ z TI TO .ellipsis:=hs₂ _ _ D.i1z.symm hz₁
  have hez:e≠z:=fun x=>by subst x;rw[hz₂]at hoe;cases hoe;simp at hce
  exact wpAny_setField_rec hz₂ (by simp) fun h₃ _ hs₃=>stop h₃ e (fun c o c1 _ c3 _ x=>hs₃.extBut _ _ c1 (hs₂ _ _ c3 (hs₁.extBut _ _ c1 x))) ⟨oe,hs₃.extBut _ _ hez hoe,hce⟩
 |some x =>
  have hy:ys[k2]?=none:=by
   rcases hend with h|h
   ·rw[hx]at h;cases h
   ·exact h
  refine wpAny_bind (ju (h1.extBut hs₁.extBut D.i1z) (hl1.extBut hs₁.extBut D.l1z) hx fun h₂ h1₂ hs₂=>wpAny_pure ?_)
  have hTO₂:IsPair h₂ TO a b:=hs₂.extBut _ _ D.TOi1 (hs₁.extBut _ _ D.TOz hTO)
  refine wpAny_bind (wpAny_seqItems hTO₂ rfl (wpAny_bind (wpAny_updateSeq_pair hTO₂ fun h₃ hTO₃ hs₃=>?_)))
  refine wpAny_bind (wpAny_letGo (wpAny_pure ?_))
  refine wpAny_bind (wpAny_bind (wpAny_onRaise ?_))
  show wpAny _ _ (Builtin.SmallTypes.nextOf (.ref i2)>>=_) _ _ _
  refine wpAny_bind (oj hh (((h2.extBut hs₁.extBut D.i2z).extBut hs₂.extBut D.i12.symm).extBut hs₃.extBut D.TOi2.symm) (((hl2.extBut hs₁.extBut D.l2z).extBut hs₂.extBut D.l2i1).extBut hs₃.extBut D.l2TO) hy fun h₄ e hs₄ he=>?_)
  obtain⟨oe,hoe,hce⟩:=he
  have hz₄:IsZip h₄ z TI TO .ellipsis:=hs₄ _ _ D.i2z.symm (hs₃.extBut _ _ D.TOz.symm (hs₂.extBut _ _ D.i1z.symm hz₁))
  have hez:e≠z:=fun x=>by subst x;rw[hz₄]at hoe;cases hoe;simp at hce
  exact wpAny_setField_rec hz₄ (by simp) fun h₅ _ hs₅=>stop h₅ e (fun c o c1 c2 c3 c4 x=>hs₅.extBut _ _ c1 (hs₄ _ _ c4 (hs₃.extBut _ _ c2 (hs₂.extBut _ _ c3 (hs₁.extBut _ _ c1 x))))) ⟨oe,hs₅.extBut _ _ hez hoe,hce⟩
end
section
variable {prog:Program}{w:World}{A:Around}{E:Value->Shared->Prop}{s:Shared}{b1 b2:Bool}
theorem pI{z TI TO i1 i2 l1 l2 T:Addr}{flag:Bool}{oT:Obj}{k1 k2:Nat}{xs ys:Array Value}{x y:Value}{Q:Option Value->Shared->Prop}(D:ZipApart z TI TO i1 i2 l1 l2)
  (hz:kI s.heap z TI TO T flag) (hT:s.heap.get? T=some oT) (hTI:IsPair s.heap TI (.ref i1) (.ref i2))
  (h1:kO b1 s.heap i1 l1 k1) (h2:kO b2 s.heap i2 l2 k2) (hl1:lE b1 s.heap l1 xs) (hl2:lE b2 s.heap l2 ys) (hx:xs[k1]?=some x) (hy:ys[k2]?=some y)
  (hQ:∀h',kI h' z TI TO T true->kO b1 h' i1 l1 (k1+1)->kO b2 h' i2 l2 (k2+1)->IsPair h' s.heap.objs.size x y ->
   (∀c o,c≠z->c≠i1->c≠i2->s.heap.get? c=some o->h'.get? c=some o)->Q (some (.ref s.heap.objs.size)) {s with heap:=h'}) :
  wpAny (model prog w) A (pyNext (.ref z)) Q E s:=by
 have hTy:s.TypeIs (.ref z) "zip":=⟨_,hz,rfl⟩
 unfold pyNext
 refine wpAny_bind (wpAny_attempt (wpAny_callSpecial?_slot (name:=Str.ofString "__next__") hTy PySem.F.slot_zip_next
  (wpAny_call_entry PySem.F.slot_zip_next hTy PySem.F.entry_zip_next ?_ (PySem.F.args_zip_next_1 _))))
 show wpAny _ _ (field (.ref z) 2>>=_) _ _ _
 refine wpAny_bind (wpAny_field hz rfl (x:=.bool false) rfl ?_)
 show wpAny _ _ (field (.ref z) 3>>=_) _ _ _
 refine wpAny_bind (wpAny_field hz rfl (x:=.ref TI) rfl ?_)
 refine wpAny_bind (wpAny_seqItems hTI rfl ?_)
 show wpAny _ _ (Builtin.SmallTypes.ownedTupleIsFree (.ref z)>>=_) _ _ _
 refine wpAny_bind (ir hz hT fun h₁ hz₁ hs₁=>?_)
 simp only[Bool.false_eq_true,if_false]
 refine wpAny_bind ?_
 simp only[←Array.forIn_toList,List.forIn_cons,List.forIn_nil]
 refine wpAny_bind (wpAny_bind (wpAny_holding ?_))
 show wpAny _ _ (Builtin.SmallTypes.nextOf (.ref i1)>>=_) _ _ _
 refine wpAny_bind (ju (h1.extBut hs₁.extBut D.i1z) (hl1.extBut hs₁.extBut D.l1z) hx fun h₂ h1₂ hs₂=>wpAny_pure (wpAny_pure ?_))
 dsimp only
 refine wpAny_bind (wpAny_bind (wpAny_holding ?_))
 show wpAny _ _ (Builtin.SmallTypes.nextOf (.ref i2)>>=_) _ _ _
 refine wpAny_bind (ju ((h2.extBut hs₁.extBut D.i2z).extBut hs₂.extBut D.i12.symm) ((hl2.extBut hs₁.extBut D.l2z).extBut hs₂.extBut D.l2i1) hy fun h₃ h2₃ hs₃=>wpAny_pure (wpAny_pure (wpAny_pure ?_)))
 dsimp only
 refine wpAny_bind (wpAny_newTuple (hsz:=by show 2<=sizeLine;decide) ?_)
 have hsz:h₃.objs.size=s.heap.objs.size:=by rw[hs₃.1,hs₂.1,hs₁.1]
 have hz₃:kI h₃ z TI TO T true:=hs₃.extBut _ _ D.i2z.symm (hs₂.extBut _ _ D.i1z.symm hz₁)
 have hk:∀c o,c≠z->c≠i1->c≠i2->s.heap.get? c=some o->h₃.get? c=some o:=fun c o c1 c3 c4 e=>hs₃.extBut _ _ c4 (hs₂.extBut _ _ c3 (hs₁.extBut _ _ c1 e))
 have h1₃:kO b1 h₃ i1 l1 (k1+1):=h1₂.extBut hs₃.extBut D.i12
 refine wpAny_pure ⟨_,rfl,wpAny_pure ?_⟩
 show Q (some (.ref h₃.objs.size)) _
 have hT3:IsPair (h₃.push {cls:=.type "tuple",data:=.seq #[x,y]}) h₃.objs.size x y:=Heap.get?_push_size _ rfl
 have fin:=hQ (h₃.push {cls:=.type "tuple",data:=.seq #[x,y]}) (Heap.get?_push_of_some _ hz₃) (h1₃.at fun o e=>Heap.get?_push_of_some _ e) (h2₃.at fun o e=>Heap.get?_push_of_some _ e) (by rw[←hsz];exact hT3) fun c o c1 c3 c4 e=>Heap.get?_push_of_some _ (hk c o c1 c3 c4 e)
 rw[←hsz]at fin
 exact fin
theorem qv{z TI TO i1 i2 l1 l2 T:Addr}{flag:Bool}{oT:Obj}{k1:Nat}{xs:Array Value}{Q:Option Value->Shared->Prop}(hh:A.handled=none)(D:ZipApart z TI TO i1 i2 l1 l2)
  (hz:kI s.heap z TI TO T flag) (hT:s.heap.get? T=some oT) (hTI:IsPair s.heap TI (.ref i1) (.ref i2))
  (h1:kO b1 s.heap i1 l1 k1) (hl1:lE b1 s.heap l1 xs) (hx:xs[k1]?=none)
  (hQ:∀h',(∀c o,c≠z->c≠i1->c≠i2->s.heap.get? c=some o->h'.get? c=some o)->Q none {s with heap:=h'}) :
  wpAny (model prog w) A (pyNext (.ref z)) Q E s:=by
 have hTy:s.TypeIs (.ref z) "zip":=⟨_,hz,rfl⟩
 unfold pyNext
 refine wpAny_bind (wpAny_attempt (wpAny_callSpecial?_slot (name:=Str.ofString "__next__") hTy PySem.F.slot_zip_next
  (wpAny_call_entry PySem.F.slot_zip_next hTy PySem.F.entry_zip_next ?_ (PySem.F.args_zip_next_1 _))))
 show wpAny _ _ (field (.ref z) 2>>=_) _ _ _
 refine wpAny_bind (wpAny_field hz rfl (x:=.bool false) rfl ?_)
 show wpAny _ _ (field (.ref z) 3>>=_) _ _ _
 refine wpAny_bind (wpAny_field hz rfl (x:=.ref TI) rfl ?_)
 refine wpAny_bind (wpAny_seqItems hTI rfl ?_)
 show wpAny _ _ (Builtin.SmallTypes.ownedTupleIsFree (.ref z)>>=_) _ _ _
 refine wpAny_bind (ir hz hT fun h₁ hz₁ hs₁=>?_)
 simp only[Bool.false_eq_true,if_false]
 refine wpAny_bind ?_
 simp only[←Array.forIn_toList,List.forIn_cons,List.forIn_nil]
 refine wpAny_bind (wpAny_bind (wpAny_holding ?_))
 show wpAny _ _ (Builtin.SmallTypes.nextOf (.ref i1)>>=_) _ _ _
 refine wpAny_bind (oj hh (h1.extBut hs₁.extBut D.i1z) (hl1.extBut hs₁.extBut D.l1z) hx fun h₂ e hs₂ he=>?_)
 obtain⟨oe,hoe,hce⟩:=he
 refine wpAny_bind (wpAny_isInstance (T:="StopIteration") (b:=true) ⟨oe,hoe,hce⟩ isSubtype_stop ?_)
 exact wpAny_pure (hQ _ fun c o c1 c2 _ e'=>hs₂ _ _ c2 (hs₁.extBut _ _ c1 e'))
theorem pJ{z TI TO i1 i2 l1 l2 T:Addr}{flag:Bool}{oT:Obj}{k1 k2:Nat}{xs ys:Array Value}{x:Value}{Q:Option Value->Shared->Prop}(hh:A.handled=none)(D:ZipApart z TI TO i1 i2 l1 l2)
  (hz:kI s.heap z TI TO T flag) (hT:s.heap.get? T=some oT) (hTI:IsPair s.heap TI (.ref i1) (.ref i2))
  (h1:kO b1 s.heap i1 l1 k1) (h2:kO b2 s.heap i2 l2 k2) (hl1:lE b1 s.heap l1 xs) (hl2:lE b2 s.heap l2 ys) (hx:xs[k1]?=some x) (hy:ys[k2]?=none)
  (hQ:∀h',(∀c o,c≠z->c≠i1->c≠i2->s.heap.get? c=some o->h'.get? c=some o)->Q none {s with heap:=h'}) :
  wpAny (model prog w) A (pyNext (.ref z)) Q E s:=by
 have hTy:s.TypeIs (.ref z) "zip":=⟨_,hz,rfl⟩
 unfold pyNext
 refine wpAny_bind (wpAny_attempt (wpAny_callSpecial?_slot (name:=Str.ofString "__next__") hTy PySem.F.slot_zip_next
  (wpAny_call_entry PySem.F.slot_zip_next hTy PySem.F.entry_zip_next ?_ (PySem.F.args_zip_next_1 _))))
 show wpAny _ _ (field (.ref z) 2>>=_) _ _ _
 refine wpAny_bind (wpAny_field hz rfl (x:=.bool false) rfl ?_)
 show wpAny _ _ (field (.ref z) 3>>=_) _ _ _
 refine wpAny_bind (wpAny_field hz rfl (x:=.ref TI) rfl ?_)
 refine wpAny_bind (wpAny_seqItems hTI rfl ?_)
 show wpAny _ _ (Builtin.SmallTypes.ownedTupleIsFree (.ref z)>>=_) _ _ _
 refine wpAny_bind (ir hz hT fun h₁ hz₁ hs₁=>?_)
 simp only[Bool.false_eq_true,if_false]
 refine wpAny_bind ?_
 simp only[←Array.forIn_toList,List.forIn_cons,List.forIn_nil]
 refine wpAny_bind (wpAny_bind (wpAny_holding ?_))
 show wpAny _ _ (Builtin.SmallTypes.nextOf (.ref i1)>>=_) _ _ _
 refine wpAny_bind (ju (h1.extBut hs₁.extBut D.i1z) (hl1.extBut hs₁.extBut D.l1z) hx fun h₂ h1₂ hs₂=>wpAny_pure (wpAny_pure ?_))
 dsimp only
 refine wpAny_bind (wpAny_bind (wpAny_holding ?_))
 show wpAny _ _ (Builtin.SmallTypes.nextOf (.ref i2)>>=_) _ _ _
 refine wpAny_bind (oj hh ((h2.extBut hs₁.extBut D.i2z).extBut hs₂.extBut D.i12.symm) ((hl2.extBut hs₁.extBut D.l2z).extBut hs₂.extBut D.l2i1) hy fun h₃ e hs₃ he=>?_)
 obtain⟨oe,hoe,hce⟩:=he
 refine wpAny_bind (wpAny_isInstance (T:="StopIteration") (b:=true) ⟨oe,hoe,hce⟩ isSubtype_stop ?_)
 exact wpAny_pure (hQ _ fun c o c1 c2 c3 e'=>hs₃ _ _ c3 (hs₂.extBut _ _ c2 (hs₁.extBut _ _ c1 e')))
end
structure Jd(b1 b2:Bool) (h:Heap) (z TI TO i1 i2 l1 l2 lo:Nat) (xs ys:Array Value) (i:Nat):Prop where
 ti:IsPair h TI (.ref i1) (.ref i2)
 it1:kO b1 h i1 l1 i
 it2:kO b2 h i2 l2 i
 ls1:lE b1 h l1 xs
 ls2:lE b2 h l2 ys
 st:(i=0/\IsZip h z TI TO .none/\∃a b,IsPair h TO a b)\/∃(T:Nat) (flag:Bool) (oT:Obj),kI h z TI TO T flag/\h.get? T=some oT/\lo<=T
section
variable {prog:Program}{w:World}{A:Around}{R:Result->Shared->Prop}{s:Shared}{b1 b2:Bool}
theorem zw{z TI TO i1 i2 l1 l2 S lo n:Nat}{xs ys:Array Value}(hh:A.handled=none)(D:ZipApart z TI TO i1 i2 l1 l2)(hS:S≠z/\S≠TI/\S≠TO/\S≠i1/\S≠i2/\S≠l1/\S≠l2)
  (hL:z<lo/\TO<lo/\i1<lo/\i2<lo/\S<lo) (hnx:n<=xs.size) (hny:n<=ys.size) (hend:xs[n]?=none\/ys[n]?=none) (hn:n<=sizeLine) (res:Value) {h₁:Heap}
  (hR:∀h' tk acc c (as:List Nat),(∀b o,b≠S->b≠z->b≠TO->b≠i1->b≠i2->h₁.get? b=some o->h'.get? b=some o)->h'.get? S=some {cls:=.type "list",dict:=none,data:=.seq acc c,slots:=#[]}->as.length=n->gS h' lo xs ys as ->
   acc.toList=as.map Value.ref->R (.ok (.ret res)) {s with heap:=h',toks:=tk}) :
  ∀(k i:Nat) (h:Heap) (tk c:Nat) (acc:Array Value) (as:List Nat),n-i=k->i<=n->Jd b1 b2 h z TI TO i1 i2 l1 l2 lo xs ys i ->
   (∀b o,b≠S->b≠z->b≠TO->b≠i1->b≠i2->h₁.get? b=some o->h.get? b=some o)->lo<=h.objs.size ->
   h.get? S=some {cls:=.type "list",dict:=none,data:=.seq acc c,slots:=#[]}->acc.toList=as.map Value.ref->as.length=i->gS h lo xs ys as ->
   codeAny (model prog w) A (.builtin "list.extend.loop" ⟨[.ref S,.ref z,res],[]⟩) R {s with heap:=h,toks:=tk}:=by
 obtain⟨s1,s2,s3,s4,s5,s6,s7⟩:=hS
 obtain⟨L1,L2,L3,L4,L5⟩:=hL
 have up:∀{a b:Nat},b<lo->lo<=a->a≠b:=fun h1 h2=>Nat.ne_of_gt (Nat.lt_of_lt_of_le h1 h2)
 intro k
 induction k with
 |zero =>
  intro i h tk c acc as hk hi hst hkeep hlo hS hacc hal hG
  have hin:i=n:=by omega
  subst hin
  refine codeAny_builtin PySem.F.entry_extend_loop ?_
  rw[Around.under_plainId PySem.F.plain_extend_loop _]
  show wpAny _ A.in1 (pyNext (.ref z)>>=_) _ _ _
  have fin:∀h':Heap,(∀c o,c≠z->c≠TO->c≠i1->c≠i2->h.get? c=some o->h'.get? c=some o)->R (.ok (.ret res)) {s with heap:=h',toks:=tk}:=fun h' hq =>
   hR h' tk acc c as (fun b o b1 b2 b3 b4 b5 e=>hq b o b2 b3 b4 b5 (hkeep b o b1 b2 b3 b4 b5 e)) (hq S _ s1 s3 s4 s5 hS) hal (hG.keep fun(c:Nat) o hc e=>hq c o (up L1 hc) (up L2 hc) (up L3 hc) (up L4 hc) e) hacc
  rcases hst.st with⟨e0,hz,a,b,hTO⟩|⟨T,flag,oT,hz,hT,hTlo⟩
  ·exact wpAny_bind (Fd (s:={s with heap:=h,toks:=tk}) (A:=A.in1) hh D hz hst.ti hTO hst.it1 hst.it2 hst.ls1 hst.ls2 hend fun h' hq=>wpAny_pure (fin h' hq))
  ·cases hx:xs[i]? with
   |none=>exact wpAny_bind (qv (s:={s with heap:=h,toks:=tk}) (A:=A.in1) hh D hz hT hst.ti hst.it1 hst.ls1 hx fun h' hq=>wpAny_pure (fin h' fun c o c1 _ c3 c4 e=>hq c o c1 c3 c4 e))
   |some x =>
    have hy:ys[i]?=none:=hend.resolve_left (by rw[hx];intro z;cases z)
    exact wpAny_bind (pJ (s:={s with heap:=h,toks:=tk}) (A:=A.in1) hh D hz hT hst.ti hst.it1 hst.it2 hst.ls1 hst.ls2 hx hy fun h' hq=>wpAny_pure (fin h' fun c o c1 _ c3 c4 e=>hq c o c1 c3 c4 e))
 |succ k ih =>
  intro i h tk c acc as hk hi hst hkeep hlo hS hacc hal hG
  have hlt:i<xs.size:=by omega
  have hltn:i<n:=by omega
  have hlt2:i<ys.size:=by omega
  have hx:xs[i]?=some xs[i]:=Array.getElem?_eq_getElem hlt
  have hy:ys[i]?=some ys[i]:=Array.getElem?_eq_getElem hlt2
  have hasz:acc.size=i:=by rw[←hal,←List.length_map (f:=Value.ref),←hacc];simp
  refine codeAny_builtin PySem.F.entry_extend_loop ?_
  rw[Around.under_plainId PySem.F.plain_extend_loop _]
  show wpAny _ A.in1 (pyNext (.ref z)>>=_) _ _ _
  -- what follows a turn
  have next:∀h':Heap,(∃(T:Nat) (flag:Bool) (oT:Obj),kI h' z TI TO T flag/\h'.get? T=some oT/\lo<=T)->kO b1 h' i1 l1 (i+1)->kO b2 h' i2 l2 (i+1)->IsPair h' h.objs.size xs[i] ys[i] ->
    (∀c o,c≠z->c≠TO->c≠i1->c≠i2->h.get? c=some o->h'.get? c=some o) ->
    wpAny (model prog w) A.in1 (updateSeq S (·.push (Value.ref h.objs.size))>>=fun _=>again (.builtin "list.extend.loop" ⟨[.ref S,.ref z,res],[]⟩))
     (fun fin s'=>match fin with|.done f=>R (.ok f) s'|.again c'=>c'.quiet=true/\codeAny (model prog w) A c' R s') (fun e s'=>R (.error e) s') {s with heap:=h',toks:=tk}:=by
   intro h' hb j1 j2 hp hq
   have hS':h'.get? S=some {cls:=.type "list",dict:=none,data:=.seq acc c,slots:=#[]}:=hq S _ s1 s3 s4 s5 hS
   have oth:∀b o,b≠S->h'.get? b=some o->(h'.update S (Obj.mapSeq (·.push (Value.ref h.objs.size)))).get? b=some o:=fun b o hb e=>(Heap.get?_update_other _ _ (Ne.symm hb)).trans e
   have hp':IsPair (h'.update S (Obj.mapSeq (·.push (Value.ref h.objs.size)))) h.objs.size xs[i] ys[i]:=oth _ _ (up L5 hlo) hp
   refine wpAny_bind (wpAny_updateSeq hS' rfl (wpAny_pure ⟨plainId_quiet PySem.F.plain_extend_loop _,?_⟩) (by rw[hasz];omega) (by show(acc.push _).size<=sizeLine+1;rw[Array.size_push,hasz];omega))
   refine ih (i+1) (h'.update S (Obj.mapSeq (·.push (Value.ref h.objs.size)))) tk _ (acc.push (Value.ref h.objs.size)) (as++[h.objs.size]) (by omega) hltn ⟨?_,?_,?_,?_,?_,?_⟩ ?_ ?_ (Heap.get?_update_self _ hS' rfl) ?_ (by rw[List.length_append,hal];rfl) ?_
   ·exact oth _ _ (Ne.symm s2) (hq TI _ D.TIz D.TITO D.TIi1 D.TIi2 hst.ti)
   ·exact j1.at fun o e=>oth _ o (Ne.symm s4) e
   ·exact j2.at fun o e=>oth _ o (Ne.symm s5) e
   ·exact hst.ls1.at fun o e=>oth _ o (Ne.symm s6) (hq _ o D.l1z D.l1TO D.l1i1 D.l1i2 e)
   ·exact hst.ls2.at fun o e=>oth _ o (Ne.symm s7) (hq _ o D.l2z D.l2TO D.l2i1 D.l2i2 e)
   ·obtain⟨T,flag,oT,e1,e2,e3⟩:=hb
    exact .inr ⟨T,flag,oT,oth _ _ (Ne.symm s1) e1,oth _ _ (up L5 e3) e2,e3⟩
   ·exact fun b o b1 b2 b3 b4 b5 e=>oth b o b1 (hq b o b2 b3 b4 b5 (hkeep b o b1 b2 b3 b4 b5 e))
   ·have:h.objs.size<(h'.update S (Obj.mapSeq (·.push (Value.ref h.objs.size)))).objs.size:=Heap.lt_size hp'
    omega
   ·rw[Array.toList_push,hacc,List.map_append];rfl
   ·exact hG.snoc (h':=h'.update S (Obj.mapSeq (·.push (Value.ref h.objs.size)))) (fun(c:Nat) o hc e=>oth c o (up L5 hc) (hq c o (up L1 hc) (up L2 hc) (up L3 hc) (up L4 hc) e)) hlo (Nat.le_refl _) (by rw[hal];exact hx) (by rw[hal];exact hy) hp'
  rcases hst.st with⟨e0,hz,a,b,hTO⟩|⟨T,flag,oT,hz,hT,hTlo⟩
  ·refine wpAny_bind (Dh (s:={s with heap:=h,toks:=tk}) D hz hst.ti hTO hst.it1 hst.it2 hst.ls1 hst.ls2 hx hy fun h' a1 a2 a3 a4 a5 a6 hq=>?_)
   exact next h' ⟨h.objs.size,false,_,a1,a5,hlo⟩ a3 a4 a5 hq
  ·refine wpAny_bind (pI (s:={s with heap:=h,toks:=tk}) D hz hT hst.ti hst.it1 hst.it2 hst.ls1 hst.ls2 hx hy fun h' a1 a3 a4 a5 hq=>?_)
   exact next h' ⟨T,true,oT,a1,hq T oT (up L1 hTlo) (up L3 hTlo) (up L4 hTlo) hT,hTlo⟩ a3 a4 a5 fun c o c1 _ c3 c4 e=>hq c o c1 c3 c4 e
end
section
variable {prog:Program}{w:World}{A:Around}{E:Value->Shared->Prop}{s:Shared}{b1 b2:Bool}
theorem nS{l1 l2 n:Nat}{xs ys:Array Value}{Q:Value->Shared->Prop}(hh:A.handled=none)(hl1:lE b1 s.heap l1 xs)(hl2:lE b2 s.heap l2 ys)(hnx:n<=xs.size)(hny:n<=ys.size)(hend:xs[n]?=none\/ys[n]?=none)(hn:n<=sizeLine)
  (hQ:∀h' tk acc (as:List Nat),(∀b o,s.heap.get? b=some o->h'.get? b=some o)->s.heap.objs.size<=h'.objs.size->as.length=n->gS h' (s.heap.objs.size+6) xs ys as ->
   acc.toList=as.map Value.ref->Q (.ref h'.objs.size) {s with heap:=h'.push {cls:=.type "tuple",data:=.seq acc},toks:=tk}) :
  wpAny (model prog w) A (call (.type "zip") [.ref l1,.ref l2]) (fun v s1=>wpAny (model prog w) A (call (.type "tuple") [v]) Q E s1) E s:=by
 have lt1:l1<s.heap.objs.size:=by obtain⟨_,e⟩:=hl1.got;exact Heap.lt_size e
 have lt2:l2<s.heap.objs.size:=by obtain⟨_,e⟩:=hl2.got;exact Heap.lt_size e
 refine Dg hl1 hl2 fun g hz hTI hTO h1 h2 hsz hk=>?_
 have D:ZipApart (s.heap.objs.size+4) (s.heap.objs.size+2) (s.heap.objs.size+3) s.heap.objs.size (s.heap.objs.size+1) l1 l2:=by
  refine⟨?_,?_,?_,?_,?_,?_,?_,?_,?_,?_,?_,?_,?_,?_,?_,?_,?_,?_⟩<;>(show @Ne Nat _ _;omega)
 refine callType_newIn (S:=fun A' R' s'=>A'=A.in1/\s'={s with heap:=g}/\∀h' tk acc (as:List Nat),(∀b o,s.heap.get? b=some o->h'.get? b=some o)->s.heap.objs.size<=h'.objs.size->as.length=n->gS h' (s.heap.objs.size+6) xs ys as ->
   acc.toList=as.map Value.ref->R' (.ok (.ret (.ref h'.objs.size))) {s with heap:=h'.push {cls:=.type "tuple",data:=.seq acc},toks:=tk})
  PySem.F.called_tuple (by decide) (PySem.F.typeCall_tuple_1 _) (PySem.F.newCall_tuple_1 _) (fun _=>PySem.F.args_object_init_2 _ _) PySem.F.entry_tuple_new ?_
  ⟨rfl,rfl,fun h' tk acc as a1 a0 a2 a3 a4=>⟨⟨_,Heap.get?_push_size _ rfl,rfl⟩,hQ h' tk acc as a1 a0 a2 a3 a4⟩⟩
 rintro A' R' s' ⟨rfl,rfl,hR⟩
 have hT:Shared.TypeIs {s with heap:=g} (.ref (s.heap.objs.size+4)) "zip":=⟨_,hz,rfl⟩
 unfold Builtin.«tuple.__new__»
 dsimp only
 rw[wC,zk,AY,AZ,zl]
 simp only[pure_bind,Bool.not_true,Bool.false_eq_true,if_false]
 rw[if_pos (show(some (Value.builtin "object.__init__") == some (Value.builtin "object.__init__"))=true by decide)]
 refine wpAny_bind (show wpAny _ _ (noKeywords "tuple" _) _ _ _ from ?_)
 refine wpAny_pure ?_
 refine wpAny_bind (show wpAny _ _ (checkCount "tuple" 0 1 1) _ _ _ from ?_)
 refine wpAny_pure ?_
 rw[if_pos (show(Value.type "tuple" == Value.type "tuple")=true by decide)]
 refine wpAny_bind ?_
 unfold Builtin.Tuple.tupleIsExact
 refine wpAny_bind (wpAny_typeOf hT (wpAny_pure ?_))
 rw[if_neg (show ¬((Value.type "zip" == Value.type "tuple")=true) by decide)]
 refine wpAny_bind ?_
 unfold collect
 refine wpAny_bind (wpAny_runValue (codeAny_builtin PySem.F.entry_proto_collect ?_))
 rw[Around.under_plainId PySem.F.plain_proto_collect _]
 show wpAny _ _ (newList []>>=fun l=>again (.builtin "list.__iadd__" ⟨[l,.ref (s.heap.objs.size+4)],[]⟩)) _ _ _
 refine wpAny_bind (wpAny_newList ?_ (by show 0<=sizeLine;exact Nat.zero_le _))
 have hS:(g.push {cls:=.type "list",data:=.seq #[]}).get? g.objs.size=some {cls:=.type "list",data:=.seq #[]}:=Heap.get?_push_size _ rfl
 have oth:∀b o,g.get? b=some o->(g.push {cls:=.type "list",data:=.seq #[]}).get? b=some o:=fun b o e=>Heap.get?_push_of_some _ e
 refine wpAny_pure ⟨plainId_quiet PySem.F.plain_list_iadd _,?_⟩
 refine codeAny_builtin PySem.F.entry_list_iadd ?_
 rw[Around.under_plainId PySem.F.plain_list_iadd _]
 show wpAny _ _ (Builtin.List.listExtendWith (.ref g.objs.size) (.ref (s.heap.objs.size+4)) (.ref g.objs.size)) _ _ _
 generalize hg2:g.push {cls:=.type "list",data:=.seq #[]}=g2 at hS oth⊢
 have hT2:Shared.TypeIs {s with heap:=g2} (.ref (s.heap.objs.size+4)) "zip":=⟨_,oth _ _ hz,rfl⟩
 unfold Builtin.List.listExtendWith
 refine wpAny_bind (wpAny_typeOf hT2 ?_)
 have q1:Builtin.List.listSameRef (.ref g.objs.size) (.ref (s.heap.objs.size+4))=false:=by
  simp only[Builtin.List.listSameRef,beq_eq_false_iff_ne]
  intro z
  have z':(g.objs.size:Nat)=s.heap.objs.size+4:=z
  omega
 have q2:(Value.type "zip" == Value.type "list")=false:=by decide
 have q3:(Value.type "zip" == Value.type "tuple")=false:=by decide
 simp only[q1,q2,q3,Bool.or_false,Bool.false_eq_true,if_false]
 refine wpAny_bind (wpAny_pyIter_zip (s:={s with heap:=g2}) (oth _ _ hz) ?_)
 refine wpAny_bind (wpAny_holding ?_)
 unfold Builtin.List.listLengthHint
 refine wpAny_bind (wpAny_specialOf hT2 oY ?_)
 show wpAny _ A.in1.in1.in1 (specialOf (Value.ref (s.heap.objs.size+4)) (Str.ofString "__length_hint__")>>=_) _ _ _
 refine wpAny_bind (wpAny_specialOf hT2 nt ?_)
 refine wpAny_pure ?_
 show wpAny _ A.in1.in1.in1 (rule "list.extend.makes-room">>=fun _=>Builtin.List.listTouch (.ref g.objs.size)>>=fun _ =>
  again (.builtin "list.extend.loop" ⟨[.ref g.objs.size,.ref (s.heap.objs.size+4),.ref g.objs.size],[]⟩)) _ _ _
 refine wpAny_bind (wpAny_rule ?_)
 refine wpAny_bind ?_
 show wpAny _ A.in1.in1.in1 (updateSeq g.objs.size (·.push .none)>>=fun _=>updateSeq g.objs.size (·.pop)) _ _ _
 refine wpAny_bind (wpAny_updateSeq hS rfl ?_)
 have hS₃:=Heap.get?_update_self (Obj.mapSeq (·.push Value.none)) hS rfl
 refine wpAny_updateSeq (hz:=by seq_fits) hS₃ rfl ?_
 have hS₄:=Heap.get?_update_self (Obj.mapSeq (·.pop)) hS₃ rfl
 have oth2:∀b o,b≠g.objs.size->g2.get? b=some o->((g2.update g.objs.size (Obj.mapSeq (·.push Value.none))).update g.objs.size (Obj.mapSeq (·.pop))).get? b=some o :=
  fun b o hb e=>(Heap.get?_update_other _ _ (Ne.symm hb)).trans ((Heap.get?_update_other _ _ (Ne.symm hb)).trans e)
 have all:∀b o,g.get? b=some o->((g2.update g.objs.size (Obj.mapSeq (·.push Value.none))).update g.objs.size (Obj.mapSeq (·.pop))).get? b=some o:=fun b o e=>oth2 b o (Nat.ne_of_lt (Heap.lt_size e)) (oth b o e)
 generalize hg3:(g2.update g.objs.size (Obj.mapSeq (·.push Value.none))).update g.objs.size (Obj.mapSeq (·.pop))=g3 at hS₄ all⊢
 have hlo:s.heap.objs.size+6<=g3.objs.size:=by
  have h5:(g.objs.size:Nat)<g3.objs.size:=Heap.lt_size hS₄
  have h6:(g.objs.size:Nat)=s.heap.objs.size+5:=hsz
  omega
 refine wpAny_pure ⟨plainId_quiet PySem.F.plain_extend_loop _,zw (n:=n) (s:=s) (lo:=s.heap.objs.size+6) (h₁:=g3) (A:=A.in1.in1) hh D (by omega) (by omega) hnx hny hend hn (.ref g.objs.size) (fun h' tk acc c as hq hS' hal hG hacc=>?_) n 0 g3 s.toks _ #[] [] (by omega) (Nat.zero_le _)
  ⟨all _ _ hTI,h1.at fun o e=>all _ o e,h2.at fun o e=>all _ o e,hl1.at fun o e=>all _ o (hk _ o e),hl2.at fun o e=>all _ o (hk _ o e),.inl ⟨rfl,all _ _ hz,_,_,all _ _ hTO⟩⟩ (fun _ _ _ _ _ _ _ e=>e) hlo hS₄ rfl rfl ⟨List.Pairwise.nil,(fun _ z=>nomatch z),fun _ _ z=>by simp at z⟩⟩
 have eg:g.objs.size=s.heap.objs.size+5:=hsz
 show wpAny _ _ (load g.objs.size>>=_) _ _ _
 refine wpAny_bind (wpAny_load hS' ?_)
 refine wpAny_pure ?_
 show wpAny _ _ (Builtin.Tuple.tupleExact acc.toList.toArray>>=_) _ _ _
 unfold Builtin.Tuple.tupleExact
 have hac:acc.size=n:=by rw[←hal,←List.length_map (f:=Value.ref),←hacc];simp
 refine wpAny_bind (wpAny_newObj_type (hd:=show acc.toList.toArray.size<=sizeLine by simpa[hac]using hn) (wpAny_pure ?_))
 show R' (.ok (.ret (.ref h'.objs.size))) _
 have hb:∀{b:Nat}{o:Obj},s.heap.get? b=some o->∀k,b≠s.heap.objs.size+k:=fun e k=>Nat.ne_of_lt (Nat.lt_of_lt_of_le (Heap.lt_size e) (Nat.le_add_right _ k))
 exact hR h' tk acc as (fun b o e=>hq b o (by rw[eg];exact hb e 5) (hb e 4) (hb e 3) (hb e 0) (hb e 1) (all b o (hk b o e))) (by have h9:(g.objs.size:Nat)<h'.objs.size:=Heap.lt_size hS';omega) hal hG hacc
end
noncomputable def om(K:PySem.W.Frag)(b:Bool)(H:Hp)(p:Addr)(xs:List V):Prop:=match b with|false=>cR K H p xs|true=>bT K H p xs
section
variable {X:Cx}{a b:Expr}{t:TA}{p1 p2 p3 p4:Pos}
theorem A4{c:Bool}{pins:List (Addr×Obj)}{σ:St}{H:Hp}{s:Shared}{p:Addr}{xs:List V}(I:Inv X pins σ H s)(h:om X.K c H p xs):∃its:List Value,Vals xs its/\lE c s.heap p its.toArray/\xs.length<=sizeLine:=by
 cases c with
 |false =>
  obtain⟨its,rv,pl,hz⟩:=I.list h
  exact⟨its,rv,pl.isList,hz⟩
 |true =>
  obtain⟨its,rv,pl,hz⟩:=I.tuple h
  exact⟨its,rv,(show Heap.IsTuple _ _ _ by obtain⟨o,e,r⟩:=pl;exact⟨o,e,r⟩),hz⟩
noncomputable def Je(K:PySem.W.Frag)(t:TA):TE:=fun σ H Q=>t σ H fun vs H2=>∃b1 b2 p q xs ys,vs=[.ref p,.ref q]/\om K b1 H2 p xs/\om K b2 H2 q ys /\
 ∀(l:Addr) (ts:List Addr) (H':Hp),Dc xs ys ts H2 H'->H2 l=none->H' l=some (.tup (ts.map V.ref))->Q (.ref l) H'
theorem sS(hc:X.calm=true)(hgl:Gl X "tuple")(hml:X.mg "tuple"=none)(hgz:Gl X "zip")(hmz:X.mg "zip"=none)(ha:PA X [a,b] t)
  (he:starEach [a,b] X.env=(false,eval a X.env)::starEach [b] X.env:=by rfl) (hpl:(backTo p2 (starEach [b] X.env)).any (·.1)=false:=by rfl)
  (he2:starEach [.Call (.Name "zip" p1) [a,b] [] p2] X.env=[(false,eval (.Call (.Name "zip" p1) [a,b] [] p2) X.env)]:=by rfl) :
  PE X (.Call (.Name "tuple" p3) [.Call (.Name "zip" p1) [a,b] [] p2] [] p4) (Je X.K t):=by
 intro pins s σ H Q I h
 refine wpAny_Call_Name_kw (kX I hgl hml boot_tuple ?_ (by decide) (by decide))
 refine PyProof.Rows.callWith_type1 ?_ he2 rfl
 rw[he2]
 refine Calls.spliced_cons ?_
 refine wpAny_Call_Name_kw (kX I hgz hmz boot_zip ?_ (by decide) (by decide))
 refine PyProof.Rows.callWith_type1 ?_ he hpl
 refine bP (ha p2 pins s σ H _ I h) fun us s1 ⟨vs,H1,I1,r1,q1⟩=>?_
 obtain⟨c1,c2,p,q,xs,ys,rfl,hx,hy,hq⟩:=q1
 obtain⟨u,w',rfl,r1,r2⟩:=vals2 r1
 cases r1
 cases r2
 obtain⟨its,rv,pl,hz⟩:=A4 I1 hx
 obtain⟨jts,rw',pm,hz'⟩:=A4 I1 hy
 have e1:=rv.length
 have e2:=rw'.length
 refine bP (nS (n:=min xs.length ys.length) (Q:=EP X pins σ Q) (E:=X.xe) (I1.ok.hd hc) pl pm (by simp only[List.size_toArray];omega) (by simp only[List.size_toArray];omega) (by have:=yf (xs:=its) (ys:=jts);rw[←e1,←e2]at this;simpa using this) (by omega) fun h' tk acc as hk hsz hal hG hacc=>?_) fun v s2 h2=>Calls.spliced_nil (by simpa using h2)
 have hSa:h'.objs.size∉as:=fun hm=>by have:=hG.lt hm;omega
 obtain⟨I2,zo,hn⟩:=yg (tk:=tk) (o:=.tup (as.map V.ref)) (h':=h'.push {cls:=.type "tuple",data:=.seq acc}) I1 rv rw' (Nat.le_add_right _ 6) (fun b o e=>Heap.get?_push_of_some _ (hk b o e)) hal (hG.keep fun c o _ e=>Heap.get?_push_of_some _ e) hsz hSa
  (show di X.prog X.w _ _ _ (.tup _)from⟨by rw[List.length_map,hal];omega,as.map Value.ref,mX as,by rw[←hacc];exact IsTup.new _ _,_,Heap.get?_push_size _ rfl,rfl⟩)
 exact⟨.ref h'.objs.size,_,I2,rfl,hq _ as _ zo hn ah⟩
end
end L2
namespace L2
open PySem
noncomputable def isStar:Expr->Bool
 |.Starred _ _=>true
 |_=>false
theorem A5{e:Expr}{es:List Expr}{env:PySem.Env}(h:isStar e=false):starEach (e::es) env=(false,eval e env)::starEach es env:=by
 cases e<;>first|rfl|cases h
theorem cE{X:Cx}{e:Expr}{es:List Expr}{te:TE}{t:TA}(ha:PE X e te)(hr:PA X es t)(hs:isStar e=false:=by rfl):PA X (e::es) (gq te t):=aU ha hr (A5 hs)
end L2
namespace G27
open PySem L2
structure WS where
 many:Nat
 failed:Bool
 rows:List T
 told:List T
 waiting:List T
structure WA where
 dx:Addr
 dD:Addr
 lR:Addr
 lT:Addr
 lW:Addr
 D:List (Str×List Str×T)
noncomputable def nU(a:WA)(st:WS):List (Str×V):=[("defs",.ref a.dD),("most",.int 200),("many",.int st.many),("rows",.ref a.lR),("failed",.bl st.failed),("told",.ref a.lT),("waiting",.ref a.lW)]
noncomputable def tY:List (Str×List Str×T)->Str->Option (List Str×T)
 | [],_=>none
 |d::r,x=>(tY r x).or (if d.1=x then some d.2 else none)
noncomputable def Iw(K:PySem.W.Frag)(H:Hp)(a:WA)(kvs:List (Key×V))(D:List (Str×List Str×T)):Prop:=∀x:Str,∀y,tY D x=some y ->
 ∃(q ln:Addr) (tv:V),dY kvs (Sum.inr x)=some (.ref q)/\bT K H q [.ref ln,tv]/\H ln=some (.lst (y.1.map V.str))/\(ln≠a.lR/\ln≠a.lT/\ln≠a.lW)/\Rp K H y.2 tv
structure jE(K:PySem.W.Frag) (C:Addr) (H0:Hp) (w:Addr) (a:WA) (H:Hp) (st:WS):Prop where
 same:∀b u,b≠w->H0 b=some u->H b=some u
 r0:H0 a.lR=none
 t0:H0 a.lT=none
 q0:H0 a.lW=none
 tw:a.lT≠a.lW
 rt:a.lR≠a.lT
 rw':a.lR≠a.lW
 ins:H w=some (.ins C a.dx (nU a st))
 rws:∃rv,H a.lR=some (.lst rv)/\bB K H st.rows rv
 tol:∃tv,H a.lT=some (.lst tv)/\bB K H st.told tv
 wai:∃wv,H a.lW=some (.lst wv)/\bB K H st.waiting wv
 dfs:∃kvs,H a.dD=some (.dK kvs)/\Iw K H a kvs a.D
noncomputable def mz(a:WA)(H H':Hp):Prop:=∀b l,b≠a.lR->b≠a.lT->b≠a.lW->H b=some (.lst l)->H' b=some (.lst l)
theorem Iw.to{K:PySem.W.Frag}{H H':Hp}{a:WA}{kvs:List (Key×V)}{D:List (Str×List Str×T)}(h:Iw K H a kvs D)(k:Kt H H')(o:mz a H H'):Iw K H' a kvs D:=fun x y e=>by
 obtain⟨q,ln,tv,h1,h2,h3,n,h4⟩:=h x y e
 exact⟨q,ln,tv,h1,h2.kt k,o ln _ n.1 n.2.1 n.2.2 h3,n,h4.kt k⟩
section
variable {K:PySem.W.Frag}{C:Addr}{H0 H:Hp}{w:Addr}{a:WA}{st:WS}
theorem jE.wT(h:jE K C H0 w a H st):w≠a.lT:=fun z=>by obtain⟨tv,e,_⟩:=h.tol;have:=h.ins;rw[z,e]at this;cases this
theorem jE.wW(h:jE K C H0 w a H st):w≠a.lW:=fun z=>by obtain⟨tv,e,_⟩:=h.wai;have:=h.ins;rw[z,e]at this;cases this
theorem jE.wR(h:jE K C H0 w a H st):w≠a.lR:=fun z=>by obtain⟨tv,e,_⟩:=h.rws;have:=h.ins;rw[z,e]at this;cases this
theorem mz.refl:mz a H H:=fun _ _ _ _ _ e=>e
theorem mz.trans{H2 H3:Hp}(h:mz a H H2)(k:mz a H2 H3):mz a H H3:=fun b l n1 n2 n3 e=>k b l n1 n2 n3 (h b l n1 n2 n3 e)
theorem mz.same{H':Hp}(s:br H H'):mz a H H':=fun b l _ _ _ e=>s b _ e
theorem jE.Ht(h:jE K C H0 w a H st){tv:List V}{ts:List T}(r:bB K H ts tv):jE K C H0 w a (upd H a.lT (.lst tv)) {st with told:=ts}/\Kt H (upd H a.lT (.lst tv))/\mz a H (upd H a.lT (.lst tv)):=by
 obtain⟨tv0,e0,_⟩:=h.tol
 obtain⟨wv,ew,rw0⟩:=h.wai
 obtain⟨rv,er,rr0⟩:=h.rws
 have k:Kt H (upd H a.lT (.lst tv)):=Kt.lst e0 _
 have oo:mz a H (upd H a.lT (.lst tv)):=fun b l _ n _ e=>by rw[au n];exact e
 obtain⟨kvs,dd,da⟩:=h.dfs
 refine⟨⟨fun b o n e=>?_,h.r0,h.t0,h.q0,h.tw,h.rt,h.rw',?_,⟨rv,?_,rr0.kt k⟩,⟨tv,ah,r.kt k⟩,⟨wv,?_,rw0.kt k⟩,kvs,?_,da.to k oo⟩,k,oo⟩
 ·rw[au (aF e h.t0)];exact h.same b o n e
 ·rw[au h.wT];exact h.ins
 ·rw[au h.rt];exact er
 ·rw[au h.tw.symm];exact ew
 ·rw[au (cF dd e0 (fun z=>nomatch z))];exact dd
theorem jE.A6(h:jE K C H0 w a H st){tv:List V}{ts:List T}(r:bB K H ts tv):jE K C H0 w a (upd H a.lW (.lst tv)) {st with waiting:=ts}/\Kt H (upd H a.lW (.lst tv))/\mz a H (upd H a.lW (.lst tv)):=by
 obtain⟨tv0,e0,rt0⟩:=h.tol
 obtain⟨wv,ew,rw0⟩:=h.wai
 obtain⟨rv,er,rr0⟩:=h.rws
 have k:Kt H (upd H a.lW (.lst tv)):=Kt.lst ew _
 have oo:mz a H (upd H a.lW (.lst tv)):=fun b l _ _ n e=>by rw[au n];exact e
 obtain⟨kvs,dd,da⟩:=h.dfs
 refine⟨⟨fun b o n e=>?_,h.r0,h.t0,h.q0,h.tw,h.rt,h.rw',?_,⟨rv,?_,rr0.kt k⟩,⟨tv0,?_,rt0.kt k⟩,⟨tv,ah,r.kt k⟩,kvs,?_,da.to k oo⟩,k,oo⟩
 ·rw[au (aF e h.q0)];exact h.same b o n e
 ·rw[au h.wW];exact h.ins
 ·rw[au h.rw'];exact er
 ·rw[au h.tw];exact e0
 ·rw[au (cF dd ew (fun z=>nomatch z))];exact dd
theorem jE.Jf(h:jE K C H0 w a H st){tv:List V}{ts:List T}(r:bB K H ts tv):jE K C H0 w a (upd H a.lR (.lst tv)) {st with rows:=ts}/\Kt H (upd H a.lR (.lst tv))/\mz a H (upd H a.lR (.lst tv)):=by
 obtain⟨tv0,e0,rt0⟩:=h.tol
 obtain⟨wv,ew,rw0⟩:=h.wai
 obtain⟨rv,er,rr0⟩:=h.rws
 have k:Kt H (upd H a.lR (.lst tv)):=Kt.lst er _
 have oo:mz a H (upd H a.lR (.lst tv)):=fun b l n _ _ e=>by rw[au n];exact e
 obtain⟨kvs,dd,da⟩:=h.dfs
 refine⟨⟨fun b o n e=>?_,h.r0,h.t0,h.q0,h.tw,h.rt,h.rw',?_,⟨tv,ah,r.kt k⟩,⟨tv0,?_,rt0.kt k⟩,⟨wv,?_,rw0.kt k⟩,kvs,?_,da.to k oo⟩,k,oo⟩
 ·rw[au (aF e h.r0)];exact h.same b o n e
 ·rw[au h.wR];exact h.ins
 ·rw[au h.rt.symm];exact e0
 ·rw[au h.rw'.symm];exact ew
 ·rw[au (cF dd er (fun z=>nomatch z))];exact dd
theorem jE.Fe(h:jE K C H0 w a H st){st':WS}(e1:st'.told=st.told)(e2:st'.waiting=st.waiting)(e3:st'.rows=st.rows):jE K C H0 w a (upd H w (.ins C a.dx (nU a st'))) st'/\Kt H (upd H w (.ins C a.dx (nU a st')))/\mz a H (upd H w (.ins C a.dx (nU a st'))):=by
 obtain⟨tv0,e0,rt0⟩:=h.tol
 obtain⟨wv,ew,rw0⟩:=h.wai
 obtain⟨rv,er,rr0⟩:=h.rws
 have k:Kt H (upd H w (.ins C a.dx (nU a st'))):=Kt.upd h.ins (fun _ z=>nomatch z) (fun _ _ z=>nomatch z) _
 have oo:mz a H (upd H w (.ins C a.dx (nU a st'))):=fun b l _ _ _ e=>by rw[au (cF e h.ins (fun z=>nomatch z))];exact e
 obtain⟨kvs,dd,da⟩:=h.dfs
 refine⟨⟨fun b o n e=>?_,h.r0,h.t0,h.q0,h.tw,h.rt,h.rw',ah,⟨rv,?_,?_⟩,⟨tv0,?_,?_⟩,⟨wv,?_,?_⟩,kvs,?_,da.to k oo⟩,k,oo⟩
 ·rw[au n];exact h.same b o n e
 ·rw[au h.wR.symm];exact er
 ·rw[e3];exact rr0.kt k
 ·rw[au h.wT.symm];exact e0
 ·rw[e1];exact rt0.kt k
 ·rw[au h.wW.symm];exact ew
 ·rw[e2];exact rw0.kt k
 ·rw[au (cF dd h.ins (fun z=>nomatch z))];exact dd
theorem jE.ext(h:jE K C H0 w a H st){H':Hp}(s:br H H'):jE K C H0 w a H' st/\Kt H H'/\mz a H H':=by
 obtain⟨tv0,e0,rt0⟩:=h.tol
 obtain⟨wv,ew,rw0⟩:=h.wai
 obtain⟨rv,er,rr0⟩:=h.rws
 obtain⟨kvs,dd,da⟩:=h.dfs
 exact⟨⟨fun b u n e=>s _ _ (h.same b u n e),h.r0,h.t0,h.q0,h.tw,h.rt,h.rw',s _ _ h.ins,⟨rv,s _ _ er,rr0.same s⟩,⟨tv0,s _ _ e0,rt0.same s⟩,⟨wv,s _ _ ew,rw0.same s⟩,kvs,s _ _ dd,da.to (Kt.same s) (mz.same s)⟩,Kt.same s,mz.same s⟩
end
theorem wK(a:WA)(st:WS):(nU a st).length<1000:=by show 7<1000;decide
theorem A7(a:WA)(st:WS)(n:Nat):fB "many" (.int ((st.many:Int)+1)) (nU a st)=nU a {st with many:=st.many+1}:=by kernel_rfl
theorem pK(a:WA)(st:WS)(b:Bool):fB "failed" (.bl b) (nU a st)=nU a {st with failed:=b}:=by kernel_rfl
structure dc(P:Program) (w:World) (K:PySem.W.Frag) (mg:Str->Option Value) (base:Heap) (C:Addr) (m:Str) (k:Nat) (ps:List Str) (sp:Sp) (f:Addr) (fd:FuncData):Prop where
 ok:bF P w K mg base dX k f fd ps sp
 m:Meth K C m f
 bd:Binds K fd ps []
 c:zS K C
structure sU(K:PySem.W.Frag) (C:Addr):Prop where
 c:zS K C
 defs:fD K C "defs"
 most:fD K C "most"
 many:fD K C "many"
 rows:fD K C "rows"
 failed:fD K C "failed"
 told:fD K C "told"
 waiting:fD K C "waiting"
noncomputable def aZ(n:Int):T:=.t [.s "num",.i n]
noncomputable def aG(n:Nat):T:=.t [.s "left",.i n]
noncomputable def bD(ts:List T):T:=.t [.s "row",.t ts]
noncomputable def jF(t:Str)(ts:List T):T:=.t [.s "tag",.s t,.t ts]
noncomputable def eY(t around:T):T:=.t [.s "term",t,around]
noncomputable def nC(t around:T):T:=.t [.s "rest",t,around]
noncomputable def jb(row:T)(at_:Nat):T:=.t [.s "round",row,.i at_]
structure Bd(st:WS):Prop where
 r:st.rows.length<900
 t:st.told.length<900
 w:st.waiting.length<900
noncomputable abbrev WK(K:PySem.W.Frag)(C:Addr)(H0:Hp)(w:Addr)(a:WA)(H:Hp)(st:WS)(Q:Hp->Prop):Prop:=∀H',jE K C H0 w a H' st->Kt H H'->mz a H H'->Q H'
noncomputable def WS.tell(st:WS)(t:T):WS:={st with told:=st.told++[t]}
noncomputable def WS.one(st:WS):WS:={st with many:=st.many+1}
noncomputable def WS.go(st:WS)(t r:T):WS:={st with waiting:=st.waiting++[eY t r]}
noncomputable def WS.wait(st:WS)(t:T):WS:={st with waiting:=st.waiting++[t]}
noncomputable def WS.write(st:WS)(row:T):WS:={st with rows:=st.rows++[row],told:=st.told++[aG st.rows.length]}
noncomputable def WS.fail(st:WS):WS:={st with failed:=true}
noncomputable def jG(K:PySem.W.Frag)(C:Addr):Sp:=fun vs H Q _=>∃(H0:Hp) (w:Addr) (a:WA) (st:WS) (v:V) (t:T),vs=[.ref w,v]/\jE K C H0 w a H st/\Rp K H t v/\st.told.length<1000/\WK K C H0 w a H (st.tell t) (Q .eW)
noncomputable def ie(K:PySem.W.Frag)(C:Addr):Sp:=fun vs H Q _=>∃(H0:Hp) (w:Addr) (a:WA) (st:WS),vs=[.ref w]/\jE K C H0 w a H st/\st.many<200/\WK K C H0 w a H st.one (Q .eW)
noncomputable def iI(K:PySem.W.Frag)(C:Addr):Sp:=fun vs H Q _=>∃(H0:Hp) (w:Addr) (a:WA) (st:WS) (v u:V) (t r:T),vs=[.ref w,v,u]/\jE K C H0 w a H st/\Rp K H t v/\Rp K H r u/\st.waiting.length<1000/\WK K C H0 w a H (st.go t r) (Q .eW)
noncomputable def ig(K:PySem.W.Frag)(C:Addr):Sp:=fun vs H Q _=>∃(H0:Hp) (w:Addr) (a:WA) (st:WS) (v:V) (t:T),vs=[.ref w,v]/\jE K C H0 w a H st/\Rp K H t v/\st.told.length<1000/\st.rows.length<1000/\WK K C H0 w a H (st.write t) (Q .eW)
noncomputable def oq(K:PySem.W.Frag)(C:Addr):Sp:=fun vs H Q _=>∃(H0:Hp) (w:Addr) (a:WA) (st:WS) (front back:List T),vs=[.ref w,.int (back.length:Int)]/\jE K C H0 w a H st/\st.told=front++back/\back.length<=900 /\
 ∀(H':Hp) (p:Addr) (ws:List V),jE K C H0 w a H' {st with told:=front}->Kt H H'->mz a H H'->H' p=some (.lst ws)->p≠a.lR->p≠a.lT->p≠a.lW->bB K H' back ws->Q (.ref p) H'
section
variable {P:Program}{w:World}{K:PySem.W.Frag}{mg:Str->Option Value}{base:Heap}{C:Addr}
theorem mC:Nm ["self","thing"] (af iU):=by decide +kernel
theorem sV:aM ["self","thing"] ["self","thing"] (af iU):=⟨rfl,rfl,rfl,by decide +kernel,rfl,by decide +kernel,by decide +kernel⟩
theorem Di{f:Addr}{fd:FuncData}(F:gJ K "tell" "Work.tell" iU f fd)(N:sU K C):bF P w K mg base dX 1 f fd ["self","thing"] (jG K C):=by
 refine F.ok sV (fun vs H Q E h=>?_) (fun cdv A outer s H vs Q E hr h=>?_)
 ·obtain⟨_,_,_,_,_,_,rfl,_⟩:=h
  rfl
 obtain⟨H0,o,a,st,v,t,rfl,hw,hv,hl,k⟩:=h
 refine⟨_,(Zd (Zk (Z8 (dI (va mC 0) rfl) (Zb (va mC 1))))),?_⟩
 try dsimp only[bY]
 obtain⟨tv,et,rt⟩:=hw.tol
 have hi:=hw.ins
 have hc:=N.c
 have hn:=N.told
 have l1:=rt.length
 have l2:tv.length<sizeLine:=bu (by omega)
 fail "R"
 obtain⟨w1,k1,o1⟩:=hw.Ht (rt.snoc hv)
 exact k _ w1 k1 o1
theorem iJ:Nm ["self"] (af gk):=by decide +kernel
theorem pL:aM ["self"] ["self"] (af gk):=⟨rfl,rfl,rfl,by decide +kernel,rfl,by decide +kernel,by decide +kernel⟩
theorem Ff{f:Addr}{fd:FuncData}(F:gJ K "do_one" "Work.do_one" gk f fd)(N:sU K C):bF P w K mg base dX 1 f fd ["self"] (ie K C):=by
 refine F.ok pL (fun vs H Q E h=>?_) (fun cdv A outer s H vs Q E hr h=>?_)
 ·obtain⟨_,_,_,_,rfl,_⟩:=h
  rfl
 obtain⟨H0,o,a,st,rfl,hw,hl,k⟩:=h
 refine⟨_,(Z4 (yS (va iJ 0) ak EY) (Zd (Zh (Zn ug (dI (va iJ 0) rfl) (dI (va iJ 0) rfl)) (dH Ab)))),?_⟩
 try dsimp only[bY]
 have hi:=hw.ins
 have hc:=N.c
 have hn:=N.many
 have hn2:=N.most
 have hfl:=wK a st
 fail "R"
 rw[A7 a st 0]
 obtain⟨w1,k1,o1⟩:=hw.Fe (st':={st with many:=st.many+1}) rfl rfl rfl
 have hi1:=w1.ins
 fail "R"
 refine qO (decide_eq_false (by show ¬((200:Int)<((st.many+1:Nat):Int));omega)) ?_
 exact k _ w1 k1 o1
theorem gm:Nm ["self","row"] (af ic):=by decide +kernel
theorem qw:aM ["self","row"] ["self","row"] (af ic):=⟨rfl,rfl,rfl,by decide +kernel,rfl,by decide +kernel,by decide +kernel⟩
theorem A8{f gT:Addr}{fd tfd:FuncData}(F:gJ K "write" "Work.write" ic f fd)(N:sU K C)(mTell:dc P w K mg base C "tell" 1 ["self","thing"] (jG K C) gT tfd)(z_len:mg "len"=none):bF P w K mg base dX 2 f fd ["self","row"] (ig K C):=by
 refine F.ok qw (fun vs H Q E h=>?_) (fun cdv A outer s H vs Q E hr h=>?_)
 ·obtain⟨_,_,_,_,_,_,rfl,_⟩:=h
  rfl
 obtain⟨H0,o,a,st,v,t,rfl,hw,hv,hl,hl2,k⟩:=h
 refine⟨_,(Z4 (Zk (Z5 (va gm 0) mTell (Z1 (Z6 (Z1 aq (Z1 (Zg bC (Z1 (dI (va gm 0) rfl) aj)) aj))) aj))) (Zd (Zk (Z8 (dI (va gm 0) rfl) (Zb (va gm 1)))))),?_⟩
 try dsimp only[bY]
 obtain⟨rv,er,rr⟩:=hw.rws
 have hi:=hw.ins
 have hc:=N.c
 have hn:=N.rows
 have l1:=rr.length
 have l2:rv.length<sizeLine:=bu (by omega)
 fail "O"
 intro p hp
 have sp:=ae hp (.tup [.str "left",.int (rv.length:Int)])
 obtain⟨w1,k1,o1⟩:=hw.ext sp
 have hi1:=w1.ins
 have r1:Rp K (upd H p (.tup [.str "left",.int (rv.length:Int)])) (aG st.rows.length) (.ref p):=by
  rw[←l1]
  exact Rp.new (K:=K) hp (xs:=[.s "left",.i (rv.length:Int)]) (.cons .s (.one .i))
 fail "R"
 intro H2 w2 k2 o2
 have hi2:=w2.ins
 obtain⟨rv2,er2,rr2⟩:=w2.rws
 have l3:=rr2.length
 have l4:rv2.length<sizeLine:=bu (by have:(st.tell (aG st.rows.length)).rows.length<1000:=hl2;omega)
 fail "R"
 obtain⟨w3,k3,o3⟩:=w2.Jf (rr2.snoc (hv.kt (k1.trans k2)))
 exact k _ w3 (k1.trans (k2.trans k3)) (o1.trans (o2.trans o3))
theorem gK:Nm ["self","term","around"] (af fN):=by decide +kernel
theorem nV:aM ["self","term","around"] ["self","term","around"] (af fN):=⟨rfl,rfl,rfl,by decide +kernel,rfl,by decide +kernel,by decide +kernel⟩
theorem Dj{f:Addr}{fd:FuncData}(F:gJ K "go_into" "Work.go_into" fN f fd)(N:sU K C):bF P w K mg base dX 1 f fd ["self","term","around"] (iI K C):=by
 refine F.ok nV (fun vs H Q E h=>?_) (fun cdv A outer s H vs Q E hr h=>?_)
 ·obtain⟨_,_,_,_,_,_,_,_,rfl,_⟩:=h
  rfl
 obtain⟨H0,o,a,st,v,u,t,r,rfl,hw,hv,hu,hl,k⟩:=h
 refine⟨_,(Zd (Zk (Z8 (dI (va gK 0) rfl) (Z1 (Z6 (Z1 aq (Z1 (va gK 1) (Zb (va gK 2))))) aj)))),?_⟩
 try dsimp only[bY]
 obtain⟨tv,et,rt⟩:=hw.wai
 have hi:=hw.ins
 have hc:=N.c
 have hn:=N.waiting
 have l1:=rt.length
 have l2:tv.length<sizeLine:=bu (by omega)
 fail "R"
 intro p hp
 obtain⟨w1,k1,o1⟩:=hw.ext (ae hp (.tup [.str "term",v,u]))
 obtain⟨tv2,et2,rt2⟩:=w1.wai
 have l3:=rt2.length
 have l4:tv2.length<sizeLine:=bu (by omega)
 fail "R"
 obtain⟨w2,k2,o2⟩:=w1.A6 (rt2.snoc (Rp.new (K:=K) hp (xs:=[.s "term",t,r]) (.cons .s (.cons hv (.one hu)))))
 exact k _ w2 (k1.trans k2) (o1.trans o2)
theorem mD:Nm ["self","many","things"] (af fz):=by decide +kernel
theorem sW:Lm ["self","many","things"] (af fz):=by decide +kernel
theorem mE:aM ["self","many","things"] ["self","many"] (af fz):=⟨rfl,rfl,rfl,by decide +kernel,rfl,by decide +kernel,by decide +kernel⟩
theorem A9{f:Addr}{fd:FuncData}(F:gJ K "take" "Work.take" fz f fd)(N:sU K C)(z_range:mg "range"=none):bF P w K mg base dX 1 f fd ["self","many"] (oq K C):=by
 refine F.ok mE (fun vs H Q E h=>?_) (fun cdv A outer s H vs Q E hr h=>?_)
 ·obtain⟨_,_,_,_,_,_,rfl,_⟩:=h
  rfl
 obtain⟨H0,o,a,st,front,back,rfl,hw,et,hl,k⟩:=h
 refine⟨_,(Z4 (@uI _ _ _ _ _ _ _ _ _ _ _ _ _ _ _ (af fz) ["self","many","things"] ["each"] [0] rfl rfl rfl (by decide +kernel) (@jh _ _ _ _ _ _ (by show _=_;kernel_rfl) z_range (Zb (va mD 1)) (by rfl)) (fun _ _ _ _=>(Za (i:=0) (show(["each","self"]:List Str).Nodup by decide +kernel))) (fun _ _ _ _=>cN) (fun _ _ _ _=>(@Df _ _ _ _ _ _ _ _ _ K rfl PySem.F.plainAttrs_list PySem.F.slot_list_pop PySem.F.type_list_pop Ar (De K rfl (va (show Nm ["each","self"] _ by show _=_;kernel_rfl) 1) rfl) (by rfl) (by rfl))) (ga mE.nd sW 2) (by kernel_rfl) (by intro _;rfl)) (Zd (Zm (@qK _ _ _ _ _ _ _ _ _ _ _ (va mD 2) hU hU (fF (oK kZ ak)))))),?_⟩
 try dsimp only[bY]
 have hc:=N.c
 have hn:=N.told
 fail "R"
 refine jC (n:=back.length) (fun i σ vs Hc=>(∃x,σ=[x,some (.ref o)])/\jE K C H0 o a Hc {st with told:=front++back.take (back.length-i)}/\(Kt H Hc/\mz a H Hc)/\bB K Hc ((back.drop (back.length-i)).reverse) vs) ⟨⟨_,rfl⟩,?_,⟨Kt.refl,mz.refl⟩,?_⟩ ?_ (Nat.le_of_lt (bu (by omega))) ?_ ?_
 ·rw[Nat.sub_zero,List.take_length,←et];exact hw
 ·rw[Nat.sub_zero,List.drop_length];exact .nil
 ·rintro i σ vs Hc hi ⟨_,_,_,r⟩
  rw[r.length,List.length_reverse,List.length_drop];omega
 ·rintro i σ vs Hc hi ⟨⟨x,rfl⟩,w1,⟨k1,o1⟩,r⟩
  have hi1:=w1.ins
  obtain⟨tv,e1,r1⟩:=w1.tol
  have hlt:back.length - (i+1)<back.length:=by omega
  have eb:back.take (back.length-i)=back.take (back.length - (i+1))++[back[back.length - (i+1)]]:=by
   rw[←List.take_succ_eq_append_getElem hlt];congr 1;omega
  have r1':bB K Hc ((front++back.take (back.length - (i+1)))++[back[back.length - (i+1)]]) tv:=by
   have:(front++back.take (back.length - (i+1)))++[back[back.length - (i+1)]]=front++back.take (back.length-i):=by rw[eb,List.append_assoc]
   rw[this];exact r1
  obtain⟨us,ul,rfl,r3,r4⟩:=r1'.split
  obtain⟨u,q,rfl,ru,rq⟩:=r4.inv
  obtain rfl:=rq.cZ
  have hg:(us++[u])[(us++[u]).length-1]?=some u:=by simp
  obtain⟨w2,k2,o2⟩:=w1.Ht r3
  fail "R"
  ·rw[List.dropLast_concat];exact w2
  rw[List.dropLast_concat]
  refine⟨⟨k1.trans k2,o1.trans o2⟩,?_⟩
  have ed:back.drop (back.length - (i+1))=back[back.length - (i+1)]::back.drop (back.length-i):=by
   rw[List.drop_eq_getElem_cons hlt];congr 2;omega
  rw[ed,List.reverse_cons]
  exact(r.kt k2).snoc (ru.kt k2)
 ·rintro σ vs Hc ⟨⟨x,rfl⟩,w1,⟨k1,o1⟩,r⟩ p hp
  rw[Nat.sub_self,List.take_zero,List.append_nil]at w1
  rw[Nat.sub_self,List.drop_zero]at r
  have lr:=r.length
  rw[List.length_reverse]at lr
  have hS:upd Hc p (.lst vs) p=some (.lst vs):=ah
  have hz:(nu vs none none (some (-1))).length<=sizeLine:=by rw[l8,List.length_reverse];exact(Nat.le_of_lt (bu (by omega)))
  fail "R"
  intro p2 hp2
  rw[l8]
  obtain⟨w0,k0,o0⟩:=w1.ext (ae hp (.lst vs))
  obtain⟨w2,k2,o2⟩:=w0.ext (ae hp2 (.lst vs.reverse))
  obtain⟨_,n1,_⟩:=w0.rws
  obtain⟨_,n2,_⟩:=w0.tol
  obtain⟨_,n3,_⟩:=w0.wai
  refine k _ p2 vs.reverse w2 (k1.trans (k0.trans k2)) (o1.trans (o0.trans o2)) ah (aF n1 hp2).symm (aF n2 hp2).symm (aF n3 hp2).symm ?_
  have:=(r.kt (k0.trans k2)).reverse
  rwa [List.reverse_reverse]at this
end
noncomputable abbrev Env:=List (Str×T)
noncomputable def pT(p:Str×T):T:=.t [.s p.1,p.2]
noncomputable def dh(env:Env):T:=.t (env.map pT)
noncomputable def b9(env:Env)(xs:List Str)(ts:List T):Env:=env.filter (fun p=>!decide (p.1∈xs))++xs.zip ts
theorem fX{n:Nat}(h:n<4000):n<=sizeLine:=by rw[sizeLine_eq];omega
theorem pN(x:Str):∀xs:List Str,Gm (.str x) (xs.map V.str)=decide (x∈xs)
 | []=>rfl
 |y::r=>by
  have ih:=pN x r
  unfold Gm at ih⊢
  rw[List.map_cons,List.any_cons,ih]
  by_cases h:y=x
  ·subst h;simp[Ct]
  ·have h2:¬x=y:=fun z=>h z.symm
   by_cases h3:x∈r<;>simp[Ct,h,h2,h3]
theorem kE:∀xs:List Str,(xs.map V.str).all jW=true
 | []=>rfl
 |y::r=>by rw[List.map_cons,List.all_cons,kE r];rfl
theorem qV{K:PySem.W.Frag}{H H':Hp}{xs:List Str}{ns:List T}{tvs:List V}{ts:List Addr}(hl:xs.length=ns.length)(z:Dc (xs.map V.str) tvs ts H H')(r:bB K H ns tvs):bB K H' ((xs.zip ns).map pT) (ts.map V.ref):=by
 obtain⟨sm,len,at_⟩:=z
 have lr:=r.length
 rw[List.length_map]at len
 have key:∀(n:Nat),n<=xs.length->bB K H' (((xs.zip ns).take n).map pT) ((ts.take n).map V.ref):=by
  intro n
  induction n with
  |zero=>intro _;exact .nil
  |succ n ih =>
   intro hn
   have hx:n<xs.length:=hn
   have hnn:n<ns.length:=by omega
   have ht:n<ts.length:=by omega
   have hz:n<(xs.zip ns).length:=by rw[List.length_zip];omega
   rw[List.take_succ_eq_append_getElem hz,List.take_succ_eq_append_getElem ht,List.map_append,List.map_append]
   refine(ih (by omega)).append (.one ?_)
   obtain⟨x,y,e1,e2,e3⟩:=at_ n _ (List.getElem?_eq_getElem ht)
   obtain⟨t,et,rt⟩:=r.get' e2
   rw[List.getElem?_map,List.getElem?_eq_getElem hx]at e1
   rw[List.getElem?_eq_getElem hnn]at et
   simp at e1 et
   subst e1 et
   rw[List.getElem_zip]
   exact Rp.t (bT.of e3) (.cons .s (.one (rt.same sm)))
 have:=key xs.length (Nat.le_refl _)
 rwa [List.take_of_length_le (by rw[List.length_zip];omega),List.take_of_length_le (by omega)]at this
end G27
namespace L2
open PySem
theorem om.or{K:PySem.W.Frag}{b:Bool}{H:Hp}{p:Addr}{xs:List V}(h:om K b H p xs):cR K H p xs\/bT K H p xs:=by
 cases b with
 |false=>exact .inl h
 |true=>exact .inr h
theorem om.same{K:PySem.W.Frag}{b:Bool}{H H':Hp}{p:Addr}{xs:List V}(h:om K b H p xs)(s:br H H'):om K b H' p xs:=by
 cases b with
 |false =>
  rcases(show cR K H p xs from h)with(h|⟨z,h⟩)|h
  ·exact .inl (.inl (s _ _ h))
  ·exact .inl (.inr ⟨z,s _ _ h⟩)
  ·exact .inr h
 |true=>exact bT.kt (Kt.same s) h
end L2
namespace G27
open PySem L2
noncomputable def mF(K:PySem.W.Frag):Sp:=fun vs H Q _=>∃(ar:V) (ln lt:Addr) (b1 b2:Bool) (env:Env) (xs:List Str) (ts:List T) (tvs:List V),vs=[ar,.ref ln,.ref lt]/\Rp K H (dh env) ar/\om K b1 H ln (xs.map V.str)/\om K b2 H lt tvs/\bB K H ts tvs/\xs.length=ts.length/\env.length<=900/\xs.length<=900 /\
 ∀(H':Hp) (u:V),br H H'->Rp K H' (dh (b9 env xs ts)) u->Q u H'
section
variable {P:Program}{w:World}{K:PySem.W.Frag}{mg:Str->Option Value}{base:Heap}{C:Addr}
theorem j4:Nm ["around","names","things"] (af iD):=by decide +kernel
theorem uP:aM ["around","names","things"] ["around","names","things"] (af iD):=⟨rfl,rfl,rfl,by decide +kernel,rfl,by decide +kernel,by decide +kernel⟩
theorem Ba{f:Addr}{fd:FuncData}(F:gJ K "bound_to" "bound_to" iD f fd)(z_tuple:mg "tuple"=none)(z_zip:mg "zip"=none):bF P w K mg base dX 1 f fd ["around","names","things"] (mF K):=by
 refine F.ok uP (fun vs H Q E h=>?_) (fun cdv A outer s H vs Q E hr h=>?_)
 ·obtain⟨_,_,_,_,_,_,_,_,_,rfl,_⟩:=h
  rfl
 obtain⟨ar,ln,lt,b1,b2,env,xs,ts,tvs,rfl,h0,hn,ht,r,hl,he,hx,k⟩:=h
 refine⟨_,(Zd (Zm (Zp jt (Z9 bH z_tuple PyProof.Rows.boot_tuple (Z1 (@dR _ _ _ _ _ _ _ _ _ _ _ (af iD) ["around","names","things"] ["pair"] [1] rfl rfl rfl (by decide +kernel) (jT (va j4 0)) (fun _ _ _ _=>(Za (i:=0) (show(["pair","names"]:List Str).Nodup by decide +kernel))) (fun _ _ _ _=>(@uC _ _ _ (@cM _ _ _ _ _ _ _ _ (qp K rfl) (Z3 (sN K rfl) (va (show Nm ["pair","names"] _ by show _=_;kernel_rfl) 0)) (va (show Nm ["pair","names"] _ by show _=_;kernel_rfl) 1) (by with_unfolding_all rfl)))) (fun _ _ _ _=>(va (show Nm ["pair","names"] _ by show _=_;kernel_rfl) 0)) (by intro _;rfl)) aj)) (sS rfl (by show _=_;kernel_rfl) z_tuple (by show _=_;kernel_rfl) z_zip (Z1 (va j4 1) (Zb (va j4 2))))))),?_⟩
 try dsimp only[bY]
 obtain⟨aa,ys,rfl,asq,ra⟩:=(show Rp K H (.t (env.map pT)) ar from h0).bj
 have la:=ra.length
 rw[List.length_map]at la
 fail "R"
 refine jj (xs:=ys) (fun i σ us Hd=>(∃x,σ=[x,some (.ref ln)])/\Hd=H/\bB K H (((env.take i).filter (fun p=>!decide (p.1∈xs))).map pT) us) ⟨⟨_,rfl⟩,rfl,.nil⟩ ?_ (Nat.le_of_lt (bu (by omega))) ?_ ?_ ?_
 ·rintro i σ us Hd hi ⟨_,_,r1⟩
  rw[r1.length,List.length_map]
  exact Nat.le_trans (List.length_filter_le _ _) (by rw[List.length_take];omega)
 ·rintro i σ us Hd hi ⟨_,rfl,_⟩
  exact asq
 ·rintro i x σ us Hd hi ⟨⟨x0,rfl⟩,rfl,r1⟩
  obtain⟨y,hy,ry⟩:=ra.get' hi
  rw[List.getElem?_map]at hy
  obtain⟨p,hp,rfl⟩:=Option.map_eq_some_iff.mp hy
  have hil:i<env.length:=(List.getElem?_eq_some_iff.mp hp).1
  have ep:env[i]=p:=(List.getElem?_eq_some_iff.mp hp).2
  obtain⟨pa,u1,u2,rfl,psq,g1,g2⟩:=(show Rp K Hd (.t [.s p.1,p.2]) x from ry).t2
  obtain rfl:=g1.aD
  have hor:=om.or hn
  have hfl:=kE xs
  have hf2:jW (.str p.1)=true:=rfl
  fail "R"
  rw[pN]
  have et:(env.take (i+1)).filter (fun p=>!decide (p.1∈xs))=(env.take i).filter (fun p=>!decide (p.1∈xs))++(if p.1∈xs then []else [p]):=by
   rw[List.take_succ_eq_append_getElem hil,List.filter_append,ep]
   by_cases c:p.1∈xs<;>simp[c]
  refine bX (fun c=>?_) (fun c=>?_)
  ·have c':¬p.1∈xs:=by simpa using c
   refine⟨_,rfl,⟨_,rfl⟩,rfl,?_⟩
   rw[et,if_neg c',List.map_append]
   exact r1.append (.one ry)
  ·have c':p.1∈xs:=by simpa using c
   refine⟨⟨_,rfl⟩,rfl,?_⟩
   rw[et,if_pos c',List.append_nil]
   exact r1
 ·rintro σ us Hd ⟨_,rfl,r1⟩ p hp
  rw[la,List.take_length]at r1
  have s1:=ae hp (.lst us)
  have hL:upd Hd p (.lst us) p=some (.lst us):=ah
  fail "R"
  refine .inl ⟨cR.of hL,fun t ht'=>?_⟩
  have s2:=s1.trans (ae ht' (.tup us))
  have hT:upd (upd Hd p (.lst us)) t (.tup us) t=some (.tup us):=ah
  have hn2:=om.same hn s2
  have ht2:=om.same ht s2
  have r2:=r.same s2
  have r3:=r1.same s2
  generalize upd (upd Hd p (.lst us)) t (.tup us)=H2 at s2 hT hn2 ht2 r2 r3⊢
  fail "R"
  intro q tss H3 zo hq hq3
  have zp:=qV hl zo r2
  have hT3:=zo.1 _ _ hT
  have lz:=zo.2.1
  have lu:=r3.length
  rw[List.length_map]at lz lu
  have lf:=List.length_filter_le (fun p:Str×T=>!decide (p.1∈xs)) env
  have hz9:us.length+(tss.map V.ref).length<=sizeLine:=by rw[List.length_map];exact fX (by omega)
  fail "R"
  intro p9 H9 s9 q9
  refine k H9 _ (s2.trans (zo.1.trans s9)) (Rp.t q9 ?_)
  unfold b9
  rw[List.map_append]
  exact((r3.same zo.1).append zp).same s9
end
noncomputable def qW:List Str:=["+","-","*",":","<","="]
noncomputable def lF(s:Str)(a b:Int):Int :=
 if s="+" then(a+b) % 1000000 else if s="-" then(a-b) % 1000000 else if s="*" then a*b % 1000000 else if s=":" then a % b else if s="<" then(if a<b then 1 else 0)else(if a=b then 1 else 0)
noncomputable def Nb(n:Int):Prop:=0<=n/\n<1000000
theorem Fg{s:Str}{a b:Int}(ha:Nb a)(hb:Nb b)(h:s=":"->b≠0):Nb (lF s a b):=by
 unfold lF
 unfold Nb at *
 split
 ·exact⟨Int.emod_nonneg _ (by decide),Int.emod_lt_of_pos _ (by decide)⟩
 split
 ·exact⟨Int.emod_nonneg _ (by decide),Int.emod_lt_of_pos _ (by decide)⟩
 split
 ·exact⟨Int.emod_nonneg _ (by decide),Int.emod_lt_of_pos _ (by decide)⟩
 split
 ·rename_i e
  have:=h e
  have h1:=Int.emod_nonneg a this
  have h2:=Int.emod_lt_of_pos a (show 0<b by omega)
  omega
 split
 ·split<;>omega
 ·split<;>omega
inductive Nl:T->Prop
 |num {x:Int}:Nb x->Nl (aZ x)
 |left {k:Nat}:Nl (aG k)
inductive uQ:T->WS->WS->Prop
 |mk {n:Int}{ar:T}{st:WS}:uQ (.t [.s "gap",.i n,ar]) st (st.write (.t [.s "gap",.i n,ar]))
inductive uR:T->WS->WS->Prop
 |fault {a:T}{st:WS}:uR (.t [.s "op",.s ":",a,aZ 0]) st st.fail
 |left {s:Str}{i:Nat}{b:T}{st:WS}:Nl b->(s=":"->b≠aZ 0)->uR (.t [.s "op",.s s,aG i,b]) st (st.write (.t [.s "op",.s s,aG i,b]))
 |right {s:Str}{x:Int}{k:Nat}{st:WS}:uR (.t [.s "op",.s s,aZ x,aG k]) st (st.write (.t [.s "op",.s s,aZ x,aG k]))
 |mk {s:Str}{x y:Int}{st:WS}:s∈qW->Nb x->Nb y->(s=":"->y≠0)->st.many<200->uR (.t [.s "op",.s s,aZ x,aZ y]) st (st.one.tell (aZ (lF s x y)))
inductive m8:T->WS->WS->Prop
 |left {a:T}{k:Nat}{st:WS}:m8 (.t [.s "more",a,aG k]) st (st.write (.t [.s "more",a,aG k]))
 |mk {a:T}{ts:List T}{st:WS}:st.many<200->ts.length<900->m8 (.t [.s "more",a,bD ts]) st (st.one.tell (bD (a::ts)))
inductive gp:T->WS->WS->Prop
 |left {f:Str}{k:Nat}{st:WS}:f="first"\/f="others"->gp (.t [.s f,aG k]) st (st.write (.t [.s f,aG k]))
 |fault {f:Str}{st:WS}:f="first"\/f="others"->gp (.t [.s f,bD []]) st st.fail
 |first {t:T}{ts:List T}{st:WS}:st.many<200->ts.length<900->gp (.t [.s "first",bD (t::ts)]) st (st.one.tell t)
 |others {t:T}{ts:List T}{st:WS}:st.many<200->ts.length<900->gp (.t [.s "others",bD (t::ts)]) st (st.one.tell (bD ts))
inductive m9:T->WS->WS->Prop
 |left {k:Nat}{st:WS}:m9 (.t [.s "long",aG k]) st (st.write (.t [.s "long",aG k]))
 |mk {ts:List T}{st:WS}:st.many<200->ts.length<900->m9 (.t [.s "long",bD ts]) st (st.one.tell (aZ ts.length))
noncomputable abbrev Cv:=Str×List Str×T
noncomputable def Fi(a:Cv):T:=.t [.s a.1,.t (a.2.1.map .s),a.2.2]
noncomputable def wL:List Cv->Str->Option (List Str×T)
 | [],_=>none
 |a::r,x=>(wL r x).or (if a.1=x then some a.2 else none)
inductive kF:T->WS->WS->Prop
 |left {k:Nat}{arms ar:T}{st:WS}:kF (.t [.s "match",aG k,arms,ar]) st (st.write (.t [.s "match",aG k,arms,ar]))
 |mk {t:Str}{ts:List T}{arms:List Cv}{env:Env}{ns:List Str}{k:T}{st:WS}:st.many<200->wL arms t=some (ns,k)->ns.length=ts.length->env.length<=900->ns.length<=900->arms.length<=900 ->
   kF (.t [.s "match",jF t ts,.t (arms.map Fi),dh env]) st (st.one.go k (dh (b9 env ns ts)))
inductive zx:T->WS->WS->Prop
 |left {k:Nat}{b c ar:T}{st:WS}:zx (.t [.s "if",aG k,b,c,ar]) st (st.write (.t [.s "if",aG k,b,c,ar]))
 |mk {x:Int}{b c ar:T}{st:WS}:st.many<200->zx (.t [.s "if",aZ x,b,c,ar]) st (st.one.go (if x=0 then c else b) ar)
noncomputable def fO(a:T)(x y:Str)(b c ar:T):T:=.t [.s "fold",a,.s x,.s y,b,c,ar]
inductive ng:T->WS->WS->Prop
 |left {k:Nat}{x y:Str}{b c ar:T}{st:WS}:ng (fO (aG k) x y b c ar) st (st.write (fO (aG k) x y b c ar))
 |mk {ts:List T}{x y:Str}{b c ar:T}{st:WS}:ng (fO (bD ts) x y b c ar) st ((st.tell b).wait (jb (fO (bD ts) x y b c ar) 0))
inductive yh(r:T) (st st':WS):Prop
 |gap (h:uQ r st st')
 |op (h:uR r st st')
 |more (h:m8 r st st')
 |first (h:gp r st st')
 |long (h:m9 r st st')
 |mat (h:kF r st st')
 |ife (h:zx r st st')
 |fold (h:ng r st st')
noncomputable def pO(R:T->WS->WS->Prop)(K:PySem.W.Frag)(C:Addr):Sp:=fun vs H Q _=>∃(H0:Hp) (w:Addr) (a:WA) (st st':WS) (v:V) (r:T),vs=[.ref w,v]/\jE K C H0 w a H st/\Rp K H r v/\Bd st/\R r st st'/\WK K C H0 w a H st' (Q .eW)
inductive Th:T->Prop
 |num {x:Int}:Th (aZ x)
 |row {ts:List T}:Th (bD ts)
 |tag {t:Str}{ts:List T}:Th (jF t ts)
noncomputable def gz(K:PySem.W.Frag):Sp:=fun vs H Q _=>∃(v:V),vs=[v]/\((∃k:Nat,Rp K H (aG k) v/\Q (.bl true) H)\/∃t:T,Rp K H t v/\Th t/\Q (.bl false) H)
noncomputable def Eh:Sp:=fun vs H Q _=>∃(s:Str) (a b:Int),vs=[.str s,.int a,.int b]/\s∈qW/\Nb a/\Nb b/\(s=":"->b≠0)/\Q (.int (lF s a b)) H
section
variable {P:Program}{w:World}{K:PySem.W.Frag}{mg:Str->Option Value}{base:Heap}{C:Addr}
theorem wM:Nm ["thing"] (af kA):=by decide +kernel
theorem wN:aM ["thing"] ["thing"] (af kA):=⟨rfl,rfl,rfl,by decide +kernel,rfl,by decide +kernel,by decide +kernel⟩
theorem wO{f:Addr}{fd:FuncData}(F:gJ K "is_left" "is_left" kA f fd):bF P w K mg base dX 1 f fd ["thing"] (gz K):=by
 refine F.ok wN (fun vs H Q E h=>?_) (fun cdv A outer s H vs Q E hr h=>?_)
 ·obtain⟨_,rfl,_⟩:=h
  rfl
 obtain⟨v,rfl,h⟩:=h
 refine⟨_,(Zd (Zm (@gZ _ _ _ _ _ _ _ _ gQ (Z3 ay (va wM 0)) aq (cV _)))),?_⟩
 try dsimp only[bY]
 rcases h with⟨n,hv,k⟩|⟨t,hv,ht,k⟩
 ·obtain⟨a,u1,u2,rfl,sq,g1,g2⟩:=hv.t2
  obtain rfl:=g1.aD
  fail "R"
  exact k
 ·cases ht with
  |num =>
   obtain⟨a,u1,u2,rfl,sq,g1,g2⟩:=hv.t2
   obtain rfl:=g1.aD
   fail "R"
   rw[show decide (V.str "num"=V.str "left")=false by decide +kernel]
   exact k
  |row =>
   obtain⟨a,u1,u2,rfl,sq,g1,g2⟩:=hv.t2
   obtain rfl:=g1.aD
   fail "R"
   rw[show decide (V.str "row"=V.str "left")=false by decide +kernel]
   exact k
  |tag =>
   obtain⟨a,u1,u2,u3,rfl,sq,g1,g2,_⟩:=hv.t3
   obtain rfl:=g1.aD
   fail "R"
   rw[show decide (V.str "tag"=V.str "left")=false by decide +kernel]
   exact k
theorem bf:Nm ["sign","a","b"] (af iQ):=by decide +kernel
theorem sX:aM ["sign","a","b"] ["sign","a","b"] (af iQ):=⟨rfl,rfl,rfl,by decide +kernel,rfl,by decide +kernel,by decide +kernel⟩
theorem sY{f:Addr}{fd:FuncData}{tkW:Tok}(F:gJ K "op_number" "op_number" iQ f fd)(m_WIDE:mg "WIDE"=some (.int 1000000 tkW)):bF P w K mg base dX 1 f fd ["sign","a","b"] Eh:=by
 refine F.ok sX (fun vs H Q E h=>?_) (fun cdv A outer s H vs Q E hr h=>?_)
 ·obtain⟨_,_,_,rfl,_⟩:=h
  rfl
 obtain⟨s,a,b,rfl,hs,ha,hb,hz,k⟩:=h
 refine⟨_,(Z4 (Zh (Zl (va bf 0) aq) (Zd (Zm (Zp fg (bK eT (va bf 1) (va bf 2)) (iM (v:=.int 1000000) (by show _=_;kernel_rfl) m_WIDE ⟨_,rfl⟩))))) (Z4 (Zh (Zl (va bf 0) aq) (Zd (Zm (Zp fg (bK iY (va bf 1) (va bf 2)) (iM (v:=.int 1000000) (by show _=_;kernel_rfl) m_WIDE ⟨_,rfl⟩))))) (Z4 (Zh (Zl (va bf 0) aq) (Zd (Zm (Zp fg (bK fU (va bf 1) (va bf 2)) (iM (v:=.int 1000000) (by show _=_;kernel_rfl) m_WIDE ⟨_,rfl⟩))))) (Z4 (Zh (Zl (va bf 0) aq) (Zd (Zm (bK fg (va bf 1) (va bf 2))))) (Z4 (Zh (Zl (va bf 0) aq) (Zd (Zm (@jg _ _ _ _ _ _ _ _ (cM jP (va bf 1) (va bf 2) (cV _)) ak ak)))) (Zd (Zm (@jg _ _ _ _ _ _ _ _ (Zl (va bf 1) (va bf 2)) ak ak)))))))),?_⟩
 try dsimp only[bY]
 have ha1:-2 ^ 64<a/\a<2 ^ 64:=by unfold Nb at ha;omega
 unfold qW at hs
 simp only[List.mem_cons,List.not_mem_nil,or_false]at hs
 rcases hs with rfl|rfl|rfl|rfl|rfl|rfl
 ·fail "R"
  exact k
 ·fail "R"
  exact k
 ·fail "R"
  exact k
 ·have hb0:0<b:=by have:=hz rfl;unfold Nb at hb;omega
  fail "R"
  exact k
 ·fail "R"
  have e:lF "<" a b=if a<b then 1 else 0:=by kernel_rfl
  rw[e]at k
  refine bX (fun c=>?_) (fun c=>?_)
  ·rw[if_pos (of_decide_eq_true c)]at k;exact k
  ·rw[if_neg (fun z=>c (decide_eq_true z))]at k;exact k
 ·fail "R"
  have e:lF "=" a b=if a=b then 1 else 0:=by kernel_rfl
  rw[e]at k
  refine bX (fun c=>?_) (fun c=>?_)
  ·have c':a=b:=by have:=of_decide_eq_true c;injection this
   rw[if_pos c']at k;exact k
  ·have c':¬a=b:=fun z=>c (decide_eq_true (by rw[z]))
   rw[if_neg c']at k;exact k
variable {gT gO gI gL gN gW:Addr}{tfd ofd ifd lfd nfd wfd:FuncData}
theorem qX:Nm ["work","row"] (af l9):=by decide +kernel
theorem zy:aM ["work","row"] ["work","row"] (af l9):=⟨rfl,rfl,rfl,by decide +kernel,rfl,by decide +kernel,by decide +kernel⟩
theorem zz{f:Addr}{fd:FuncData}(F:gJ K "do_gap" "do_gap" l9 f fd)(mWrite:dc P w K mg base C "write" 2 ["self","row"] (ig K C) gW wfd):bF P w K mg base dX 3 f fd ["work","row"] (pO uQ K C):=by
 refine F.ok zy (fun vs H Q E h=>?_) (fun cdv A outer s H vs Q E hr h=>?_)
 ·obtain⟨_,_,_,_,_,_,_,rfl,_⟩:=h
  rfl
 obtain⟨H0,o,a,st,st',v,r,rfl,hw,hv,hb,h,k⟩:=h
 refine⟨_,(Zd (Zk (Z5 (va qX 0) mWrite (Zb (va qX 1))))),?_⟩
 try dsimp only[bY]
 cases h
 have hi:=hw.ins
 have b1:=hb.t
 have b2:=hb.r
 fail "R"
 exact k
theorem Bb{x y:Int}(h:aZ x=aZ y):x=y:=by
 unfold aZ at h
 injection h with h;injection h with _ h;injection h with h;injection h
theorem cX:Nm ["work","row","form","sign","a","b"] (af mh):=by decide +kernel
theorem mG:Lm ["work","row","form","sign","a","b"] (af mh):=by decide +kernel
theorem j5:aM ["work","row","form","sign","a","b"] ["work","row"] (af mh):=⟨rfl,rfl,rfl,by decide +kernel,rfl,by decide +kernel,by decide +kernel⟩
theorem Bc{f:Addr}{fd:FuncData}(F:gJ K "do_op" "do_op" mh f fd)(N:sU K C)(IL:bG P w K mg base "is_left" 1 ["thing"] (gz K) gL lfd)(ON:bG P w K mg base "op_number" 1 ["sign","a","b"] Eh gN nfd)
  (mTell:dc P w K mg base C "tell" 1 ["self","thing"] (jG K C) gT tfd) (mOne:dc P w K mg base C "do_one" 1 ["self"] (ie K C) gO ofd) (mWrite:dc P w K mg base C "write" 2 ["self","row"] (ig K C) gW wfd):bF P w K mg base dX 3 f fd ["work","row"] (pO uR K C):=by
 refine F.ok j5 (fun vs H Q E h=>?_) (fun cdv A outer s H vs Q E hr h=>?_)
 ·obtain⟨_,_,_,_,_,_,_,rfl,_⟩:=h
  rfl
 obtain⟨H0,o,a,st,st',v,r,rfl,hw,hv,hb,h,k⟩:=h
 refine⟨_,(Z4 (Zi (va cX 1) (Zf (4) (Ze (ga j5.nd mG 2) (Ze (ga j5.nd mG 3) (Ze (ga j5.nd mG 4) (aQ (ga j5.nd mG 5) bh)))))) (Zd (@dU _ _ _ _ _ _ _ _ (PW.pt (@jx _ _ _ _ _ _ _ (Zl (va cX 3) aq) (@iN _ _ _ _ (Zn (wu hr.AH) (va cX 5) (Z6 (cE aq (Zb ak))))))) (Zd (jA (va cX 0) zY rfl)) (Zd (@dU _ _ _ _ _ _ _ _ (PW.pt (@Gz _ _ _ _ _ _ _ (@cW _ _ _ (Z0 IL (Zb (va cX 4))) (fun _=>rfl)) (@ED _ _ _ _ (@cW _ _ _ (Z0 IL (Zb (va cX 5))) (fun _=>rfl))))) (Zd (Zk (Z5 (va cX 0) mWrite (Zb (va cX 1))))) (Z4 (Zk (gr (va cX 0) mOne.c mOne.m mOne.ok (hr.mono (by omega)) mOne.bd .nil iP)) (Zd (Zk (Z5 (va cX 0) mTell (Z1 (Z6 (Z1 aq (Z1 (Z0 ON (Z1 (va cX 3) (Z1 (Z3 ay (va cX 4)) (Z1 (Z3 ay (va cX 5)) aj)))) aj))) aj)))))))))),?_⟩
 try dsimp only[bY]
 have hi:=hw.ins
 have hc:=N.c
 have hn:=N.failed
 have hfl:=wK a st
 have b1:=hb.t
 have b2:=hb.r
 cases h with
 |fault =>
  obtain⟨ra,u1,u2,u3,u4,rfl,sq,g1,g2,g3,g4⟩:=hv.t4
  obtain rfl:=g1.aD
  obtain rfl:=g2.aD
  fail "R"
  intro p hp
  have sp:=ae hp (.tup [.str "num",.int 0])
  have r4:=g4.kt (Kt.same sp)
  have r5:Rp K (upd H p (.tup [.str "num",.int 0])) (aZ 0) (.ref p):=Rp.new (K:=K) hp (xs:=[.s "num",.i 0]) (.cons .s (.one .i))
  have dp:(aZ 0).dep<=150:=by simp[aZ,T.dep,T.cA]
  obtain⟨w1,k1,o1⟩:=hw.ext sp
  have hi1:=w1.ins
  fail "R"
  rw[pK a st true]
  obtain⟨w2,k2,o2⟩:=w1.Fe (st':={st with failed:=true}) rfl rfl rfl
  exact k _ w2 (k1.trans k2) (o1.trans o2)
 |@left s i b _ hb2 hne =>
  have hv':=hv
  obtain⟨ra,u1,u2,u3,u4,rfl,sq,g1,g2,g3,g4⟩:=hv.t4
  obtain rfl:=g1.aD
  obtain rfl:=g2.aD
  fail "R"
  refine bX (fun c=>?_) (fun c=>?_)
  ·have c1:s=":":=by have:=of_decide_eq_true c;injection this
   clear c
   fail "R"
   intro p hp
   have sp:=ae hp (.tup [.str "num",.int 0])
   have r4:=g4.kt (Kt.same sp)
   have r5:Rp K (upd H p (.tup [.str "num",.int 0])) (aZ 0) (.ref p):=Rp.new (K:=K) hp (xs:=[.s "num",.i 0]) (.cons .s (.one .i))
   have dp:b.dep<=150:=by cases hb2<;>simp[aZ,aG,T.dep,T.cA]
   fail "R"
   obtain⟨w1,k1,o1⟩:=hw.ext sp
   have hi1:=w1.ins
   have q3:=g3.kt k1
   have hv2:=hv'.kt k1
   refine bX (fun c=>absurd (of_decide_eq_true c) (hne c1)) (fun c=>?_)
   clear c
   fail "O"
   intro H2 w2 k2 o2
   exact k H2 w2 (k1.trans k2) (o1.trans o2)
  ·fail "O"
   exact k
 |@right s x i _ =>
  have hv':=hv
  have th:Th (aZ x):=.num
  obtain⟨ra,u1,u2,u3,u4,rfl,sq,g1,g2,g3,g4⟩:=hv.t4
  obtain rfl:=g1.aD
  obtain rfl:=g2.aD
  fail "R"
  refine bX (fun c=>?_) (fun c=>?_)
  ·have c1:s=":":=by have:=of_decide_eq_true c;injection this
   clear c
   fail "R"
   intro p hp
   have sp:=ae hp (.tup [.str "num",.int 0])
   have r4:=g4.kt (Kt.same sp)
   have r5:Rp K (upd H p (.tup [.str "num",.int 0])) (aZ 0) (.ref p):=Rp.new (K:=K) hp (xs:=[.s "num",.i 0]) (.cons .s (.one .i))
   have dp:(aG i).dep<=150:=by simp[aG,T.dep,T.cA]
   fail "R"
   obtain⟨w1,k1,o1⟩:=hw.ext sp
   have hi1:=w1.ins
   have q3:=g3.kt k1
   have hv2:=hv'.kt k1
   fail "O"
   intro H2 w2 k2 o2
   exact k H2 w2 (k1.trans k2) (o1.trans o2)
  ·fail "O"
   exact k
 |@mk s x y _ hs hx hy hz hm =>
  have hv':=hv
  have th:Th (aZ x):=.num
  have th2:Th (aZ y):=.num
  obtain⟨ra,u1,u2,u3,u4,rfl,sq,g1,g2,g3,g4⟩:=hv.t4
  obtain rfl:=g1.aD
  obtain rfl:=g2.aD
  obtain⟨a3,b3,c3,rfl,sq3,e3,f3⟩:=id g3.t2
  obtain rfl:=e3.aD
  obtain rfl:=f3.dj
  obtain⟨a4,b4,c4,rfl,sq4,e4,f4⟩:=id g4.t2
  obtain rfl:=e4.aD
  obtain rfl:=f4.dj
  fail "R"
  refine bX (fun c=>?_) (fun c=>?_)
  ·have c1:s=":":=by have:=of_decide_eq_true c;injection this
   clear c
   fail "R"
   intro p hp
   have sp:=ae hp (.tup [.str "num",.int 0])
   have r4:=g4.kt (Kt.same sp)
   have r5:Rp K (upd H p (.tup [.str "num",.int 0])) (aZ 0) (.ref p):=Rp.new (K:=K) hp (xs:=[.s "num",.i 0]) (.cons .s (.one .i))
   have dp:(aZ y).dep<=150:=by simp[aZ,T.dep,T.cA]
   fail "R"
   obtain⟨w1,k1,o1⟩:=hw.ext sp
   have hi1:=w1.ins
   refine bX (fun c=>absurd (Bb (of_decide_eq_true c)) (hz c1)) (fun c=>?_)
   clear c
   have q3:=g3.kt k1
   have q4:=g4.kt k1
   have s3:=sq3.kt k1
   have s4:=sq4.kt k1
   fail "O"
   intro H2 w2 k2 o2
   have s5:=s3.kt k2
   have hi2:=w2.ins
   have s6:=s4.kt k2
   fail "R"
   intro p2 hp2
   obtain⟨w3,k3,o3⟩:=w2.ext (ae hp2 (.tup [.str "num",.int (lF s x y)]))
   have r9:Rp K (upd H2 p2 (.tup [.str "num",.int (lF s x y)])) (aZ (lF s x y)) (.ref p2):=Rp.new (K:=K) hp2 (xs:=[.s "num",.i (lF s x y)]) (.cons .s (.one .i))
   have b3:st.one.told.length<1000:=by show st.told.length<1000;omega
   fail "R"
   intro H4 w4 k4 o4
   exact k H4 w4 (k1.trans (k2.trans (k3.trans k4))) (o1.trans (o2.trans (o3.trans o4)))
  ·fail "O"
   intro H2 w2 k2 o2
   have s5:=sq3.kt k2
   have hi2:=w2.ins
   have s6:=sq4.kt k2
   fail "R"
   intro p2 hp2
   obtain⟨w3,k3,o3⟩:=w2.ext (ae hp2 (.tup [.str "num",.int (lF s x y)]))
   have r9:Rp K (upd H2 p2 (.tup [.str "num",.int (lF s x y)])) (aZ (lF s x y)) (.ref p2):=Rp.new (K:=K) hp2 (xs:=[.s "num",.i (lF s x y)]) (.cons .s (.one .i))
   have b3:st.one.told.length<1000:=by show st.told.length<1000;omega
   fail "R"
   intro H4 w4 k4 o4
   exact k H4 w4 (k2.trans (k3.trans k4)) (o2.trans (o3.trans o4))
end
section
variable {P:Program}{w:World}{K:PySem.W.Frag}{mg:Str->Option Value}{base:Heap}{C:Addr}
variable {gT gO gI gL gN gW gB:Addr}{tfd ofd ifd lfd nfd wfd bfd:FuncData}
theorem Hu(y:V)(q:List V):HT.fE (y::q).length 0 (some 1)=1:=by
 unfold HT.fE
 simp
theorem Jg(y:V)(q:List V):jV (y::q) (some 1) none=q:=by
 unfold jV
 rw[Hu]
 show List.take ((y::q).length-1) q=q
 rw[List.length_cons,Nat.add_sub_cancel,List.take_length]
theorem ee:Nm ["work","row","form","a","b"] (af jk):=by decide +kernel
theorem lG:Lm ["work","row","form","a","b"] (af jk):=by decide +kernel
theorem jH:aM ["work","row","form","a","b"] ["work","row"] (af jk):=⟨rfl,rfl,rfl,by decide +kernel,rfl,by decide +kernel,by decide +kernel⟩
theorem wQ{f:Addr}{fd:FuncData}(F:gJ K "do_more" "do_more" jk f fd)(N:sU K C)(IL:bG P w K mg base "is_left" 1 ["thing"] (gz K) gL lfd)
  (mTell:dc P w K mg base C "tell" 1 ["self","thing"] (jG K C) gT tfd) (mOne:dc P w K mg base C "do_one" 1 ["self"] (ie K C) gO ofd) (mWrite:dc P w K mg base C "write" 2 ["self","row"] (ig K C) gW wfd):bF P w K mg base dX 3 f fd ["work","row"] (pO m8 K C):=by
 refine F.ok jH (fun vs H Q E h=>?_) (fun cdv A outer s H vs Q E hr h=>?_)
 ·obtain⟨_,_,_,_,_,_,_,rfl,_⟩:=h
  rfl
 obtain⟨H0,o,a,st,st',v,r,rfl,hw,hv,hb,h,k⟩:=h
 refine⟨_,(Z4 (Zi (va ee 1) (Zf (3) (Ze (ga jH.nd lG 2) (Ze (ga jH.nd lG 3) (aQ (ga jH.nd lG 4) bh))))) (Zd (@dU _ _ _ _ _ _ _ _ (@cW _ _ _ (Z0 IL (Zb (va ee 4))) (fun _=>rfl)) (Zd (Zk (Z5 (va ee 0) mWrite (Zb (va ee 1))))) (Z4 (Zk (gr (va ee 0) mOne.c mOne.m mOne.ok (hr.mono (by omega)) mOne.bd .nil iP)) (Zd (Zk (Z5 (va ee 0) mTell (Z1 (Z6 (Z1 aq (Z1 (Zp jt (Z6 (Zb (va ee 3))) (Z3 ay (va ee 4))) aj))) aj)))))))),?_⟩
 try dsimp only[bY]
 have hi:=hw.ins
 have b1:=hb.t
 have b2:=hb.r
 cases h with
 |@left x i _ =>
  have hv':=hv
  obtain⟨ra,u1,u2,u3,rfl,sq,g1,g2,g3⟩:=hv.t3
  obtain rfl:=g1.aD
  fail "O"
  exact k
 |@mk x ts _ hm hl =>
  have th:Th (bD ts):=.row
  obtain⟨ra,u1,u2,u3,rfl,sq,g1,g2,g3⟩:=hv.t3
  obtain rfl:=g1.aD
  obtain⟨a3,b3,c3,rfl,sq3,e3,f3⟩:=id g3.t2
  obtain rfl:=e3.aD
  obtain⟨a4,ys,rfl,sq4,r4⟩:=(show Rp K H (.t ts) c3 from f3).bj
  have ly:=r4.length
  fail "O"
  intro H2 w2 k2 o2
  have hi2:=w2.ins
  fail "R"
  intro p hp
  have sp:=ae hp (.tup [u2])
  have kp:=k2.trans (Kt.same sp)
  have s3:=sq3.kt kp
  have s4:=sq4.kt kp
  have hz:([u2]:List V).length+ys.length<=sizeLine:=by rw[List.length_singleton];exact fX (by omega)
  fail "R"
  intro p3 H3 s33 q3
  fail "R"
  intro p4 hp4
  have sa:=s33.trans (ae hp4 (.tup [.str "row",.ref p3]))
  obtain⟨w4,k4,o4⟩:=w2.ext (sp.trans sa)
  have hi4:=w4.ins
  have b3':st.one.told.length<1000:=by show st.told.length<1000;omega
  have rr:Rp K _ (bD (x::ts)) (.ref p4):=Rp.new (K:=K) hp4 (xs:=[.s "row",.t (x::ts)]) (.cons .s (.one (Rp.t q3 ((bB.cons g2 r4).kt (kp.trans (Kt.same s33))))))
  fail "R"
  intro H5 w5 k5 o5
  exact k H5 w5 (k2.trans (k4.trans k5)) (o2.trans (o4.trans o5))
theorem bZ:Nm ["work","row","form","a"] (af iE):=by decide +kernel
theorem nF:Lm ["work","row","form","a"] (af iE):=by decide +kernel
theorem j6:aM ["work","row","form","a"] ["work","row"] (af iE):=⟨rfl,rfl,rfl,by decide +kernel,rfl,by decide +kernel,by decide +kernel⟩
theorem uS{f:Addr}{fd:FuncData}(F:gJ K "do_first" "do_first" iE f fd)(N:sU K C)(IL:bG P w K mg base "is_left" 1 ["thing"] (gz K) gL lfd)
  (mTell:dc P w K mg base C "tell" 1 ["self","thing"] (jG K C) gT tfd) (mOne:dc P w K mg base C "do_one" 1 ["self"] (ie K C) gO ofd) (mWrite:dc P w K mg base C "write" 2 ["self","row"] (ig K C) gW wfd):bF P w K mg base dX 3 f fd ["work","row"] (pO gp K C):=by
 refine F.ok j6 (fun vs H Q E h=>?_) (fun cdv A outer s H vs Q E hr h=>?_)
 ·obtain⟨_,_,_,_,_,_,_,rfl,_⟩:=h
  rfl
 obtain⟨H0,o,a,st,st',v,r,rfl,hw,hv,hb,h,k⟩:=h
 refine⟨_,(Z4 (Zi (va bZ 1) (Zf (2) (Ze (ga j6.nd nF 2) (aQ (ga j6.nd nF 3) bh)))) (Zd (@dU _ _ _ _ _ _ _ _ (@cW _ _ _ (Z0 IL (Zb (va bZ 3))) (fun _=>rfl)) (Zd (Zk (Z5 (va bZ 0) mWrite (Zb (va bZ 1))))) (Zd (@dU _ _ _ _ _ _ _ _ (@zZ _ _ _ _ (@cW _ _ _ (Z3 ay (va bZ 3)) (fun _=>rfl))) (Zd (jA (va bZ 0) zY rfl)) (Z4 (Zk (gr (va bZ 0) mOne.c mOne.m mOne.ok (hr.mono (by omega)) mOne.bd .nil iP)) (Zd (Zk (Z5 (va bZ 0) mTell (Z1 (@jg _ _ _ _ _ _ _ _ (Zl (va bZ 2) aq) (Zc ay (Z3 ay (va bZ 3)) ak) (Z6 (Z1 aq (Z1 (@iC _ _ _ _ _ _ _ _ _ _ Am (Z3 ay (va bZ 3)) (fF ak) hU) aj)))) aj)))))))))),?_⟩
 try dsimp only[bY]
 have hi:=hw.ins
 have b1:=hb.t
 have b2:=hb.r
 have hc:=N.c
 have hn:=N.failed
 have hfl:=wK a st
 have b3':st.one.told.length<1000:=by show st.told.length<1000;omega
 cases h with
 |left hf =>
  have hv':=hv
  obtain⟨ra,u1,u2,rfl,sq,g1,g2⟩:=hv.t2
  obtain rfl:=g1.aD
  fail "O"
  exact k
 |fault hf =>
  have th:Th (bD []):=.row
  obtain⟨ra,u1,u2,rfl,sq,g1,g3⟩:=hv.t2
  obtain rfl:=g1.aD
  obtain⟨a3,b3,c3,rfl,sq3,e3,f3⟩:=id g3.t2
  obtain rfl:=e3.aD
  obtain⟨a4,ys,rfl,sq4,r4⟩:=(show Rp K H (.t []) c3 from f3).bj
  obtain rfl:=r4.cZ
  fail "O"
  rw[pK a st true]
  obtain⟨w2,k2,o2⟩:=hw.Fe (st':={st with failed:=true}) rfl rfl rfl
  exact k _ w2 k2 o2
 |@first t ts _ hm hl =>
  have th:Th (bD (t::ts)):=.row
  obtain⟨ra,u1,u2,rfl,sq,g1,g3⟩:=hv.t2
  obtain rfl:=g1.aD
  obtain⟨a3,b3,c3,rfl,sq3,e3,f3⟩:=id g3.t2
  obtain rfl:=e3.aD
  obtain⟨a4,ys,rfl,sq4,r4⟩:=(show Rp K H (.t (t::ts)) c3 from f3).bj
  obtain⟨y,q,rfl,ry,rq⟩:=r4.inv
  fail "O"
  intro H2 w2 k2 o2
  have hi2:=w2.ins
  have s3:=sq3.kt k2
  have s4:=sq4.kt k2
  have ry2:=ry.kt k2
  have at_:=Jb y q
  fail "R"
  intro H5 w5 k5 o5
  exact k H5 w5 (k2.trans k5) (o2.trans o5)
 |@others t ts _ hm hl =>
  have th:Th (bD (t::ts)):=.row
  obtain⟨ra,u1,u2,rfl,sq,g1,g3⟩:=hv.t2
  obtain rfl:=g1.aD
  obtain⟨a3,b3,c3,rfl,sq3,e3,f3⟩:=id g3.t2
  obtain rfl:=e3.aD
  obtain⟨a4,ys,rfl,sq4,r4⟩:=(show Rp K H (.t (t::ts)) c3 from f3).bj
  obtain⟨y,q,rfl,ry,rq⟩:=r4.inv
  fail "O"
  intro H2 w2 k2 o2
  have hi2:=w2.ins
  have s3:=sq3.kt k2
  have s4:=sq4.kt k2
  have rq2:=rq.kt k2
  have lq:=rq.length
  have hz:¬(HT.fE (y::q).length 0 (some 1)=0/\HT.fE (y::q).length (y::q).length none=(y::q).length):=fun z=>by
   have:=z.1
   rw[Hu]at this
   cases this
  fail "R"
  intro p hp
  rw[show jV (y::q) (some 1) none=q from Jg y q]
  have sp:=ae hp (.tup q)
  fail "R"
  intro p4 hp4
  obtain⟨w4,k4,o4⟩:=w2.ext (sp.trans (ae hp4 (.tup [.str "row",.ref p])))
  have hi4:=w4.ins
  have rr:Rp K _ (bD ts) (.ref p4):=Rp.new (K:=K) hp4 (xs:=[.s "row",.t ts]) (.cons .s (.one (Rp.new (K:=K) hp rq2)))
  fail "R"
  intro H5 w5 k5 o5
  exact k H5 w5 (k2.trans (k4.trans k5)) (o2.trans (o4.trans o5))
theorem fh:Nm ["work","row","form","a"] (af jl):=by decide +kernel
theorem pQ:Lm ["work","row","form","a"] (af jl):=by decide +kernel
theorem lH:aM ["work","row","form","a"] ["work","row"] (af jl):=⟨rfl,rfl,rfl,by decide +kernel,rfl,by decide +kernel,by decide +kernel⟩
theorem wU{f:Addr}{fd:FuncData}(F:gJ K "do_long" "do_long" jl f fd)(N:sU K C)(IL:bG P w K mg base "is_left" 1 ["thing"] (gz K) gL lfd)
  (mTell:dc P w K mg base C "tell" 1 ["self","thing"] (jG K C) gT tfd) (mOne:dc P w K mg base C "do_one" 1 ["self"] (ie K C) gO ofd) (mWrite:dc P w K mg base C "write" 2 ["self","row"] (ig K C) gW wfd) (z_len:mg "len"=none):bF P w K mg base dX 3 f fd ["work","row"] (pO m9 K C):=by
 refine F.ok lH (fun vs H Q E h=>?_) (fun cdv A outer s H vs Q E hr h=>?_)
 ·obtain⟨_,_,_,_,_,_,_,rfl,_⟩:=h
  rfl
 obtain⟨H0,o,a,st,st',v,r,rfl,hw,hv,hb,h,k⟩:=h
 refine⟨_,(Z4 (Zi (va fh 1) (Zf (2) (Ze (ga lH.nd pQ 2) (aQ (ga lH.nd pQ 3) bh)))) (Zd (@dU _ _ _ _ _ _ _ _ (@cW _ _ _ (Z0 IL (Zb (va fh 3))) (fun _=>rfl)) (Zd (Zk (Z5 (va fh 0) mWrite (Zb (va fh 1))))) (Z4 (Zk (gr (va fh 0) mOne.c mOne.m mOne.ok (hr.mono (by omega)) mOne.bd .nil iP)) (Zd (Zk (Z5 (va fh 0) mTell (Z1 (Z6 (Z1 aq (Z1 (Zg bC (Z1 (Z3 ay (va fh 3)) aj)) aj))) aj)))))))),?_⟩
 try dsimp only[bY]
 have hi:=hw.ins
 have b1:=hb.t
 have b2:=hb.r
 have b3':st.one.told.length<1000:=by show st.told.length<1000;omega
 cases h with
 |left =>
  have hv':=hv
  obtain⟨ra,u1,u2,rfl,sq,g1,g2⟩:=hv.t2
  obtain rfl:=g1.aD
  fail "O"
  exact k
 |@mk ts _ hm hl =>
  have th:Th (bD ts):=.row
  obtain⟨ra,u1,u2,rfl,sq,g1,g3⟩:=hv.t2
  obtain rfl:=g1.aD
  obtain⟨a3,b3,c3,rfl,sq3,e3,f3⟩:=id g3.t2
  obtain rfl:=e3.aD
  obtain⟨a4,ys,rfl,sq4,r4⟩:=(show Rp K H (.t ts) c3 from f3).bj
  have ly:=r4.length
  fail "O"
  intro H2 w2 k2 o2
  have hi2:=w2.ins
  have s3:=sq3.kt k2
  have s4:=sq4.kt k2
  have s4':cR K H2 a4 ys\/bT K H2 a4 ys:=.inr s4
  fail "R"
  intro p2 hp2
  obtain⟨w3,k3,o3⟩:=w2.ext (ae hp2 (.tup [.str "num",.int (ys.length:Int)]))
  have r9:Rp K (upd H2 p2 (.tup [.str "num",.int (ys.length:Int)])) (aZ ts.length) (.ref p2):=by
   rw[←ly]
   exact Rp.new (K:=K) hp2 (xs:=[.s "num",.i (ys.length:Int)]) (.cons .s (.one .i))
  fail "R"
  intro H5 w5 k5 o5
  exact k H5 w5 (k2.trans (k3.trans k5)) (o2.trans (o3.trans o5))
theorem eZ:Nm ["work","row","form","a","b","c","around"] (af mj):=by decide +kernel
theorem j7:Lm ["work","row","form","a","b","c","around"] (af mj):=by decide +kernel
theorem jv:aM ["work","row","form","a","b","c","around"] ["work","row"] (af mj):=⟨rfl,rfl,rfl,by decide +kernel,rfl,by decide +kernel,by decide +kernel⟩
theorem Be{f:Addr}{fd:FuncData}(F:gJ K "do_if" "do_if" mj f fd)(N:sU K C)(IL:bG P w K mg base "is_left" 1 ["thing"] (gz K) gL lfd)
  (mInto:dc P w K mg base C "go_into" 1 ["self","term","around"] (iI K C) gT tfd) (mOne:dc P w K mg base C "do_one" 1 ["self"] (ie K C) gO ofd) (mWrite:dc P w K mg base C "write" 2 ["self","row"] (ig K C) gW wfd):bF P w K mg base dX 3 f fd ["work","row"] (pO zx K C):=by
 refine F.ok jv (fun vs H Q E h=>?_) (fun cdv A outer s H vs Q E hr h=>?_)
 ·obtain⟨_,_,_,_,_,_,_,rfl,_⟩:=h
  rfl
 obtain⟨H0,o,a,st,st',v,r,rfl,hw,hv,hb,h,k⟩:=h
 refine⟨_,(Z4 (Zi (va eZ 1) (Zf (5) (Ze (ga jv.nd j7 2) (Ze (ga jv.nd j7 3) (Ze (ga jv.nd j7 4) (Ze (ga jv.nd j7 5) (aQ (ga jv.nd j7 6) bh))))))) (Zd (@dU _ _ _ _ _ _ _ _ (@cW _ _ _ (Z0 IL (Zb (va eZ 3))) (fun _=>rfl)) (Zd (Zk (Z5 (va eZ 0) mWrite (Zb (va eZ 1))))) (Z4 (Zk (gr (va eZ 0) mOne.c mOne.m mOne.ok (hr.mono (by omega)) mOne.bd .nil iP)) (Zd (Zk (Z5 (va eZ 0) mInto (Z1 (@jg _ _ _ _ _ _ _ _ (Zn gQ (Z3 ay (va eZ 3)) ak) (va eZ 5) (va eZ 4)) (Zb (va eZ 6)))))))))),?_⟩
 try dsimp only[bY]
 have hi:=hw.ins
 have b1:=hb.t
 have b2:=hb.r
 cases h with
 |left =>
  have hv':=hv
  obtain⟨ra,u1,u2,u3,u4,u5,rfl,sq,g1,g2,g3,g4,g5⟩:=hv.t5
  obtain rfl:=g1.aD
  fail "O"
  exact k
 |@mk x b c ar _ hm =>
  have th:Th (aZ x):=.num
  obtain⟨ra,u1,u2,u3,u4,u5,rfl,sq,g1,g2,g3,g4,g5⟩:=hv.t5
  obtain rfl:=g1.aD
  obtain⟨a3,b3,c3,rfl,sq3,e3,f3⟩:=id g2.t2
  obtain rfl:=e3.aD
  obtain rfl:=f3.dj
  fail "O"
  intro H2 w2 k2 o2
  have hi2:=w2.ins
  have s5:=sq3.kt k2
  have r3:=g3.kt k2
  have r4:=g4.kt k2
  have r5:=g5.kt k2
  have b3':st.one.waiting.length<1000:=by show st.waiting.length<1000;have:=hb.w;omega
  fail "R"
  refine bX (fun c=>?_) (fun c=>?_)
  ·have c2:x=0:=by have:=of_decide_eq_true c;injection this
   rw[if_pos c2]at k
   clear c
   fail "R"
   intro H4 w4 k4 o4
   exact k H4 w4 (k2.trans k4) (o2.trans o4)
  ·have c2:¬x=0:=fun z=>c (decide_eq_true (by rw[z]))
   rw[if_neg c2]at k
   clear c
   fail "R"
   intro H4 w4 k4 o4
   exact k H4 w4 (k2.trans k4) (o2.trans o4)
end
end G27
namespace L2
open PySem PySem.Spec PyProof.Rows
section
variable {X:Cx}
theorem Bf{y:Str}{posn posa:Pos}{gg:TG}{kx vx iter tg:Expr}{ifs:List Expr}{scope:Scope}{pos:Pos}{wi:TI}{g:TG}{tt:TT}{tk tv:TE}(own:List Str)(fr:List Nat)(hc:X.calm=true)
  (hkind:scope.kind=.function) (hcell:∀x∈scope.names,x.2≠.cell) (hnames:∀x∈scope.names,x.2=.local->scope.names.lookup x.1=some .local)
  (hfr:∀x∈scope.names,x.2=.free->X.env.scope.names.lookup x.1=some .cell\/X.env.scope.names.lookup x.1=some .free)
  (hin:∀j∈fr,scope.names.lookup (X.N.getD j Str.empty)=some .free)
  (hi:PI X tg iter wi) (hg:∀fp C s H,PG (aH X scope (own++fr.map fun j=>X.N.getD j Str.empty) fp C s H) tg g)
  (ht:∀fp C s H,qm (aH X scope (own++fr.map fun j=>X.N.getD j Str.empty) fp C s H) ifs tt)
  (hk:∀fp C s H,PE (aH X scope (own++fr.map fun j=>X.N.getD j Str.empty) fp C s H) kx tk)
  (he:∀fp C s H,PE (aH X scope (own++fr.map fun j=>X.N.getD j Str.empty) fp C s H) vx tv)
  (hgg:PG X (.Name y posn) gg) (hsw:swapsWith (.DictComp kx vx [⟨tg,iter,ifs,0⟩] scope pos) (some (.Name y posn)) posa.line X.env=pure true)
  (hs:∀x,foldedSetIterable iter X.env x=pure x:=by intro _;rfl):PS X (.Assign [.Name y posn] (.DictComp kx vx [⟨tg,iter,ifs,0⟩] scope pos) posa) (nK (sQ own.length fr wi g tt tk tv) gg):=by
 intro pins s σ H D0 I h
 rw[exec_Assign_Name_used _ _ _ _ hsw,arm_evalThenUse_DictComp]
 refine wpAny_bind (wpAny_standAt (wpAny_bind (wpAny_bind ?_)))
 have hfree:∀x∈scope.names,x.2=.free->∃c,X.env.cells.lookup x.1=some c:=fun x hx e=>I.ok.has x.1 (hfr x hx e)
 refine bP (wpAny_comprehension_free (use:=some (assign (.Name y posn) X.env)) (Q:=fun _ s'=>SP X pins D0 .next s') rfl hs (gi hfree) hkind hnames ?_) fun _ _ q=>wpAny_pure (wpAny_pure q)
 refine bP (hi pins s σ H _ I h) fun v s1 h1=>bP h1 fun itv s2 h2=>?_
 obtain⟨it,fp,tn,J,H2,e,I2,T,st2,f2,W,⟨m0,w0⟩,turn⟩:=h2
 subst e
 have hfo:∀b∈fp,b<s2.heap.objs.size:=fun b hb=>by obtain⟨o,e,_⟩:=T.obj 0 _ st2 b hb;exact Heap.lt_size e
 refine wpAny_newObj_type (wpAny_newFunctionEnv hcell (by intro y hy;simp at hy) (fun h₁ hns₁ hsb₁=>?_) hkind)
 dsimp only at hns₁ hsb₁⊢
 generalize hH2:s2.heap.push {cls:=.type "dict",dict:=none,data:=.dict #[]}=G2 at hns₁ hsb₁⊢
 have hC:G2.objs.size=s2.heap.objs.size+1:=by rw[←hH2,Heap.size_push]
 have hDC:s2.heap.objs.size≠G2.objs.size:=by rw[hC];exact Nat.ne_of_lt (Nat.lt_succ_self _)
 have hCle:s2.heap.objs.size<=G2.objs.size:=by rw[hC];exact Nat.le_succ _
 have old:∀b o,s2.heap.get? b=some o->h₁.get? b=some o:=fun b o e=>hsb₁.extBut b o (by rw[hC];exact Nat.ne_of_lt (Nat.lt_succ_of_lt (Heap.lt_size e))) (Heap.get?_push_of_some _ (hH2▸Heap.get?_push_of_some _ e))
 have hacc:h₁.DictOf (bx X.prog X.w) s2.heap.objs.size []:=(hH2▸Heap.DictOf.new (knd:=bx X.prog X.w) s2.heap:G2.DictOf (bx X.prog X.w) s2.heap.objs.size []).at fun o e=>hsb₁.extBut _ _ hDC (Heap.get?_push_of_some _ e)
 have I3:Inv (aH X scope (own++fr.map fun j=>X.N.getD j Str.empty) fp G2.objs.size s2 H2) [] (fG own.length fr σ) H2 {s2 with heap:=h₁,toks:=s2.toks+([]:List (Str×Value)).length} :=
  jB I2 hkind hcell hfr hin hCle f2 hfo old hns₁
 have st3:tn 0 h₁:=T.keep 0 _ _ st2 fun b _ o e=>old b o e
 have hDf:s2.heap.objs.size∉fp:=fun hm=>Nat.lt_irrefl _ (hfo _ hm)
 have hDn2:H2 s2.heap.objs.size=none:=I2.hok.fresh (Nat.le_refl _)
 have sub:∀y c,(bA X.env scope.names []).lookup y=some c->X.env.cells.lookup y=some c:=eN _ _ hfree (by intro y c e;simp at e)
 have cellD:∀y c,(bA X.env scope.names []).lookup y=some c->c≠s2.heap.objs.size:=fun y c e=>by
  obtain⟨_,o,ho,_⟩:=I2.cell y c (sub y c e)
  exact Nat.ne_of_lt (Heap.lt_size ho)
 have gH:s2.heap.objs.size∉frs X.stack:=fun z=>by
  rcases List.mem_cons.mp (I2.kW _ z)with e|e
  ·exact absurd I2.lt (by rw[←e];exact Nat.lt_irrefl _)
  ·exact I2.vI (Nat.le_refl _) e
 -- the iterator's records,in the block's context
 have stat:∀{H':Hp}{pl:List (Addr×Obj)},(∀b∈fp,H' b=none)->(∀p∈pl,p.1=s2.heap.objs.size)->∀b∈fp,mT (aH X scope (own++fr.map fun j=>X.N.getD j Str.empty) fp G2.objs.size s2 H2) pl H' b:=fun{H' pl} hn hp b hb=>by
  refine⟨hn b hb,(I3.ok.exf b hb).1,I3.ok.exfs b hb,.inl hb,(I3.ok.exf b hb).2,fun p hpp z=>?_⟩
  have hpp':p∈pl:=by simpa[aH]using hpp
  exact hDf (by rw[←hp p hpp',z];exact hb)
 have pinD:∀{σ':St}{H':Hp}{s':Shared}{o:Obj}{es:Array DictEntry}{n:Nat},Inv (aH X scope (own++fr.map fun j=>X.N.getD j Str.empty) fp G2.objs.size s2 H2) [] σ' H' s'->H' s2.heap.objs.size=none->s'.heap.get? s2.heap.objs.size=some o->o.data=.dict es n ->
   Inv (aH X scope (own++fr.map fun j=>X.N.getD j Str.empty) fp G2.objs.size s2 H2) [(s2.heap.objs.size,o)] σ' H' s':=fun{σ' H' s' o es n} J hn e ed=>J.cD fun p hp=>by
  have e':p=(s2.heap.objs.size,o):=by simpa using hp
  subst e'
  exact⟨e,hn,hDC,gH,fun v z=>by rw[ed]at z;cases z⟩
 have loop:codeAny (model X.prog X.w) X.A (.compLoop (.DictComp kx vx [⟨tg,iter,ifs,0⟩] scope pos) 0 (.ref it) (.ref s2.heap.objs.size) (compEnvC scope (bA X.env scope.names []) G2.objs.size X.env))
   (compPost (model X.prog X.w) X.A X.xe (some (assign (.Name y posn) X.env)) (fun _ s'=>SP X pins D0 .next s') (.ref s2.heap.objs.size) G2.objs.size) {s2 with heap:=h₁,toks:=s2.toks+([]:List (Str×Value)).length}:=by
  refine fT (E:=fun _ _=>False) (fun n s'=>∃i σ' H' kvs rs,Inv (aH X scope (own++fr.map fun j=>X.N.getD j Str.empty) fp G2.objs.size s2 H2) [] σ' H' s'/\tn i s'.heap/\(∀b∈fp,H' b=none)/\H' s2.heap.objs.size=none/\s'.heap.DictOf (bx X.prog X.w) s2.heap.objs.size rs/\KV kvs rs/\W i n σ' kvs H')
   ?_ (fun _ _ z=>z.elim) m0 ⟨0,_,H2,[],[],I3,st3,fun b hb=>(f2 b hb).1,hDn2,hacc,.nil,w0⟩
  rintro n s3 ⟨i,σ3,H3,kvs,rs,J3,st3,fr3,dn3,dd3,rv,w3⟩
  obtain⟨od,oes,oep,pl3,oex,odt,oks,opr,ond⟩:=id dd3
  have J3':=pinD J3 dn3 pl3 odt
  have hpins:∀p∈[(s2.heap.objs.size,od)],p.1=s2.heap.objs.size:=fun p hp=>by
   have e':p=(s2.heap.objs.size,od):=by simpa using hp
   rw[e']
  rcases turn i n σ3 kvs H3 w3 with⟨stop,hz,q⟩|⟨go,hz,N,hN,step⟩
  ·refine bP (T.done (aH X scope (own++fr.map fun j=>X.N.getD j Str.empty) fp G2.objs.size s2 H2) rfl rfl rfl hc i _ s3 σ3 H3 (fun _ _=>False) J3' (stat fr3 hpins) st3 stop) fun r s4 ⟨hr,J4⟩=>?_
   subst hr
   obtain⟨m4,hn4,_⟩:=id J4.loc
   have e4:s4.heap.get? s2.heap.objs.size=some od:=(J4.pin (s2.heap.objs.size,od) (List.mem_append_right _ (by simp))).1
   obtain⟨oC,es,ep,eC,dC,kC,fC⟩:=hn4
   have I4:Inv X pins σ (upd H3 s2.heap.objs.size (.dK kvs)) s4:=nB (h'':=s4.heap) I2 f2 J4 hCle (Nat.le_refl _) hDC dn3 ⟨od,oes,oep,e4,oex,odt,oks,opr,ond⟩ rv hz ⟨rfl,fun _ _=>rfl⟩
   have cL:G2.objs.size≠X.env.locals:=fun z=>absurd I2.lt (by rw[←z];exact Nat.not_lt.mpr hCle)
   have I5:Inv X (pins++[(G2.objs.size,oC)]) σ (upd H3 s2.heap.objs.size (.dK kvs)) s4:=I4.cD fun p hp=>by
    rcases List.mem_append.mp hp with z|z
    ·exact I4.pin p (List.mem_append_right _ z)
    ·have z:p=(G2.objs.size,oC):=by simpa using z
     subst z
     exact⟨eC,by rw[au hDC.symm];exact J4.free,cL,I2.vI hCle,fun v zv=>by rw[dC]at zv;cases zv⟩
   show wpAny _ _ (assign (.Name y posn) X.env (.ref s2.heap.objs.size)) _ _ _
   refine bP (hgg _ s4 σ _ (.ref s2.heap.objs.size) _ _ I5 rfl (q _ dn3)) fun _ s5 ⟨σ5,H5,I6,q6⟩=>?_
   have pC:=I6.pin (G2.objs.size,oC) (List.mem_append_right _ (List.mem_append_right _ (by simp)))
   refine⟨m4,⟨oC,es,ep,pC.1,dC,kC,fC⟩,fun h' hs'=>?_⟩
   have I7:Inv X pins σ5 H5 s5:=I6.cD fun p hp=>I6.pin p (List.mem_append_right _ (List.mem_append_left _ hp))
   refine⟨σ5,H5,I7.turned (t':=s5.toks) (it:=G2.objs.size) (fun b o hb e=>(hs'.2 b hb).trans e) pC.2.1 cL (.inr (Nat.le_trans I2.sz hCle)) (fun x c e z=>?_) (fun p hp z=>?_),q6⟩
   ·obtain⟨_,o,ho,_⟩:=I2.cell x c e
    exact absurd (Heap.lt_size ho) (by rw[z];exact Nat.not_lt.mpr hCle)
   ·exact absurd (Heap.lt_size (I2.pin p hp).1) (by rw[z];exact Nat.not_lt.mpr hCle)
  ·refine bP (T.item (aH X scope (own++fr.map fun j=>X.N.getD j Str.empty) fp G2.objs.size s2 H2) rfl rfl rfl hc i _ s3 σ3 H3 (fun _ _=>False) J3' (stat fr3 hpins) st3 go) fun r s4 ⟨u,hr,h4⟩=>?_
   subst hr
   refine bP h4 fun _ s5 ⟨x,H5,J5,r5,y5,st5,fr5⟩=>?_
   have J5':=J5.pinned (stat fr5 hpins) (T.obj _ _ st5)
   refine bP (hg fp _ s2 H2 _ s5 σ3 H5 x u _ J5' r5 (step x H5 y5)) fun _ s6 ⟨σ6,H6,J6,q6⟩=>?_
   refine bP (ht fp _ s2 H2 _ s6 σ6 H6 _ J6 q6) fun ok s7 ⟨H7,J7,q7⟩=>?_
   -- what stood pinned through the turn
   have after:∀{s8:Shared}{H8:Hp},Inv (aH X scope (own++fr.map fun j=>X.N.getD j Str.empty) fp G2.objs.size s2 H2) ([(s2.heap.objs.size,od)]++jU fp s5.heap) σ6 H8 s8 ->
     tn (i+1) s8.heap/\(∀b∈fp,H8 b=none)/\H8 s2.heap.objs.size=none/\s8.heap.get? s2.heap.objs.size=some od:=fun{s8 H8} J8=>by
    refine⟨T.keep _ _ _ st5 fun b hb o e=>(J8.pin (b,o) (List.mem_append_right _ (List.mem_append_right _ (cS hb e)))).1,fun b hb=>?_,?_,?_⟩
    ·obtain⟨o,e,d⟩:=T.obj _ _ st5 b hb
     exact(J8.pin (b,o) (List.mem_append_right _ (List.mem_append_right _ (cS hb e)))).2.1
    ·exact(J8.pin (s2.heap.objs.size,od) (List.mem_append_right _ (List.mem_append_left _ (by simp)))).2.1
    ·exact(J8.pin (s2.heap.objs.size,od) (List.mem_append_right _ (List.mem_append_left _ (by simp)))).1
   cases ok with
   |false =>
    obtain⟨m',hm,w7⟩:=hN _ _ _ q7
    obtain⟨a1,a2,a3,a4⟩:=after J7
    exact⟨m',hm,i+1,σ6,H7,kvs,rs,J7.cD (fun p hp=>absurd hp (by simp)),a1,a2,a3,⟨od,oes,oep,a4,oex,odt,oks,opr,ond⟩,rv,w7⟩
   |true =>
    refine bP (hk fp _ s2 H2 _ s7 σ6 H7 _ J7 q7) fun x s75 ⟨v75,H75,J75,r75,n75⟩=>?_
    refine bP (he fp _ s2 H2 _ s75 σ6 H75 _ J75 n75) fun y s8 ⟨v8,H8,J8,r8,n8⟩=>?_
    obtain⟨key,rfl,n8⟩:=n8
    obtain⟨m',hm,w8⟩:=hN _ _ _ n8
    obtain⟨a1,a2,a3,a4⟩:=after J8
    have J9:Inv (aH X scope (own++fr.map fun j=>X.N.getD j Str.empty) fp G2.objs.size s2 H2) [] σ6 H8 s8:=J8.cD (fun p hp=>absurd hp (by simp))
    have hrs:rs.length<=sizeLine:=by have:=KV.length rv;omega
    refine wpAny_dictSet_pairs (oU r75) (⟨od,oes,oep,a4,oex,odt,oks,opr,ond⟩:s8.heap.DictOf (bx X.prog X.w) s2.heap.objs.size rs) (fun h₅ hl₅ hs₅=>?_) hrs
    exact⟨m',hm,i+1,σ6,H8,putK kvs key v8,stored rs key y,J9.turned (t':=s8.toks+1) (it:=s2.heap.objs.size) (fun b o hb e=>by rw[hs₅.2 b hb];exact e) a3 hDC (.inr (Nat.le_refl _)) cellD (fun p hp=>absurd (show p∈([]:List (Addr×Obj))from hp) (by simp)),
     T.keep _ _ _ a1 fun b hb o e=>(hs₅.2 b (fun z=>hDf (z▸hb))).trans e,a2,a3,hl₅,rv.put key r8,w8⟩
 exact codeAny_compStart_dict loop (T.self X.A 0 _ _ _ st3 loop)
end
theorem zA{X:Cx}{y:Str}{posn posa:Pos}{gg:TG}{kx vx iter tg:Expr}{ifs:List Expr}{scope:Scope}{pos:Pos}{wi:TI}{g:TG}{tt:TT}{tk tv:TE}(sc:Scope)(N0 own:List Str)(fr:List Nat)(hc:X.calm=true)(hsc:X.env.scope=sc)(hN:X.N=N0)
  (ok:j0 scope sc N0 fr=true) (hi:PI X tg iter wi) (hg:∀fp C s H,PG (aH X scope (own++fr.map fun j=>N0.getD j Str.empty) fp C s H) tg g)
  (ht:∀fp C s H,qm (aH X scope (own++fr.map fun j=>N0.getD j Str.empty) fp C s H) ifs tt)
  (hk:∀fp C s H,PE (aH X scope (own++fr.map fun j=>N0.getD j Str.empty) fp C s H) kx tk)
  (he:∀fp C s H,PE (aH X scope (own++fr.map fun j=>N0.getD j Str.empty) fp C s H) vx tv)
  (hgg:PG X (.Name y posn) gg) (hsw:swapsWith (.DictComp kx vx [⟨tg,iter,ifs,0⟩] scope pos) (some (.Name y posn)) posa.line X.env=pure true:=by kernel_rfl)
  (hs:∀x,foldedSetIterable iter X.env x=pure x:=by intro _;rfl):PS X (.Assign [.Name y posn] (.DictComp kx vx [⟨tg,iter,ifs,0⟩] scope pos) posa) (nK (sQ own.length fr wi g tt tk tv) gg):=by
 subst hsc hN
 unfold j0 at ok
 simp only[Bool.and_eq_true,List.all_eq_true,bne_iff_ne,beq_iff_eq,Bool.or_eq_true]at ok
 obtain⟨⟨k1,k2⟩,k3⟩:=ok
 refine Bf own fr hc k1 (fun x hx=>(k2 x hx).1.1) (fun x hx e=>?_) (fun x hx e=>?_) (fun j hj=>k3 j hj) hi hg ht hk he hgg hsw hs
 ·rcases(k2 x hx).1.2 with z|z
  ·exact absurd e z
  ·exact z
 ·rcases(k2 x hx).2 with(z|z)|z
  ·exact absurd e z
  ·exact .inl z
  ·exact .inr z
end L2
namespace G27
open PySem L2
section
variable {P:Program}{w:World}{K:PySem.W.Frag}{mg:Str->Option Value}{base:Heap}{C:Addr}
variable {gT gO gI gL gN gW gB:Addr}{tfd ofd ifd lfd nfd wfd bfd:FuncData}
theorem Rp.t7{H:Hp}{v:V}{x1 x2 x3 x4 x5 x6 x7:T}(h:Rp K H (.t [x1,x2,x3,x4,x5,x6,x7]) v):∃a u1 u2 u3 u4 u5 u6 u7,v=.ref a/\bT K H a [u1,u2,u3,u4,u5,u6,u7]/\Rp K H x1 u1/\Rp K H x2 u2/\Rp K H x3 u3/\Rp K H x4 u4/\Rp K H x5 u5/\Rp K H x6 u6/\Rp K H x7 u7:=by
 obtain⟨a,ys,rfl,sq,r⟩:=h.bj
 obtain⟨u1,q,rfl,h1,r⟩:=r.inv
 obtain⟨u2,q,rfl,h2,r⟩:=r.inv
 obtain⟨u3,q,rfl,h3,r⟩:=r.inv
 obtain⟨u4,q,rfl,h4,r⟩:=r.inv
 obtain⟨u5,q,rfl,h5,r⟩:=r.inv
 obtain⟨u6,q,rfl,h6,r⟩:=r.inv
 obtain⟨u7,q,rfl,h7,r⟩:=r.inv
 obtain rfl:=r.cZ
 exact⟨a,u1,u2,u3,u4,u5,u6,u7,rfl,sq,h1,h2,h3,h4,h5,h6,h7⟩
theorem ef:Nm ["work","row","form","a","x","y","begun","c","around"] (af jm):=by decide +kernel
theorem fj:Lm ["work","row","form","a","x","y","begun","c","around"] (af jm):=by decide +kernel
theorem eI:aM ["work","row","form","a","x","y","begun","c","around"] ["work","row"] (af jm):=⟨rfl,rfl,rfl,by decide +kernel,rfl,by decide +kernel,by decide +kernel⟩
theorem wV{f:Addr}{fd:FuncData}(F:gJ K "do_fold" "do_fold" jm f fd)(N:sU K C)(IL:bG P w K mg base "is_left" 1 ["thing"] (gz K) gL lfd)
  (mTell:dc P w K mg base C "tell" 1 ["self","thing"] (jG K C) gT tfd) (mWrite:dc P w K mg base C "write" 2 ["self","row"] (ig K C) gW wfd):bF P w K mg base dX 3 f fd ["work","row"] (pO ng K C):=by
 refine F.ok eI (fun vs H Q E h=>?_) (fun cdv A outer s H vs Q E hr h=>?_)
 ·obtain⟨_,_,_,_,_,_,_,rfl,_⟩:=h
  rfl
 obtain⟨H0,o,a,st,st',v,r,rfl,hw,hv,hb,h,k⟩:=h
 refine⟨_,(Z4 (Zi (va ef 1) (Zf (7) (Ze (ga eI.nd fj 2) (Ze (ga eI.nd fj 3) (Ze (ga eI.nd fj 4) (Ze (ga eI.nd fj 5) (Ze (ga eI.nd fj 6) (Ze (ga eI.nd fj 7) (aQ (ga eI.nd fj 8) bh))))))))) (Zd (@dU _ _ _ _ _ _ _ _ (@cW _ _ _ (Z0 IL (Zb (va ef 3))) (fun _=>rfl)) (Zd (Zk (Z5 (va ef 0) mWrite (Zb (va ef 1))))) (Z4 (Zk (Z5 (va ef 0) mTell (Zb (va ef 6)))) (Zd (Zk (Z8 (dI (va ef 0) rfl) (Z1 (Z6 (Z1 aq (cE (va ef 1) (Zb ak)))) aj)))))))),?_⟩
 try dsimp only[bY]
 have hi:=hw.ins
 have hc:=N.c
 have hn:=N.waiting
 have b1:=hb.t
 have b2:=hb.r
 cases h with
 |left =>
  have hv':=hv
  obtain⟨ra,u1,u2,u3,u4,u5,u6,u7,rfl,sq,g1,g2,g3,g4,g5,g6,g7⟩:=Rp.t7 hv
  obtain rfl:=g1.aD
  obtain rfl:=g3.aD
  obtain rfl:=g4.aD
  fail "O"
  exact k
 |@mk ts x y b c ar _ =>
  have hv':=hv
  have th:Th (bD ts):=.row
  obtain⟨ra,u1,u2,u3,u4,u5,u6,u7,rfl,sq,g1,g2,g3,g4,g5,g6,g7⟩:=Rp.t7 hv
  obtain rfl:=g1.aD
  obtain rfl:=g3.aD
  obtain rfl:=g4.aD
  fail "O"
  intro H2 w2 k2 o2
  have hi2:=w2.ins
  obtain⟨tv,et,rt⟩:=w2.wai
  have l1:=rt.length
  have bw:=hb.w
  fail "R"
  intro p hp
  obtain⟨w3,k3,o3⟩:=w2.ext (ae hp (.tup [.str "round",.ref ra,.int 0]))
  obtain⟨tv3,et3,rt3⟩:=w3.wai
  have l3:=rt3.length
  have l4:tv3.length<sizeLine:=bu (by have:(st.tell b).waiting.length=st.waiting.length:=rfl;omega)
  have hi3:=w3.ins
  fail "R"
  obtain⟨w4,k4,o4⟩:=w3.A6 (rt3.snoc (Rp.new (K:=K) hp (xs:=[.s "round",fO (bD ts) x y b c ar,.i 0]) (.cons .s (.cons (hv'.kt k2) (.one .i)))))
  exact k _ w4 (k2.trans (k3.trans k4)) (o2.trans (o3.trans o4))
noncomputable def Fj(K:PySem.W.Frag)(H:Hp)(kvs:List (Key×V))(arms:List Cv):Prop:=∀x:Str,match wL arms x with
 |some (ns,t)=>∃(q:Addr) (an:Addr) (tv:V),dY kvs (Sum.inr x)=some (.ref q)/\bT K H q [.ref an,tv]/\bT K H an (ns.map V.str)/\Rp K H t tv
 |none=>dY kvs (Sum.inr x)=none
theorem uT:∀(arms:List Cv) (a:Cv) (x:Str),wL (arms++[a]) x=if a.1=x then some a.2 else wL arms x
 | [],a,x=>by simp[wL]
 |b::r,a,x=>by
  rw[List.cons_append,wL,uT r a x,wL]
  by_cases c:a.1=x
  ·rw[if_pos c,if_pos c];rfl
  ·rw[if_neg c,if_neg c]
theorem Fj.same{H H':Hp}{kvs:List (Key×V)}{arms:List Cv}(h:Fj K H kvs arms)(s:br H H'):Fj K H' kvs arms:=fun x=>by
 have:=h x
 cases e:wL arms x with
 |none=>rw[e]at this;exact this
 |some p =>
  obtain⟨ns,t⟩:=p
  rw[e]at this
  obtain⟨q,an,tv,h1,h2,h3,h4⟩:=this
  exact⟨q,an,tv,h1,h2.kt (Kt.same s),h3.kt (Kt.same s),h4.same s⟩
theorem Fj.put{H:Hp}{kvs:List (Key×V)}{arms:List Cv}(h:Fj K H kvs arms){a:Cv}{q an:Addr}{tv:V}(hq:bT K H q [.ref an,tv])(hn:bT K H an (a.2.1.map V.str))(ht:Rp K H a.2.2 tv):Fj K H (putK kvs (Sum.inr a.1) (.ref q)) (arms++[a]):=fun x=>by
 have:=h x
 rw[uT]
 by_cases c:a.1=x
 ·rw[if_pos c]
  refine⟨q,an,tv,?_,hq,hn,ht⟩
  rw[jY,if_pos (by rw[c])]
 ·rw[if_neg c]
  have e:dY (putK kvs (Sum.inr a.1) (.ref q)) (Sum.inr x)=dY kvs (Sum.inr x):=by
   rw[jY,if_neg (fun z=>c (by injection z with z;exact z.symm))]
  rw[e]
  exact this
theorem uU(kvs:List (Key×V))(k:Key)(v:V):(putK kvs k v).length<=kvs.length+1:=by
 unfold putK
 split
 ·rw[List.length_map];omega
 ·rw[List.length_append];exact Nat.le_refl _
theorem bB.strs{H:Hp}:∀{ns:List Str}{us:List V},bB K H (ns.map .s) us->us=ns.map V.str
 | [],us,h=>h.cZ
 |n::r,us,h=>by
  obtain⟨u,q,rfl,h1,h2⟩:=(show bB K H (.s n::r.map .s) us from h).inv
  rw[h1.aD,bB.strs h2]
  rfl
theorem bM:Nm ["work","row","form","a","arms","around","by_tag","names","inner"] (af fW):=by decide +kernel
theorem eJ:Lm ["work","row","form","a","arms","around","by_tag","names","inner"] (af fW):=by decide +kernel
theorem dw:aM ["work","row","form","a","arms","around","by_tag","names","inner"] ["work","row"] (af fW):=⟨rfl,rfl,rfl,by decide +kernel,rfl,by decide +kernel,by decide +kernel⟩
theorem uV{f:Addr}{fd:FuncData}(F:gJ K "do_match" "do_match" fW f fd)(N:sU K C)(IL:bG P w K mg base "is_left" 1 ["thing"] (gz K) gL lfd)(BT:bG P w K mg base "bound_to" 1 ["around","names","things"] (mF K) gB bfd)
  (mInto:dc P w K mg base C "go_into" 1 ["self","term","around"] (iI K C) gT tfd) (mOne:dc P w K mg base C "do_one" 1 ["self"] (ie K C) gO ofd) (mWrite:dc P w K mg base C "write" 2 ["self","row"] (ig K C) gW wfd):bF P w K mg base dX 3 f fd ["work","row"] (pO kF K C):=by
 refine F.ok dw (fun vs H Q E h=>?_) (fun cdv A outer s H vs Q E hr h=>?_)
 ·obtain⟨_,_,_,_,_,_,_,rfl,_⟩:=h
  rfl
 obtain⟨H0,o,a,st,st',v,r,rfl,hw,hv,hb,h,k⟩:=h
 refine⟨_,(Z4 (Zi (va bM 1) (Zf (4) (Ze (ga dw.nd eJ 2) (Ze (ga dw.nd eJ 3) (Ze (ga dw.nd eJ 4) (aQ (ga dw.nd eJ 5) bh)))))) (Zd (@dU _ _ _ _ _ _ _ _ (@cW _ _ _ (Z0 IL (Zb (va bM 3))) (fun _=>rfl)) (Zd (Zk (Z5 (va bM 0) mWrite (Zb (va bM 1))))) (Z4 (Zk (gr (va bM 0) mOne.c mOne.m mOne.ok (hr.mono (by omega)) mOne.bd .nil iP)) (Z4 (@zA _ _ _ _ _ _ _ _ _ _ _ _ _ _ _ _ _ (af fW) ["work","row","form","a","arms","around","by_tag","names","inner"] ["tag","names","inner"] [] rfl rfl rfl (by decide +kernel) (jT (va bM 4)) (fun _ _ _ _=>(Zf (3) (Ze (Za (i:=0) (show(["tag","names","inner"]:List Str).Nodup by decide +kernel)) (Ze (Za (i:=1) (show(["tag","names","inner"]:List Str).Nodup by decide +kernel)) (aQ (Za (i:=2) (show(["tag","names","inner"]:List Str).Nodup by decide +kernel)) bh))))) (fun _ _ _ _=>cN) (fun _ _ _ _=>(va (show Nm ["tag","names","inner"] _ by show _=_;kernel_rfl) 0)) (fun _ _ _ _=>(Z6 (Z1 (va (show Nm ["tag","names","inner"] _ by show _=_;kernel_rfl) 1) (Zb (va (show Nm ["tag","names","inner"] _ by show _=_;kernel_rfl) 2))))) (ga dw.nd eJ 6) (by kernel_rfl) (by intro _;rfl)) (Z4 (Zi (@kq _ _ _ _ _ _ (lX hr) (va bM 6) (Z3 ay (va bM 3)) (fun _ _=>rfl)) (Zf (2) (Ze (ga dw.nd eJ 7) (aQ (ga dw.nd eJ 8) bh)))) (Zd (Zk (Z5 (va bM 0) mInto (Z1 (va bM 8) (Z1 (Z0 BT (Z1 (va bM 5) (Z1 (va bM 7) (Z1 (Z3 ay (va bM 3)) aj)))) aj))))))))))),?_⟩
 try dsimp only[bY]
 have hi:=hw.ins
 have b1:=hb.t
 have b2:=hb.r
 cases h with
 |left =>
  have hv':=hv
  obtain⟨ra,u1,u2,u3,u4,rfl,sq,g1,g2,g3,g4⟩:=hv.t4
  obtain rfl:=g1.aD
  fail "O"
  exact k
 |@mk t ts arms env ns kt _ hm hlk hl he hns ha =>
  have th:Th (jF t ts):=.tag
  obtain⟨ra,u1,u2,u3,u4,rfl,sq,g1,g2,g3,g4⟩:=hv.t4
  obtain rfl:=g1.aD
  obtain⟨a3,b3,c3,d3,rfl,sq3,e3,f3,f3'⟩:=id g2.t3
  obtain rfl:=e3.aD
  obtain rfl:=f3.aD
  obtain⟨a4,ys,rfl,sq4,r4⟩:=(show Rp K H (.t ts) d3 from f3').bj
  obtain⟨a5,zs,rfl,sq5,r5⟩:=(show Rp K H (.t (arms.map Fi)) u3 from g3).bj
  have lz:=r5.length
  rw[List.length_map]at lz
  fail "O"
  intro H2 w2 k2 o2
  have hi2:=w2.ins
  have q3:=sq3.kt k2
  have q4:=sq4.kt k2
  have q5:=sq5.kt k2
  have p5:=r5.kt k2
  fail "R"
  refine qU (xs:=zs) (fun i σ kvs Hc=>(∃x y z,σ=[x,y,z])/\br H2 Hc/\kvs.length<=i/\Fj K Hc kvs (arms.take i)) ⟨⟨_,_,_,rfl⟩,br.refl _,Nat.le_refl _,fun x=>rfl⟩ ?_ (fX (by omega)) ?_ ?_ ?_
  ·rintro i σ kvs Hc hi ⟨_,_,h,_⟩
   exact h
  ·rintro i σ kvs Hc hi ⟨_,sm,_⟩
   exact q5.kt (Kt.same sm)
  ·rintro i x σ kvs Hc hx ⟨⟨x0,y0,z0,rfl⟩,sm,hlen,hat⟩
   obtain⟨y,hy,ry⟩:=p5.get' hx
   rw[List.getElem?_map]at hy
   obtain⟨am,hp,rfl⟩:=Option.map_eq_some_iff.mp hy
   have hil:i<arms.length:=(List.getElem?_eq_some_iff.mp hp).1
   have ep:arms[i]=am:=(List.getElem?_eq_some_iff.mp hp).2
   obtain⟨ar,w1',w2',w3',rfl,sqa,h1,h2,h3⟩:=(show Rp K H2 (.t [.s am.1,.t (am.2.1.map .s),am.2.2]) x from ry).t3
   obtain rfl:=h1.aD
   obtain⟨an,nv,rfl,sqn,rn⟩:=h2.bj
   obtain rfl:=bB.strs rn
   have sqa':=sqa.kt (Kt.same sm)
   fail "R"
   intro q hq
   fail "R"
   ·exact(Eq.refl (kV (Sum.inr am.1)))
   have sq':=ae hq (.tup [.ref an,w3'])
   refine⟨⟨_,_,_,rfl⟩,sm.trans sq',?_,?_⟩
   ·exact Nat.le_trans (uU kvs _ _) (by omega)
   ·rw[List.take_succ_eq_append_getElem hil,ep]
    exact(hat.same sq').put (bT.of ah) (sqn.kt (Kt.same (sm.trans sq'))) (h3.same (sm.trans sq'))
  ·rintro σ kvs Hc ⟨_,sm,hlen,hat⟩ d hd
   rw[lz,List.take_length]at hat
   have sd:=ae hd (.dK kvs)
   obtain⟨w3,k3,o3⟩:=w2.ext (sm.trans sd)
   have hi3:=w3.ins
   have dk:upd Hc d (.dK kvs) d=some (.dK kvs):=ah
   have la:=(hat.same sd) t
   rw[hlk]at la
   obtain⟨q,an,tv,hv1,hv2,hv3,hv4⟩:=la
   have dg:gv (upd Hc d (.dK kvs)) d (.str t) (some (.ref q)):=by
    have:=gv.k (k:=Sum.inr t) dk
    rw[hv1]at this
    exact this
   have kk:=k2.trans k3
   have y3:=sq3.kt kk
   have y4:om K true (upd Hc d (.dK kvs)) a4 ys:=sq4.kt kk
   have z4:=r4.kt kk
   have g5:=g4.kt kk
   have n3:om K true (upd Hc d (.dK kvs)) an (ns.map V.str):=hv3
   generalize upd Hc d (.dK kvs)=H3 at *
   fail "R"
   intro H4 u s4 r9
   obtain⟨w4,k4,o4⟩:=w3.ext s4
   have hi4:=w4.ins
   have t4:=hv4.same s4
   have bw:st.one.waiting.length<1000:=by show st.waiting.length<1000;have:=hb.w;omega
   fail "R"
   intro H5 w5 k5 o5
   exact k H5 w5 (kk.trans (k4.trans k5)) (o2.trans (o3.trans (o4.trans o5)))
end
noncomputable def hdS:Hd->Str
 |.num _=>"num"
 |.name _=>"name"
 |.gap _=>"gap"
 |.op _=>"op"
 |.row=>"row"
 |.more=>"more"
 |.first=>"first"
 |.others=>"others"
 |.long=>"long"
 |.tag _=>"tag"
 |.call _=>"call"
 |.mat _=>"match"
 |.ife=>"if"
 |.lt _=>"let"
 |.fold _ _=>"fold"
theorem wX(tm:Tm):∃r,enc tm=.t (.s (hdS tm.hd)::r):=by
 obtain⟨h,ks⟩:=tm
 rw[bO]
 cases h<;>exact⟨_,rfl⟩
noncomputable def mS:List Str:=["match","if","let"]
noncomputable def jc(h:Hd)(n:Nat):Nat:=if hdS h="fold" then 2 else if hdS h∈mS then 1 else n
noncomputable def ahead(tm:Tm):List T:=(tm.ks.map enc).take (jc tm.hd tm.ks.length)
theorem yi{h:Hd}(n:Nat)(e:hdS h="fold"):jc h n=2:=if_pos e
theorem Bg{h:Hd}(n:Nat)(e0:¬hdS h="fold")(e:hdS h∈mS):jc h n=1:=by unfold jc;rw[if_neg e0,if_pos e]
theorem Bh{h:Hd}(n:Nat)(e:¬hdS h="fold")(e2:¬hdS h∈mS):jc h n=n:=by unfold jc;rw[if_neg e,if_neg e2]
noncomputable def sZ(K:PySem.W.Frag):Sp:=fun vs H Q _=>∃(v:V) (tm:Tm),vs=[v]/\Rp K H (enc tm) v/\Wf tm/\tm.size<=900 /\
 ∀(p:Addr) (H':Hp) (ws:List V),br H H'->H p=none->H' p=some (.lst ws)->bB K H' (ahead tm) ws->Q (.ref p) H'
inductive nG(env:Env):T->List T->T->Prop
 |gap {n:Int}:nG env (.t [.s "gap",.i n]) [] (.t [.s "gap",.i n,dh env])
 |op {s:Str}{a b x y:T}:nG env (.t [.s "op",.s s,a,b]) [x,y] (.t [.s "op",.s s,x,y])
 |mat {a arms x:T}:nG env (.t [.s "match",a,arms]) [x] (.t [.s "match",x,arms,dh env])
 |ife {a b c x:T}:nG env (.t [.s "if",a,b,c]) [x] (.t [.s "if",x,b,c,dh env])
 |fold {a b c u v:T}{x y:Str}:nG env (.t [.s "fold",a,.s x,.s y,b,c]) [u,v] (fO u x y v c (dh env))
 |other {f:Str}{r ts:List T}:f="more"\/f="first"\/f="others"\/f="long"->ts.length<=900->nG env (.t (.s f::r)) ts (.t (.s f::ts))
noncomputable def yj(K:PySem.W.Frag):Sp:=fun vs H Q _=>∃(v u:V) (p:Addr) (ws:List V) (env:Env) (t r:T) (ts:List T),vs=[v,.ref p,u]/\Rp K H t v/\H p=some (.lst ws)/\bB K H ts ws/\Rp K H (dh env) u/\nG env t ts r /\
 ∀(H':Hp) (q:V),br H H'->Rp K H' r q->Q q H'
theorem bB.take{K:PySem.W.Frag}{H:Hp}:∀{ts:List T}{ws:List V}(n:Nat),bB K H ts ws->bB K H (ts.take n) (ws.take n)
 | [],ws,n,h=>by obtain rfl:=h.cZ;simp;exact .nil
 |t::r,ws,0,h=>by simp;exact .nil
 |t::r,ws,n+1,h=>by
  obtain⟨v,q,rfl,h1,h2⟩:=h.inv
  rw[List.take_succ_cons,List.take_succ_cons]
  exact .cons h1 (bB.take n h2)
theorem Rp.hd{K:PySem.W.Frag}{H:Hp}{v:V}{f:Str}{r:List T}(h:Rp K H (.t (.s f::r)) v):∃a us,v=.ref a/\bT K H a (.str f::us)/\fR (.str f::us) 0=some (.str f)/\bB K H r us:=by
 obtain⟨a,ys,rfl,sq,r1⟩:=h.bj
 obtain⟨u,q,rfl,h1,h2⟩:=r1.inv
 obtain rfl:=h1.aD
 exact⟨a,q,rfl,sq,aN (j:=0) rfl,h2⟩
theorem Rp.t6{K:PySem.W.Frag}{H:Hp}{v:V}{x1 x2 x3 x4 x5 x6:T}(h:Rp K H (.t [x1,x2,x3,x4,x5,x6]) v):∃a u1 u2 u3 u4 u5 u6,v=.ref a/\bT K H a [u1,u2,u3,u4,u5,u6]/\Rp K H x1 u1/\Rp K H x2 u2/\Rp K H x3 u3/\Rp K H x4 u4/\Rp K H x5 u5/\Rp K H x6 u6:=by
 obtain⟨a,ys,rfl,sq,r⟩:=h.bj
 obtain⟨u1,q,rfl,h1,r⟩:=r.inv
 obtain⟨u2,q,rfl,h2,r⟩:=r.inv
 obtain⟨u3,q,rfl,h3,r⟩:=r.inv
 obtain⟨u4,q,rfl,h4,r⟩:=r.inv
 obtain⟨u5,q,rfl,h5,r⟩:=r.inv
 obtain⟨u6,q,rfl,h6,r⟩:=r.inv
 obtain rfl:=r.cZ
 exact⟨a,u1,u2,u3,u4,u5,u6,rfl,sq,h1,h2,h3,h4,h5,h6⟩
theorem uW(xs:List V)(n:Nat):jV xs none (some (n:Int))=xs.take n:=by
 unfold jV
 rw[HT.rV,HT.ur,List.drop_zero,Nat.sub_zero]
 rcases Nat.le_total n xs.length with h|h
 ·rw[Nat.min_eq_left h]
 ·rw[Nat.min_eq_right h,List.take_of_length_le (Nat.le_refl _),List.take_of_length_le h]
section
variable {P:Program}{w:World}{K:PySem.W.Frag}{mg:Str->Option Value}{base:Heap}{C:Addr}
variable {gT gO gI gL gN:Addr}{tfd ofd ifd lfd nfd:FuncData}
theorem cU:Nm ["term","form","inner"] (af fH):=by decide +kernel
theorem kQ:Lm ["term","form","inner"] (af fH):=by decide +kernel
theorem jd:aM ["term","form","inner"] ["term"] (af fH):=⟨rfl,rfl,rfl,by decide +kernel,rfl,by decide +kernel,by decide +kernel⟩
theorem qx{f:Addr}{fd:FuncData}(F:gJ K "told_ahead" "told_ahead" fH f fd)(IN:bG P w K mg base "inner_terms" 2 ["term"] (ye K) gI ifd):bF P w K mg base dX 3 f fd ["term"] (sZ K):=by
 refine F.ok jd (fun vs H Q E h=>?_) (fun cdv A outer s H vs Q E hr h=>?_)
 ·obtain⟨_,_,rfl,_⟩:=h
  rfl
 obtain⟨v,tm,rfl,hv,wf,sz,k⟩:=h
 refine⟨_,(Z4 (Z2 jd.nd kQ 1 (Z3 ay (va cU 0))) (Z4 (Z2 jd.nd kQ 2 (Z0 IN (Zb (va cU 0)))) (Z4 (Zh (Zl (va cU 1) aq) (Zd (Zm (iC se (va cU 2) hU (fF ak))))) (Zd (Zm (@jg _ _ _ _ _ _ _ _ (@cM _ _ _ _ _ _ _ _ mW (va cU 1) (Z6 (Z1 aq (cE aq (Zb aq)))) (by with_unfolding_all rfl)) (iC se (va cU 2) hU (fF ak)) (va cU 2))))))),?_⟩
 try dsimp only[bY]
 obtain⟨r,er⟩:=wX tm
 have hv':=hv
 rw[er]at hv
 obtain⟨a,us,rfl,sq,a0,_⟩:=Rp.hd hv
 fail "R"
 intro p H1 ws s1 hp h1 r1
 have lr:=r1.length
 fail "R"
 refine bX (fun c=>?_) (fun c=>?_)
 ·have c':hdS tm.hd="fold":=by have:=of_decide_eq_true c;injection this
  clear c
  fail "R"
  intro p2 hp2
  rw[show(some 2:Option Int)=some ((2:Nat):Int)from rfl,uW]
  refine k p2 _ _ (s1.trans (ae hp2 _)) (by cases q:H p2 with|none=>rfl|some u=>rw[s1 _ _ q]at hp2;cases hp2) ah ?_
  unfold ahead
  rw[yi _ c']
  exact(bB.take 2 r1).kt (Kt.new hp2 _)
 ·have c':¬hdS tm.hd="fold":=fun z=>c (decide_eq_true (by rw[z]))
  clear c
  have hfl:=kE mS
  have hf2:jW (.str (hdS tm.hd))=true:=rfl
  fail "R"
  intro p2 hp2
  have h2:=ae hp2 (.tup (mS.map V.str)) _ _ h1
  have q2:cR K (upd H1 p2 (.tup (mS.map V.str))) p2 (mS.map V.str)\/bT K (upd H1 p2 (.tup (mS.map V.str))) p2 (mS.map V.str):=.inr (bT.of ah)
  refine⟨p2,mS.map V.str,rfl,q2,hfl,hf2,_,rfl,?_⟩
  rw[pN]
  refine bX (fun c=>?_) (fun c=>?_)
  ·have m:hdS tm.hd∈mS:=by simpa using c
   clear c
   fail "R"
   intro p3 hp3
   rw[show(some 1:Option Int)=some ((1:Nat):Int)from rfl,uW]
   refine k p3 _ _ (s1.trans ((ae hp2 (.tup (mS.map V.str))).trans (ae hp3 _))) (by cases q:H p3 with|none=>rfl|some u=>exact absurd (hp3.symm.trans (ae hp2 (.tup (mS.map V.str)) _ _ (s1 _ _ q))) (fun z=>nomatch z)) ah ?_
   unfold ahead
   rw[Bg _ c' m]
   exact(bB.take 1 r1).kt ((Kt.new hp2 _).trans (Kt.new hp3 _))
  ·have m:¬hdS tm.hd∈mS:=by simpa using c
   clear c
   fail "R"
   refine k p _ _ (s1.trans (ae hp2 _)) hp h2 ?_
   unfold ahead
   rw[Bh _ c' m,List.take_of_length_le (by rw[List.length_map];exact Nat.le_refl _)]
   exact r1.kt (Kt.new hp2 _)
theorem aE:Nm ["term","things","around","form"] (af eX):=by decide +kernel
theorem pR:Lm ["term","things","around","form"] (af eX):=by decide +kernel
theorem j8:aM ["term","things","around","form"] ["term","things","around"] (af eX):=⟨rfl,rfl,rfl,by decide +kernel,rfl,by decide +kernel,by decide +kernel⟩
theorem zB{f:Addr}{fd:FuncData}(F:gJ K "row_of_term" "row_of_term" eX f fd)(z_tuple:mg "tuple"=none):bF P w K mg base dX 1 f fd ["term","things","around"] (yj K):=by
 refine F.ok j8 (fun vs H Q E h=>?_) (fun cdv A outer s H vs Q E hr h=>?_)
 ·obtain⟨_,_,_,_,_,_,_,_,rfl,_⟩:=h
  rfl
 obtain⟨v,u,p,ws,env,t,r,ts,rfl,hv,hp,hr',hu,h,k⟩:=h
 refine⟨_,(Z4 (Z2 j8.nd pR 3 (Z3 ay (va aE 0))) (Z4 (Zh (Zl (va aE 3) aq) (Zd (Zm (Z6 (Z1 aq (Z1 (Z3 ay (va aE 0)) (Zb (va aE 2)))))))) (Z4 (Zh (Zl (va aE 3) aq) (Zd (Zm (Z6 (Z1 aq (Z1 (Z3 ay (va aE 0)) (Z1 (Z3 aA (va aE 1)) (Z1 (Z3 aA (va aE 1)) aj)))))))) (Z4 (Zh (Zl (va aE 3) aq) (Zd (Zm (Z6 (Z1 aq (Z1 (Z3 aA (va aE 1)) (Z1 (Z3 ay (va aE 0)) (Zb (va aE 2))))))))) (Z4 (Zh (Zl (va aE 3) aq) (Zd (Zm (Z6 (Z1 aq (Z1 (Z3 aA (va aE 1)) (Z1 (Z3 ay (va aE 0)) (Z1 (Z3 ay (va aE 0)) (Zb (va aE 2)))))))))) (Z4 (Zh (Zl (va aE 3) aq) (Zd (Zm (Z6 (Z1 aq (Z1 (Z3 aA (va aE 1)) (Z1 (Z3 ay (va aE 0)) (Z1 (Z3 ay (va aE 0)) (Z1 (Z3 aA (va aE 1)) (Z1 (Z3 ay (va aE 0)) (Zb (va aE 2)))))))))))) (Zd (Zm (Zp jt (Z6 (Zb (va aE 3))) (Z9 bH z_tuple PyProof.Rows.boot_tuple (Zb (va aE 1)))))))))))),?_⟩
 try dsimp only[bY]
 cases h with
 |gap =>
  obtain⟨ra,u1,u2,rfl,sq,g1,g2⟩:=hv.t2
  obtain rfl:=g1.aD
  fail "R"
  intro q hq
  exact k _ _ (ae hq _) (Rp.new (K:=K) hq (.cons .s (.cons g2 (.one hu))))
 |op =>
  obtain⟨ra,u1,u2,u3,u4,rfl,sq,g1,g2,g3,g4⟩:=hv.t4
  obtain rfl:=g1.aD
  obtain⟨x1,q1,rfl,h1,r1⟩:=hr'.inv
  obtain⟨x2,q2,rfl,h2,r2⟩:=r1.inv
  obtain rfl:=r2.cZ
  fail "R"
  intro q hq
  exact k _ _ (ae hq _) (Rp.new (K:=K) hq (.cons .s (.cons g2 (.cons h1 (.one h2)))))
 |mat =>
  obtain⟨ra,u1,u2,u3,rfl,sq,g1,g2,g3⟩:=hv.t3
  obtain rfl:=g1.aD
  obtain⟨x1,q1,rfl,h1,r1⟩:=hr'.inv
  obtain rfl:=r1.cZ
  fail "R"
  intro q hq
  exact k _ _ (ae hq _) (Rp.new (K:=K) hq (.cons .s (.cons h1 (.cons g3 (.one hu)))))
 |ife =>
  obtain⟨ra,u1,u2,u3,u4,rfl,sq,g1,g2,g3,g4⟩:=hv.t4
  obtain rfl:=g1.aD
  obtain⟨x1,q1,rfl,h1,r1⟩:=hr'.inv
  obtain rfl:=r1.cZ
  fail "R"
  intro q hq
  exact k _ _ (ae hq _) (Rp.new (K:=K) hq (.cons .s (.cons h1 (.cons g3 (.cons g4 (.one hu))))))
 |fold =>
  obtain⟨ra,u1,u2,u3,u4,u5,u6,rfl,sq,g1,g2,g3,g4,g5,g6⟩:=Rp.t6 hv
  obtain rfl:=g1.aD
  obtain⟨x1,q1,rfl,h1,r1⟩:=hr'.inv
  obtain⟨x2,q2,rfl,h2,r2⟩:=r1.inv
  obtain rfl:=r2.cZ
  fail "R"
  intro q hq
  exact k _ _ (ae hq _) (Rp.new (K:=K) hq (.cons .s (.cons h1 (.cons g3 (.cons g4 (.cons h2 (.cons g6 (.one hu))))))))
 |@other f r _ hf hl =>
  obtain⟨ra,us,rfl,sq,a0,g2⟩:=Rp.hd hv
  have lw:=hr'.length
  have n1:¬V.str f=V.str "gap":=fun z=>by injection z with z;subst z;revert hf;decide +kernel
  have n2:¬V.str f=V.str "op":=fun z=>by injection z with z;subst z;revert hf;decide +kernel
  have n3:¬V.str f=V.str "match":=fun z=>by injection z with z;subst z;revert hf;decide +kernel
  have n4:¬V.str f=V.str "if":=fun z=>by injection z with z;subst z;revert hf;decide +kernel
  have n5:¬V.str f=V.str "fold":=fun z=>by injection z with z;subst z;revert hf;decide +kernel
  fail "R"
  refine qO (decide_eq_false n1) ?_
  fail "R"
  refine qO (decide_eq_false n2) ?_
  fail "R"
  refine qO (decide_eq_false n3) ?_
  fail "R"
  refine qO (decide_eq_false n4) ?_
  fail "R"
  refine qO (decide_eq_false n5) ?_
  fail "R"
  intro p1 hp1
  have hp':=ae hp1 (.tup [.str f]) _ _ hp
  have s1:=ae hp1 (.tup [.str f])
  fail "R"
  refine .inl ⟨cR.of hp',fun l hl'=>?_⟩
  have s2:=s1.trans (ae hl' (.tup ws))
  have hT:upd (upd H p1 (.tup [.str f])) l (.tup ws) l=some (.tup ws):=ah
  have hT1:upd (upd H p1 (.tup [.str f])) l (.tup ws) p1=some (.tup [.str f]):=ae hl' _ _ _ ah
  have hz:([V.str f]:List V).length+ws.length<=sizeLine:=fX (by simp;omega)
  have r2:=hr'.same s2
  generalize upd (upd H p1 (.tup [.str f])) l (.tup ws)=H2 at s2 hT hT1 r2⊢
  fail "R"
  intro p9 H9 s9 q9
  exact k _ _ (s2.trans s9) (Rp.t q9 (.cons .s (r2.same s9)))
structure kJ(P:Program) (w:World) (K:PySem.W.Frag) (mg:Str->Option Value) (base:Heap) (kvs:List (Str×V)) (j:Nat) (ps:List Str) (f:Str) (sp:Sp):Prop where
 ex:∃g fd,kvs.lookup f=some (V.ref g)/\bF P w K mg base dX j g fd ps sp/\PySem.W.keepIn K (.ref g)=true/\Binds K fd ps []
theorem kJ.of{kvs:List (Str×V)}{j:Nat}{ps:List Str}{x f:Str}{sp:Sp}{g:Addr}{fd:FuncData}(h:bG P w K mg base x j ps sp g fd)(l:kvs.lookup f=some (V.ref g)):kJ P w K mg base kvs j ps f sp:=⟨g,fd,l,h.ok,h.kp,h.bd⟩
structure yk(P:Program) (w:World) (K:PySem.W.Frag) (mg:Str->Option Value) (base:Heap) (C:Addr) (kvs:List (Str×V)):Prop where
 gap:kJ P w K mg base kvs 3 ["work","row"] "gap" (pO uQ K C)
 op:kJ P w K mg base kvs 3 ["work","row"] "op" (pO uR K C)
 more:kJ P w K mg base kvs 3 ["work","row"] "more" (pO m8 K C)
 first:kJ P w K mg base kvs 3 ["work","row"] "first" (pO gp K C)
 others:kJ P w K mg base kvs 3 ["work","row"] "others" (pO gp K C)
 long:kJ P w K mg base kvs 3 ["work","row"] "long" (pO m9 K C)
 mat:kJ P w K mg base kvs 3 ["work","row"] "match" (pO kF K C)
 ife:kJ P w K mg base kvs 3 ["work","row"] "if" (pO zx K C)
 fold:kJ P w K mg base kvs 3 ["work","row"] "fold" (pO ng K C)
theorem yk.get{kvs:List (Str×V)}(D:yk P w K mg base C kvs){r:T}{st st':WS}(h:yh r st st'):∃f q R,r=.t (.s f::q)/\R r st st'/\kJ P w K mg base kvs 3 ["work","row"] f (pO R K C):=by
 cases h with
 |gap h =>
  obtain⟨q,e⟩:∃q,r=.t (.s "gap"::q):=by cases h<;>exact⟨_,rfl⟩
  exact⟨"gap",q,uQ,e,h,D.gap⟩
 |op h =>
  obtain⟨q,e⟩:∃q,r=.t (.s "op"::q):=by cases h<;>exact⟨_,rfl⟩
  exact⟨"op",q,uR,e,h,D.op⟩
 |more h =>
  obtain⟨q,e⟩:∃q,r=.t (.s "more"::q):=by cases h<;>exact⟨_,rfl⟩
  exact⟨"more",q,m8,e,h,D.more⟩
 |first h =>
  have:∃(f:Str) (q:List T),(f="first"\/f="others")/\r=.t (.s f::q):=by
   cases h with
   |left h=>exact⟨_,_,h,rfl⟩
   |fault h=>exact⟨_,_,h,rfl⟩
   |first=>exact⟨_,_,.inl rfl,rfl⟩
   |others=>exact⟨_,_,.inr rfl,rfl⟩
  obtain⟨f,q,hf,e⟩:=this
  rcases hf with rfl|rfl
  ·exact⟨"first",q,gp,e,h,D.first⟩
  ·exact⟨"others",q,gp,e,h,D.others⟩
 |long h =>
  obtain⟨q,e⟩:∃q,r=.t (.s "long"::q):=by cases h<;>exact⟨_,rfl⟩
  exact⟨"long",q,m9,e,h,D.long⟩
 |mat h =>
  obtain⟨q,e⟩:∃q,r=.t (.s "match"::q):=by cases h<;>exact⟨_,rfl⟩
  exact⟨"match",q,kF,e,h,D.mat⟩
 |ife h =>
  obtain⟨q,e⟩:∃q,r=.t (.s "if"::q):=by cases h<;>exact⟨_,rfl⟩
  exact⟨"if",q,zx,e,h,D.ife⟩
 |fold h =>
  obtain⟨q,e⟩:∃q,r=.t (.s "fold"::q):=by cases h<;>exact⟨_,rfl⟩
  exact⟨"fold",q,ng,e,h,D.fold⟩
theorem kG:Nm ["work","row","deed"] (af jn):=by decide +kernel
theorem zC:Lm ["work","row","deed"] (af jn):=by decide +kernel
theorem qY:aM ["work","row","deed"] ["work","row"] (af jn):=⟨rfl,rfl,rfl,by decide +kernel,rfl,by decide +kernel,by decide +kernel⟩
theorem zD{f d:Addr}{fd:FuncData}{kvs:List (Str×V)}(F:gJ K "do_row" "do_row" jn f fd)(D:yk P w K mg base C kvs)(m_DEEDS:mg "DEEDS"=some (.ref d))(kD:KD K w d kvs):bF P w K mg base dX 4 f fd ["work","row"] (pO yh K C):=by
 refine F.ok qY (fun vs H Q E h=>?_) (fun cdv A outer s H vs Q E hr h=>?_)
 ·obtain⟨_,_,_,_,_,_,_,rfl,_⟩:=h
  rfl
 obtain⟨H0,o,a,st,st',v,r,rfl,hw,hv,hb,h,k⟩:=h
 obtain⟨f',q,R,rfl,hR,⟨g,gd,lg,og,kg,bg⟩⟩:=D.get h
 have hT:∀g' sp,(g'=g/\sp=pO R K C)->∃k fd ps,bF P w K mg base dX k g' fd ps sp/\cT k (A.deeper (PyProof.Rows.envOfC "do_row" (af jn) s.heap.objs.size f cdv))/\PySem.W.keepIn K (.ref g')=true/\Binds K fd ps []:=by
  rintro g' sp ⟨rfl,rfl⟩
  exact⟨3,_,_,og,hr,kg,bg⟩
 refine⟨_,(Z4 (Z2 qY.nd zC 2 (@nZ _ _ _ _ _ _ (iM (by show _=_;kernel_rfl) m_DEEDS (show RelV (.ref _) _ from rfl)) (Z3 ay (va kG 1)) (fun _ _=>rfl))) (Zd (Zk (@uO _ _ _ _ _ _ _ _ _ hT (va kG 2) (Z1 (va kG 0) (Zb (va kG 1))) (by rfl) (by rfl))))),?_⟩
 try dsimp only[bY]
 have hv':=hv
 obtain⟨ra,us,rfl,sq,a0,g2⟩:=Rp.hd hv
 fail "R"
 exact k
end
noncomputable def qh:Env->Str->Option T
 | [],_=>none
 |d::r,x=>(qh r x).or (if d.1=x then some d.2 else none)
theorem kR{K:PySem.W.Frag}{H:Hp}:∀{env:Env}{ys:List V},bB K H (env.map pT) ys->∃kvs,wH K H kvs ys/\∀acc x,match qh env x with
  |some n=>∃t,dY (d9 acc kvs) (Sum.inr x)=some t/\Rp K H n t
  |none=>dY (d9 acc kvs) (Sum.inr x)=dY acc (Sum.inr x)
 | [],ys,r=>by
  obtain rfl:=r.cZ
  exact⟨[],.nil,fun acc x=>rfl⟩
 |(x,n)::r,ys,h=>by
  obtain⟨v,q,rfl,g,h2⟩:=(show bB K H (pT (x,n)::r.map pT) ys from h).inv
  obtain⟨a,u1,u2,rfl,sq,g1,g2⟩:=(show Rp K H (.t [.s x,n]) v from g).t2
  obtain rfl:=g1.aD
  obtain⟨kvs,d,ih⟩:=kR h2
  refine⟨(Sum.inr x,u2)::kvs,.cons ⟨a,rfl,sq⟩ d,fun acc y=>?_⟩
  have e:d9 acc ((Sum.inr x,u2)::kvs)=d9 (putK acc (Sum.inr x) u2) kvs:=rfl
  have:=ih (putK acc (Sum.inr x) u2) y
  rw[e]
  simp only[qh]
  cases q:qh r y with
  |some m=>rw[q]at this;simpa using this
  |none =>
   rw[q]at this
   simp only[Option.none_or]
   rw[jY]at this
   by_cases c:x=y
   ·subst c
    rw[if_pos rfl]at this⊢
    exact⟨u2,this,g2⟩
   ·rw[if_neg c]
    rw[if_neg (fun z=>c (by injection z with z;exact z.symm))]at this
    exact this
inductive pS:T->WS->WS->Prop
 |num {n:Int}{ar:T}{st:WS}:pS (eY (aZ n) ar) st (st.tell (aZ n))
 |name {x:Str}{t:T}{env:Env}{st:WS}:qh env x=some t->pS (eY (.t [.s "name",.s x]) (dh env)) st (st.tell t)
 |other {tm:Tm}{ar:T}{st:WS}:Wf tm->tm.size<=900->¬hdS tm.hd="num"->¬hdS tm.hd="name"->(ahead tm).length<=90 ->
   pS (eY (enc tm) ar) st {st with waiting:=st.waiting++[nC (enc tm) ar]++(ahead tm).reverse.map (fun t=>eY t ar)}
section
variable {P:Program}{w:World}{K:PySem.W.Frag}{mg:Str->Option Value}{base:Heap}{C:Addr}
variable {gT gO gI gL gN gA:Addr}{tfd ofd ifd lfd nfd afd:FuncData}
theorem aX:Nm ["work","task","word","term","around","form","inner"] (af fJ):=by decide +kernel
theorem fb:Lm ["work","task","word","term","around","form","inner"] (af fJ):=by decide +kernel
theorem dS:aM ["work","task","word","term","around","form","inner"] ["work","task"] (af fJ):=⟨rfl,rfl,rfl,by decide +kernel,rfl,by decide +kernel,by decide +kernel⟩
theorem Bj{f:Addr}{fd:FuncData}(F:gJ K "begin_term" "begin_term" fJ f fd)(N:sU K C)(TA:bG P w K mg base "told_ahead" 3 ["term"] (sZ K) gA afd)
  (mTell:dc P w K mg base C "tell" 1 ["self","thing"] (jG K C) gT tfd) (mInto:dc P w K mg base C "go_into" 1 ["self","term","around"] (iI K C) gI ifd) (z_dict:mg "dict"=none):bF P w K mg base dX 5 f fd ["work","task"] (pO pS K C):=by
 refine F.ok dS (fun vs H Q E h=>?_) (fun cdv A outer s H vs Q E hr h=>?_)
 ·obtain⟨_,_,_,_,_,_,_,rfl,_⟩:=h
  rfl
 obtain⟨H0,o,a,st,st',v,r,rfl,hw,hv,hb,h,k⟩:=h
 refine⟨_,(Z4 (Zi (va aX 1) (Zf (3) (Ze (ga dS.nd fb 2) (Ze (ga dS.nd fb 3) (aQ (ga dS.nd fb 4) bh))))) (Z4 (Z2 dS.nd fb 5 (Z3 ay (va aX 3))) (Zd (@dU _ _ _ _ _ _ _ _ (Zl (va aX 5) aq) (Zd (Zk (Z5 (va aX 0) mTell (Zb (va aX 3))))) (Zd (@dU _ _ _ _ _ _ _ _ (Zl (va aX 5) aq) (Zd (Zk (Z5 (va aX 0) mTell (Z1 (@kq _ _ _ _ _ _ (lX hr) (Z9 (wI rfl) z_dict PyProof.Rows.boot_dict (Zb (va aX 4))) (Z3 ay (va aX 3)) (fun _ _=>rfl)) aj)))) (Z4 (Zk (Z8 (dI (va aX 0) rfl) (Z1 (Z6 (Z1 aq (Z1 (va aX 3) (Zb (va aX 4))))) aj))) (Zd (@Af _ _ _ _ _ _ _ _ PassesOwn.never rfl (@lN _ _ _ _ (@qK _ _ _ _ _ _ _ _ _ _ _ (Z0 TA (Zb (va aX 3))) hU hU (fF (oK kZ ak)))) (ga dS.nd fb 6) (Zd (Zk (Z5 (va aX 0) mInto (Z1 (va aX 6) (Zb (va aX 4)))))) (by intro _;rfl)))))))))),?_⟩
 try dsimp only[bY]
 have hi:=hw.ins
 have hc:=N.c
 have hn:=N.waiting
 have b1:=hb.t
 have b2:=hb.w
 cases h with
 |num =>
  obtain⟨ta,u1,u2,u3,rfl,tsq,g1,g2,g3⟩:=hv.t3
  obtain rfl:=g1.aD
  have g2':=g2
  obtain⟨ra,c1,c2,rfl,rsq,e1,e2⟩:=g2.t2
  obtain rfl:=e1.aD
  fail "R"
  exact k
 |@name x t env _ hl =>
  obtain⟨ta,u1,u2,u3,rfl,tsq,g1,g2,g3⟩:=hv.t3
  obtain rfl:=g1.aD
  obtain⟨ra,c1,c2,rfl,rsq,e1,e2⟩:=id g2.t2
  obtain rfl:=e1.aD
  obtain rfl:=e2.aD
  obtain⟨aa,ys,rfl,asq,ar⟩:=(show Rp K H (.t (env.map pT)) u3 from g3).bj
  obtain⟨kvs,dp,look⟩:=kR ar
  have lk1:=look [] x
  rw[hl]at lk1
  obtain⟨t',ht,rt⟩:=lk1
  fail "R"
  intro d hd
  have dk:upd H d (.dK (d9 [] kvs)) d=some (.dK (d9 [] kvs)):=ah
  obtain⟨w1,k1,o1⟩:=hw.ext (ae hd (.dK (d9 [] kvs)))
  have hi1:=w1.ins
  have dg:gv (upd H d (.dK (d9 [] kvs))) d (.str x) (some t'):=by
   have:=gv.k (k:=Sum.inr x) dk
   rw[ht]at this
   exact this
  have rsq1:=rsq.kt k1
  have rt1:=rt.kt k1
  fail "R"
  intro H2 w2 k2 o2
  exact k H2 w2 (k1.trans k2) (o1.trans o2)
 |@other tm ar _ wf sz n1 n2 la =>
  obtain⟨ta,u1,u2,u3,rfl,tsq,g1,g2,g3⟩:=hv.t3
  obtain rfl:=g1.aD
  obtain⟨r,er⟩:=wX tm
  have g2':=g2
  rw[er]at g2
  obtain⟨ra,us,rfl,rsq,a0,_⟩:=Rp.hd g2
  obtain⟨tv,et,rt⟩:=hw.wai
  have l1:=rt.length
  fail "R"
  refine qO (decide_eq_false (fun z=>n1 (by injection z))) ?_
  fail "R"
  refine qO (decide_eq_false (fun z=>n2 (by injection z))) ?_
  fail "R"
  intro p hp
  obtain⟨w1,k1,o1⟩:=hw.ext (ae hp (.tup [.str "rest",.ref ra,u3]))
  obtain⟨tv2,et2,rt2⟩:=w1.wai
  have l3:=rt2.length
  have l4:tv2.length<sizeLine:=bu (by omega)
  iterate 12 fail "T"
  obtain⟨w2,k2,o2⟩:=w1.A6 (rt2.snoc (Rp.new (K:=K) hp (xs:=[.s "rest",_,ar]) (.cons .s (.cons g2' (.one g3)))))
  have k12:=k1.trans k2
  have o12:=o1.trans o2
  have g2'':=g2'.kt k12
  have g3'':=g3.kt k12
  generalize upd (upd H p (.tup [.str "rest",.ref ra,u3])) a.lW (.lst (tv2++[.ref p]))=H3 at w2 k2 k12 o2 o12 g2'' g3'' ⊢
  fail "R"
  intro p2 H4 ws s4 _ h4 r4
  have lr:=r4.length
  have hz:(nu ws none none (some (-1))).length<=sizeLine:=by rw[l8,List.length_reverse,lr];exact fX (by omega)
  fail "R"
  intro p3 hp3
  rw[l8]
  obtain⟨w4,k4,o4⟩:=w2.ext (s4.trans (ae hp3 (.lst ws.reverse)))
  have w2':=(w2.ext s4).1
  obtain⟨_,m1,_⟩:=w2'.rws
  obtain⟨_,m2,_⟩:=w2'.tol
  obtain⟨_,m3,_⟩:=w2'.wai
  have n3:p3≠a.lR:=(aF m1 hp3).symm
  have n4:p3≠a.lT:=(aF m2 hp3).symm
  have n5:p3≠a.lW:=(aF m3 hp3).symm
  have r5:=(r4.kt (Kt.new hp3 (.lst ws.reverse))).reverse
  have a3:=g3''.kt k4
  fail "R"
  refine Ag (xs:=ws.reverse) (fun i σ Hi=>(∃iv,σ=[some (.ref o),some (.ref ta),some (.str "term"),some (.ref ra),some u3,some (.str (hdS tm.hd)),iv])/\jE K C H0 o a Hi {st with waiting:=st.waiting++[nC (enc tm) ar]++((ahead tm).reverse.take i).map (fun t=>eY t ar)}/\(Kt H Hi/\mz a H Hi)/\bB K Hi (ahead tm).reverse ws.reverse/\Rp K Hi ar u3/\Hi p3=some (.lst ws.reverse))
   ⟨⟨_,rfl⟩,?_,⟨k12.trans k4,o12.trans o4⟩,r5,a3,ah⟩ ?_ ?_ ?_
  ·rw[List.take_zero,List.map_nil,List.append_nil];exact w4
  ·rintro i σ Hi _ ⟨_,_,_,_,_,h⟩
   exact cR.of h
  ·rintro i xx σ Hi hx ⟨⟨iv,rfl⟩,wi,⟨ki,oi⟩,ri,ai,hi3⟩
   obtain⟨t,ht,rt⟩:=ri.get' hx
   have hil:=(List.getElem?_eq_some_iff.mp ht).1
   have et:(ahead tm).reverse[i]=t:=(List.getElem?_eq_some_iff.mp ht).2
   have ii:=wi.ins
   have ll:(st.waiting++[nC (enc tm) ar]++((ahead tm).reverse.take i).map (fun t=>eY t ar)).length<1000:=by
    simp only[List.length_append,List.length_map,List.length_take,List.length_cons,List.length_nil,List.length_reverse]at hil⊢
    omega
   fail "R"
   intro H6 w6 k6 o6
   refine⟨⟨_,rfl⟩,?_,⟨ki.trans k6,oi.trans o6⟩,ri.kt k6,ai.kt k6,o6 p3 _ n3 n4 n5 hi3⟩
   rw[List.take_succ_eq_append_getElem hil,List.map_append,et,←List.append_assoc]
   exact w6
  ·rintro σ Hi ⟨_,wi,⟨ki,oi⟩,ri,_⟩
   refine k Hi ?_ ki oi
   have e:((ahead tm).reverse.take ws.reverse.length)=(ahead tm).reverse:=by
    rw[List.length_reverse,lr,←List.length_reverse,List.take_length]
   rw[e]at wi
   exact wi
end
noncomputable abbrev gH:=List (Str×List Str×T)
noncomputable def Jh:List Str:=["row","tag","let","call"]
inductive wY(D:gH) (env:Env):T->List T->WS->WS->Prop
 |row {x:T}{ts:List T}{st:WS}:wY D env (.t [.s "row",x]) ts st (st.tell (bD ts))
 |tag {t:Str}{x:T}{ts:List T}{st:WS}:wY D env (.t [.s "tag",.s t,x]) ts st (st.tell (jF t ts))
 |lt {x:Str}{a b t:T}{st:WS}:env.length<=900->wY D env (.t [.s "let",.s x,a,b]) [t] st (st.go b (dh (b9 env [x] [t])))
 |call {f:Str}{x b:T}{ts:List T}{ns:List Str}{st:WS}:tY D f=some (ns,b)->st.many<200->ns.length=ts.length->ns.length<=900->wY D env (.t [.s "call",.s f,x]) ts st (st.one.go b (dh (b9 [] ns ts)))
 |deed {f:Str}{r ts:List T}{row:T}{st st':WS}:nG env (.t (.s f::r)) ts row->¬f∈Jh->yh row st st'->wY D env (.t (.s f::r)) ts st st'
inductive uX(D:gH):T->WS->WS->Prop
 |mk {tm:Tm}{env:Env}{front back:List T}{st st':WS}:Wf tm->tm.size<=900->st.told=front++back->back.length=(ahead tm).length->wY D env (enc tm) back {st with told:=front} st'->uX D (nC (enc tm) (dh env)) st st'
noncomputable def Hv(R:gH->T->WS->WS->Prop)(K:PySem.W.Frag)(C:Addr):Sp:=fun vs H Q _=>∃(H0:Hp) (w:Addr) (a:WA) (st st':WS) (v:V) (r:T),vs=[.ref w,v]/\jE K C H0 w a H st/\Rp K H r v/\Bd st/\R a.D r st st'/\WK K C H0 w a H st' (Q .eW)
theorem Bk{tm:Tm}:(ahead tm).length<=tm.ks.length:=by
 unfold ahead
 exact Nat.le_trans (List.length_take_le' _ _) (by rw[List.length_map];exact Nat.le_refl _)
theorem qZ:∀ks:List Tm,ks.length<=Tm.sizes ks
 | []=>Nat.le_refl _
 |k::r=>by
  have:=qZ r
  obtain⟨h,l⟩:=k
  simp only[Tm.sizes,Tm.size,List.length_cons]
  omega
theorem Dk{tm:Tm}:tm.ks.length<=tm.size:=by
 obtain⟨h,l⟩:=tm
 have:=qZ l
 simp only[Tm.ks,Tm.size]
 omega
section
variable {P:Program}{w:World}{K:PySem.W.Frag}{mg:Str->Option Value}{base:Heap}{C:Addr}
variable {gT gO gI gL gN gA gR gD gB gF:Addr}{tfd ofd ifd lfd nfd afd rfd dfd bfd ffd:FuncData}
theorem aJ:Nm ["work","task","word","term","around","form","things","names","inner"] (af iG):=by decide +kernel
theorem eK:Lm ["work","task","word","term","around","form","things","names","inner"] (af iG):=by decide +kernel
theorem dz:aM ["work","task","word","term","around","form","things","names","inner"] ["work","task"] (af iG):=⟨rfl,rfl,rfl,by decide +kernel,rfl,by decide +kernel,by decide +kernel⟩
theorem Fl{f:Addr}{fd:FuncData}(F:gJ K "end_term" "end_term" iG f fd)(N:sU K C)(TA:bG P w K mg base "told_ahead" 3 ["term"] (sZ K) gA afd)(RO:bG P w K mg base "row_of_term" 1 ["term","things","around"] (yj K) gR rfd)(DR:bG P w K mg base "do_row" 4 ["work","row"] (pO yh K C) gD dfd)(BT:bG P w K mg base "bound_to" 1 ["around","names","things"] (mF K) gB bfd)
  (mTake:dc P w K mg base C "take" 1 ["self","many"] (oq K C) gT tfd) (mTell:dc P w K mg base C "tell" 1 ["self","thing"] (jG K C) gL lfd) (mOne:dc P w K mg base C "do_one" 1 ["self"] (ie K C) gO ofd) (mInto:dc P w K mg base C "go_into" 1 ["self","term","around"] (iI K C) gI ifd) (z_len:mg "len"=none) (z_tuple:mg "tuple"=none):bF P w K mg base dX 5 f fd ["work","task"] (Hv uX K C):=by
 refine F.ok dz (fun vs H Q E h=>?_) (fun cdv A outer s H vs Q E hr h=>?_)
 ·obtain⟨_,_,_,_,_,_,_,rfl,_⟩:=h
  rfl
 obtain⟨H0,o,a,st,st',v,r,rfl,hw,hv,hb,h,k⟩:=h
 refine⟨_,(Z4 (Zi (va aJ 1) (Zf (3) (Ze (ga dz.nd eK 2) (Ze (ga dz.nd eK 3) (aQ (ga dz.nd eK 4) bh))))) (Z4 (Z2 dz.nd eK 5 (Z3 ay (va aJ 3))) (Z4 (Z2 dz.nd eK 6 (Z5 (va aJ 0) mTake (Z1 (Zg bC (Z1 (Z0 TA (Zb (va aJ 3))) aj)) aj))) (Zd (@dU _ _ _ _ _ _ _ _ (Zl (va aJ 5) aq) (Zd (Zk (Z5 (va aJ 0) mTell (Z1 (Z6 (Z1 aq (Z1 (Z9 bH z_tuple PyProof.Rows.boot_tuple (Zb (va aJ 6))) aj))) aj)))) (Zd (@dU _ _ _ _ _ _ _ _ (Zl (va aJ 5) aq) (Zd (Zk (Z5 (va aJ 0) mTell (Z1 (Z6 (Z1 aq (Z1 (Z3 ay (va aJ 3)) (Z1 (Z9 bH z_tuple PyProof.Rows.boot_tuple (Zb (va aJ 6))) aj)))) aj)))) (Zd (@dU _ _ _ _ _ _ _ _ (Zl (va aJ 5) aq) (Zd (Zk (Z5 (va aJ 0) mInto (Z1 (Z3 ay (va aJ 3)) (Z1 (Z0 BT (Z1 (va aJ 4) (Z1 (Z6 (Z1 (Z3 ay (va aJ 3)) aj)) (Zb (va aJ 6))))) aj))))) (Zd (@dU _ _ _ _ _ _ _ _ (Zl (va aJ 5) aq) (Z4 (Zk (gr (va aJ 0) mOne.c mOne.m mOne.ok (hr.mono (by omega)) mOne.bd .nil iP)) (Z4 (Zi (@kq _ _ _ _ _ _ (lX hr) (dI (va aJ 0) rfl) (Z3 ay (va aJ 3)) (fun _ _=>rfl)) (Zf (2) (Ze (ga dz.nd eK 7) (aQ (ga dz.nd eK 8) bh)))) (Zd (Zk (Z5 (va aJ 0) mInto (Z1 (va aJ 8) (Z1 (Z0 BT (Z1 (bV aj) (Z1 (va aJ 7) (Zb (va aJ 6))))) aj))))))) (Zd (Zk (Z0 DR (Z1 (va aJ 0) (Z1 (Z0 RO (Z1 (va aJ 3) (Z1 (va aJ 6) (Zb (va aJ 4))))) aj)))))))))))))))),?_⟩
 try dsimp only[bY]
 have hi:=hw.ins
 have hc:=N.c
 have b1:=hb.t
 have b2:=hb.w
 have b3:=hb.r
 obtain⟨wf,sz,et,lb,h1⟩:=h
 rename_i tm env front back
 obtain⟨ta,u1,u2,u3,rfl,tsq,g1,g2,g3⟩:=hv.t3
 obtain rfl:=g1.aD
 obtain⟨r,er⟩:=wX tm
 have g2':=g2
 have hl9:back.length<=900:=by have:=Bk (tm:=tm);have:=Dk (tm:=tm);omega
 rw[er]at g2 h1
 obtain⟨ra,us,rfl,rsq,a0,rus⟩:=Rp.hd g2
 fail "R"
 intro p H1 ws s1 _ hp1 r1
 obtain⟨w1,k1,o1⟩:=hw.ext s1
 have hi1:=w1.ins
 have lr:=r1.length
 fail "R"
 ·exact(by rw[lr,lb]:[V.ref o,.int (ws.length:Int)]=[V.ref o,.int ((back:List T).length:Int)])
 refine⟨w1,et,hl9,fun H2 p2 vs2 w2 k2 o2 h2 m1 m2 m3 r2=>?_⟩
 have kk:=k1.trans k2
 have oo:=o1.trans o2
 have q2:=g2'.kt kk
 have q3:=g3.kt kk
 have rsq2:=rsq.kt kk
 have rus2:=rus.kt kk
 have hi2:=w2.ins
 have lv:=r2.length
 have c1:({st with told:=front}:WS).told.length<900:=by show front.length<900;rw[et,List.length_append]at b1;omega
 have bd2:Bd {st with told:=front}:=⟨b3,c1,b2⟩
 generalize hh:hdS tm.hd=hs at *
 cases h1 with
 |row =>
  fail "R"
  refine .inl ⟨cR.of h2,fun l hl'=>?_⟩
  have s3:=ae hl' (.tup vs2)
  have hT:upd H2 l (.tup vs2) l=some (.tup vs2):=ah
  fail "R"
  intro p hp
  obtain⟨w4,k4,o4⟩:=w2.ext (s3.trans (ae hp (.tup [.str "row",.ref l])))
  have hi4:=w4.ins
  have r9:Rp K (upd (upd H2 l (.tup vs2)) p (.tup [.str "row",.ref l])) (bD back) (.ref p):=Rp.new (K:=K) hp (xs:=[.s "row",.t back]) (.cons .s (.one (Rp.t (bT.of hT) (r2.same s3))))
  fail "R"
  intro H5 w5 k5 o5
  exact k H5 w5 (kk.trans (k4.trans k5)) (oo.trans (o4.trans o5))
 |@tag t x _ _ =>
  obtain⟨u4,us',rfl,f1,f2⟩:=rus.inv
  obtain rfl:=f1.aD
  obtain⟨u5,us',rfl,f3,f4⟩:=f2.inv
  obtain rfl:=f4.cZ
  fail "R"
  refine .inl ⟨cR.of h2,fun l hl'=>?_⟩
  have s3:=ae hl' (.tup vs2)
  have hT:upd H2 l (.tup vs2) l=some (.tup vs2):=ah
  fail "R"
  intro p hp
  obtain⟨w4,k4,o4⟩:=w2.ext (s3.trans (ae hp (.tup [.str "tag",.str t,.ref l])))
  have hi4:=w4.ins
  have r9:Rp K (upd (upd H2 l (.tup vs2)) p (.tup [.str "tag",.str t,.ref l])) (jF t back) (.ref p):=Rp.new (K:=K) hp (xs:=[.s "tag",.s t,.t back]) (.cons .s (.cons .s (.one (Rp.t (bT.of hT) (r2.same s3)))))
  fail "R"
  intro H5 w5 k5 o5
  exact k H5 w5 (kk.trans (k4.trans k5)) (oo.trans (o4.trans o5))
 |@lt x ta' tb t _ he =>
  obtain⟨u4,us',rfl,f1,f2⟩:=rus.inv
  obtain rfl:=f1.aD
  obtain⟨u5,us',rfl,f3,f4⟩:=f2.inv
  obtain⟨u6,us',rfl,f5,f6⟩:=f4.inv
  obtain rfl:=f6.cZ
  fail "R"
  intro p hp
  have s3:=ae hp (.tup [.str x])
  obtain⟨w3,k3,o3⟩:=w2.ext s3
  have n3:om K true (upd H2 p (.tup [.str x])) p ([x].map V.str):=bT.of ah
  have t3:om K false (upd H2 p (.tup [.str x])) p2 vs2:=cR.of (s3 _ _ h2)
  have e3:=q3.same s3
  have v3:=r2.same s3
  have y3:=rsq2.kt k3
  have z3:=(f5.kt kk).same s3
  fail "R"
  intro H4 u s4 r9
  obtain⟨w4,k4,o4⟩:=w3.ext s4
  have hi4:=w4.ins
  have t4:=z3.same s4
  have bw:({st with told:=front}:WS).waiting.length<1000:=by show st.waiting.length<1000;omega
  fail "R"
  intro H5 w5 k5 o5
  exact k H5 w5 (kk.trans (k3.trans (k4.trans k5))) (oo.trans (o3.trans (o4.trans o5)))
 |@call f' x b _ ns _ hl hm hn hn9 =>
  obtain⟨u4,us',rfl,f1,f2⟩:=rus.inv
  obtain rfl:=f1.aD
  obtain⟨u5,us',rfl,f3,f4⟩:=f2.inv
  obtain rfl:=f4.cZ
  have nD:=N.defs
  fail "R"
  intro H3 w3 k3 o3
  have hi3:=w3.ins
  obtain⟨kvs,dd,da⟩:=w3.dfs
  obtain⟨q,ln,tv,v1,v2,v3,v4,v5⟩:=da f' _ hl
  have dg:gv H3 a.dD (.str f') (some (.ref q)):=by
   have:=gv.k (k:=Sum.inr f') dd
   rw[v1]at this
   exact this
  have y3:=rsq2.kt k3
  fail "R"
  intro p hp
  have s3:=ae hp (.tup [])
  obtain⟨w4,k4,o4⟩:=w3.ext s3
  have e4:Rp K (upd H3 p (.tup [])) (dh []) (.ref p):=Rp.new (K:=K) hp .nil
  have n4:om K false (upd H3 p (.tup [])) ln (ns.map V.str):=cR.of (s3 _ _ v3)
  have t4:om K false (upd H3 p (.tup [])) p2 vs2:=cR.of (s3 _ _ (o3 p2 _ m1 m2 m3 h2))
  have r4:=(r2.kt k3).same s3
  have z4:=v5.same s3
  have he:([]:Env).length<=900:=Nat.zero_le _
  fail "R"
  intro H5 u s5 r9
  obtain⟨w5,k5,o5⟩:=w4.ext s5
  have hi5:=w5.ins
  have t5:=z4.same s5
  have bw:({st with told:=front}:WS).one.waiting.length<1000:=by show st.waiting.length<1000;omega
  fail "R"
  intro H6 w6 k6 o6
  exact k H6 w6 (kk.trans (k3.trans (k4.trans (k5.trans k6)))) (oo.trans (o3.trans (o4.trans (o5.trans o6))))
 |@deed f' r' _ row _ _ hro hnf hrd =>
  have n1:¬V.str hs=V.str "row":=fun z=>by injection z with z;subst z;exact hnf (by decide +kernel)
  have n2:¬V.str hs=V.str "tag":=fun z=>by injection z with z;subst z;exact hnf (by decide +kernel)
  have n3:¬V.str hs=V.str "let":=fun z=>by injection z with z;subst z;exact hnf (by decide +kernel)
  have n4:¬V.str hs=V.str "call":=fun z=>by injection z with z;subst z;exact hnf (by decide +kernel)
  fail "R"
  refine qO (decide_eq_false n1) ?_
  fail "R"
  refine qO (decide_eq_false n2) ?_
  fail "R"
  refine qO (decide_eq_false n3) ?_
  fail "R"
  refine qO (decide_eq_false n4) ?_
  have q2':Rp K H2 (.t (.s hs::r)) (.ref ra):=by rw[←er];exact q2
  fail "R"
  intro H3 q s3 r9
  obtain⟨w3,k3,o3⟩:=w2.ext s3
  have hi3:=w3.ins
  fail "R"
  intro H4 w4 k4 o4
  exact k H4 w4 (kk.trans (k3.trans k4)) (oo.trans (o3.trans o4))
end
inductive rf:T->WS->WS->Prop
 |done {ts:List T}{x y:Str}{b c ar:T}{n:Nat}{st:WS}:ts.length<900->ts.length<=n->rf (jb (fO (bD ts) x y b c ar) n) st st
 |more {ts:List T}{x y:Str}{b c t s:T}{env:Env}{front:List T}{n:Nat}{st:WS}:ts.length<900->ts[n]?=some t->st.told=front++[s]->st.many<200->env.length<=900 ->
   rf (jb (fO (bD ts) x y b c (dh env)) n) st ((({st with told:=front}:WS).one.wait (jb (fO (bD ts) x y b c (dh env)) (n+1))).go c (dh (b9 env [x,y] [t,s])))
theorem Jr(o:Addr)(t:T):[V.ref o,V.int 1]=[V.ref o,V.int (([t]:List T).length:Int)]:=rfl
section
variable {P:Program}{w:World}{K:PySem.W.Frag}{mg:Str->Option Value}{base:Heap}{C:Addr}
variable {gT gO gI gL gN gA gR gD gB gF:Addr}{tfd ofd ifd lfd nfd afd rfd dfd bfd ffd:FuncData}
theorem bq:Nm ["work","task","word","row","at","form","sort","things","x","y","begun","c","around","so_far"] (af iF):=by decide +kernel
theorem bS:Lm ["work","task","word","row","at","form","sort","things","x","y","begun","c","around","so_far"] (af iF):=by decide +kernel
theorem bN:aM ["work","task","word","row","at","form","sort","things","x","y","begun","c","around","so_far"] ["work","task"] (af iF):=⟨rfl,rfl,rfl,by decide +kernel,rfl,by decide +kernel,by decide +kernel⟩
theorem Bl{f:Addr}{fd:FuncData}(F:gJ K "go_round" "go_round" iF f fd)(N:sU K C)(BT:bG P w K mg base "bound_to" 1 ["around","names","things"] (mF K) gB bfd)
  (mTake:dc P w K mg base C "take" 1 ["self","many"] (oq K C) gT tfd) (mOne:dc P w K mg base C "do_one" 1 ["self"] (ie K C) gO ofd) (mInto:dc P w K mg base C "go_into" 1 ["self","term","around"] (iI K C) gI ifd) (z_len:mg "len"=none):bF P w K mg base dX 5 f fd ["work","task"] (pO rf K C):=by
 refine F.ok bN (fun vs H Q E h=>?_) (fun cdv A outer s H vs Q E hr h=>?_)
 ·obtain⟨_,_,_,_,_,_,_,rfl,_⟩:=h
  rfl
 obtain⟨H0,o,a,st,st',v,r,rfl,hw,hv,hb,h,k⟩:=h
 refine⟨_,(Z4 (Zi (va bq 1) (Zf (3) (Ze (ga bN.nd bS 2) (Ze (ga bN.nd bS 3) (aQ (ga bN.nd bS 4) bh))))) (Z4 (Zi (va bq 3) (Zf (7) (Ze (ga bN.nd bS 5) (Ze (Zf (2) (Ze (ga bN.nd bS 6) (aQ (ga bN.nd bS 7) bh))) (Ze (ga bN.nd bS 8) (Ze (ga bN.nd bS 9) (Ze (ga bN.nd bS 10) (Ze (ga bN.nd bS 11) (aQ (ga bN.nd bS 12) bh))))))))) (Zd (Zh (Zn jP (va bq 4) (Zg bC (Zb (va bq 7)))) (Z4 (Zk (gr (va bq 0) mOne.c mOne.m mOne.ok (hr.mono (by omega)) mOne.bd .nil iP)) (Z4 (Z2 bN.nd bS 13 (Zc aA (rT (va bq 0) mTake.c mTake.m mTake.ok (hr.mono (by omega)) mTake.bd .nil iP (Zb ak)) ak)) (Z4 (Zk (Z8 (dI (va bq 0) rfl) (Z1 (Z6 (Z1 aq (Z1 (va bq 3) (Z1 (bK eT (va bq 4) ak) aj)))) aj))) (Zd (Zk (Z5 (va bq 0) mInto (Z1 (va bq 11) (Z1 (Z0 BT (Z1 (va bq 12) (Z1 (Z6 (Z1 (va bq 8) (Zb (va bq 9)))) (Z1 (Z6 (Z1 (lS ay (va bq 7) (va bq 4) (fun _ _=>rfl)) (Zb (va bq 13)))) aj)))) aj)))))))))))),?_⟩
 try dsimp only[bY]
 have hi:=hw.ins
 have hc:=N.c
 have b1:=hb.t
 have b2:=hb.w
 have b3:=hb.r
 have nW:=N.waiting
 cases h with
 |@done ts x y b c ar n _ hl hn =>
  obtain⟨ta,u1,u2,u3,rfl,tsq,g1,g2,g3⟩:=hv.t3
  obtain rfl:=g1.aD
  obtain rfl:=g3.dj
  obtain⟨ra,v1,v2,v3,v4,v5,v6,v7,rfl,rsq,f1,f2,f3,f4,f5,f6,f7⟩:=Rp.t7 g2
  obtain rfl:=f1.aD
  obtain⟨wa,x1,x2,rfl,wsq,e1,e2⟩:=f2.t2
  obtain rfl:=e1.aD
  obtain⟨ya,ys,rfl,ysq,ry⟩:=(show Rp K H (.t ts) x2 from e2).bj
  have ly:=ry.length
  have ysq':cR K H ya ys\/bT K H ya ys:=.inr ysq
  fail "R"
  refine qO (decide_eq_false (by omega)) ?_
  exact k H hw Kt.refl mz.refl
 |@more ts x y b c t s env front n _ hl ht et hm he =>
  obtain⟨ta,u1,u2,u3,rfl,tsq,g1,g2,g3⟩:=hv.t3
  obtain rfl:=g1.aD
  obtain rfl:=g3.dj
  have g2':=g2
  obtain⟨ra,v1,v2,v3,v4,v5,v6,v7,rfl,rsq,f1,f2,f3,f4,f5,f6,f7⟩:=Rp.t7 g2
  obtain rfl:=f1.aD
  obtain rfl:=f3.aD
  obtain rfl:=f4.aD
  obtain⟨wa,x1,x2,rfl,wsq,e1,e2⟩:=f2.t2
  obtain rfl:=e1.aD
  obtain⟨ya,ys,rfl,ysq,ry⟩:=(show Rp K H (.t ts) x2 from e2).bj
  have ly:=ry.length
  have hn:n<ts.length:=(List.getElem?_eq_some_iff.mp ht).1
  have ysq':cR K H ya ys\/bT K H ya ys:=.inr ysq
  fail "R"
  refine I9 (decide_eq_true (by omega)) ?_
  fail "R"
  intro H1 w1 k1 o1
  have hi1:=w1.ins
  fail "R"
  ·exact Jr o s
  refine⟨w1,et,by simp,fun H2 p2 vs2 w2' k2 o2 h2 m1 m2 m3 r2=>?_⟩
  have w2:jE K C H0 o a H2 ({st with told:=front}:WS).one:=w2'
  clear w2'
  obtain⟨sv,q,rfl,rs,rq⟩:=r2.inv
  obtain rfl:=rq.cZ
  have kk:=k1.trans k2
  have oo:=o1.trans o2
  have hi2:=w2.ins
  obtain⟨tv2,ew2,_⟩:=w2.wai
  fail "R"
  intro p hp
  have s3:=ae hp (.tup [.str "round",.ref ra,.int ((n:Int)+1)])
  obtain⟨w3,k3,o3⟩:=w2.ext s3
  have hi3:=w3.ins
  obtain⟨tv,ew,rw3⟩:=w3.wai
  have l3:=rw3.length
  have l4:tv.length<sizeLine:=bu (by have e:(({st with told:=front}:WS).one).waiting.length=st.waiting.length:=rfl;rw[l3,e];omega)
  iterate 12 fail "T"
  obtain⟨w4',k4,o4⟩:=w3.A6 (rw3.snoc (Rp.new (K:=K) hp (xs:=[.s "round",fO (bD ts) x y b c (dh env),.i ((n:Int)+1)]) (.cons .s (.cons (g2'.kt kk) (.one .i)))))
  have w4:jE K C H0 o a _ (({st with told:=front}:WS).one.wait (jb (fO (bD ts) x y b c (dh env)) (n+1))):=w4'
  clear w4'
  have k4':=kk.trans (k3.trans k4)
  have o4':=oo.trans (o3.trans o4)
  have y4:=ysq.kt k4'
  have f7':=f7.kt k4'
  have f6':=f6.kt k4'
  have ry':=ry.kt k4'
  have rs':=rs.kt (k3.trans k4)
  generalize upd (upd H2 p (.tup [.str "round",.ref ra,.int ((n:Int)+1)])) a.lW (.lst (tv++[.ref p]))=H4 at w4 k4 o4 k4' o4' y4 f7' f6' ry' rs' ⊢
  obtain⟨u,hu,ru⟩:=bB.get ry' ht
  have ix:fR ys (n:Int)=some u:=aN hu
  have hi4:=w4.ins
  fail "R"
  intro p5 hp5
  have s5:=ae hp5 (.tup [.str x,.str y])
  have y5:=y4.kt (Kt.same s5)
  fail "R"
  intro p6 hp6
  have s6:=ae hp6 (.tup [u,sv])
  have s56:=s5.trans s6
  have n5:om K true (upd (upd H4 p5 (.tup [.str x,.str y])) p6 (.tup [u,sv])) p5 ([x,y].map V.str):=bT.of (s6 _ _ ah)
  have n6:om K true (upd (upd H4 p5 (.tup [.str x,.str y])) p6 (.tup [u,sv])) p6 [u,sv]:=bT.of ah
  have f8:=f7'.same s56
  have r8:bB K (upd (upd H4 p5 (.tup [.str x,.str y])) p6 (.tup [u,sv])) [t,s] [u,sv]:=.cons (ru.same s56) (.one (rs'.same s56))
  obtain⟨w6,k6,o6⟩:=w4.ext s56
  have f9:=f6'.same s56
  fail "R"
  intro H7 u7 s7 r7
  obtain⟨w7,k7,o7⟩:=w6.ext s7
  have hi7:=w7.ins
  have t7:=f9.same s7
  have bw:(({st with told:=front}:WS).one.wait (jb (fO (bD ts) x y b c (dh env)) (n+1))).waiting.length<1000:=by
   show(st.waiting++[_]).length<1000
   rw[List.length_append]
   have:([jb (fO (bD ts) x y b c (dh env)) (n+1)]:List T).length=1:=rfl
   omega
  fail "R"
  intro H8 w8 k8 o8
  exact k H8 w8 (k4'.trans (k6.trans (k7.trans k8))) (o4'.trans (o6.trans (o7.trans o8)))
end
inductive wZ(D:gH) (r:T) (st st':WS):Prop
 |beg (h:pS r st st')
 |fin (h:uX D r st st')
 |rnd (h:rf r st st')
inductive Runs(D:gH):Nat->WS->WS->Prop
 |done {st:WS}:st.waiting=[]\/st.failed=true->Runs D 0 st st
 |step {n:Nat}{st st1 st':WS}{r:T}{ws:List T}:st.failed=false->st.waiting=ws++[r]->Bd st->wZ D r {st with waiting:=ws} st1->Runs D n st1 st'->Runs D (n+1) st st'
noncomputable def Ends(K:PySem.W.Frag)(C:Addr)(H0:Hp)(w:Addr)(a:WA)(st':WS)(H':Hp)(u:V):Prop:=(st'.failed=true/\u=.eW/\jE K C H0 w a H' st')\/st'.failed=false/\∃t,st'.told=[t]/\jE K C H0 w a H' {st' with told:=[]}/\Rp K H' t u
noncomputable def uY(K:PySem.W.Frag)(C:Addr):Sp:=fun vs H Q _=>∃(H0:Hp) (w:Addr) (a:WA) (st st':WS) (n:Nat),vs=[.ref w]/\jE K C H0 w a H st/\Runs a.D n st st'/\(st'.failed=false->∃t,st'.told=[t]) /\
 ∀(H':Hp) (u:V),Kt H H'->mz a H H'->Ends K C H0 w a st' H' u->Q u H'
noncomputable def Hw(K:PySem.W.Frag)(C:Addr)(H H0:Hp)(w:Addr)(a:WA)(st':WS)(m:Nat)(σ:St)(H':Hp):Prop :=
 (∃tv dv,σ=[some (.ref w),tv,dv])/\∃st1,jE K C H0 w a H' st1/\Kt H H'/\mz a H H'/\Runs a.D m st1 st'
section
variable {P:Program}{w:World}{K:PySem.W.Frag}{mg:Str->Option Value}{base:Heap}{C:Addr}
variable {gT gB gE:Addr}{tfd bfd efd:FuncData}
structure yl(P:Program) (w:World) (K:PySem.W.Frag) (mg:Str->Option Value) (base:Heap) (C:Addr) (kvs:List (Str×V)):Prop where
 term:kJ P w K mg base kvs 5 ["work","task"] "term" (Hv (fun _=>pS) K C)
 rest:kJ P w K mg base kvs 5 ["work","task"] "rest" (Hv uX K C)
 round:kJ P w K mg base kvs 5 ["work","task"] "round" (Hv (fun _=>rf) K C)
theorem yl.get{kvs:List (Str×V)}(D:yl P w K mg base C kvs){E:gH}{r:T}{st st':WS}(h:wZ E r st st'):∃f q R,r=.t (.s f::q)/\R E r st st'/\kJ P w K mg base kvs 5 ["work","task"] f (Hv R K C):=by
 cases h with
 |beg h =>
  obtain⟨q,e⟩:∃q,r=.t (.s "term"::q):=by cases h<;>exact⟨_,rfl⟩
  exact⟨"term",q,fun _=>pS,e,h,D.term⟩
 |fin h =>
  obtain⟨q,e⟩:∃q,r=.t (.s "rest"::q):=by cases h<;>exact⟨_,rfl⟩
  exact⟨"rest",q,uX,e,h,D.rest⟩
 |rnd h =>
  obtain⟨q,e⟩:∃q,r=.t (.s "round"::q):=by cases h<;>exact⟨_,rfl⟩
  exact⟨"round",q,fun _=>rf,e,h,D.round⟩
theorem eO:Nm ["work","task","deed"] (af jo):=by decide +kernel
theorem rh:Lm ["work","task","deed"] (af jo):=by decide +kernel
theorem nh:aM ["work","task","deed"] ["work"] (af jo):=⟨rfl,rfl,rfl,by decide +kernel,rfl,by decide +kernel,by decide +kernel⟩
theorem zE{f d:Addr}{fd:FuncData}{kvs:List (Str×V)}(F:gJ K "finish" "finish" jo f fd)(N:sU K C)(TK:yl P w K mg base C kvs)
  (mTake:dc P w K mg base C "take" 1 ["self","many"] (oq K C) gT tfd) (m_TASKS:mg "TASKS"=some (.ref d)) (kD:KD K w d kvs):bF P w K mg base dX 6 f fd ["work"] (uY K C):=by
 refine F.ok nh (fun vs H Q E h=>?_) (fun cdv A outer s H vs Q E hr h=>?_)
 ·obtain⟨_,_,_,_,_,_,rfl,_⟩:=h
  rfl
 obtain⟨H0,o,a,st,st',n,rfl,hw,hR,hE,k⟩:=h
 have hT:∀g sp,(∃fd,bF P w K mg base dX 5 g fd ["work","task"] sp/\PySem.W.keepIn K (.ref g)=true/\Binds K fd ["work","task"] [])->∃k fd ps,bF P w K mg base dX k g fd ps sp/\cT k (A.deeper (PyProof.Rows.envOfC "finish" (af jo) s.heap.objs.size f cdv))/\PySem.W.keepIn K (.ref g)=true/\Binds K fd ps []:=by
  rintro g sp ⟨fd,h1,h2,h3⟩
  exact⟨5,_,_,h1,hr,h2,h3⟩
 refine⟨_,(Z4 (@Ac _ _ _ _ _ _ PassesOwn.never (PW.pt (@jx _ _ _ _ _ _ _ (@cW _ _ _ (dI (va eO 0) rfl) (fun _=>rfl)) (@iN _ _ _ _ (@zZ _ _ _ _ (@cW _ _ _ (dI (va eO 0) rfl) (fun _=>rfl)))))) (Z4 (Z2 nh.nd rh 1 (@Aq _ _ _ _ _ _ _ _ _ PySem.F.plainAttrs_list PySem.F.slot_list_pop PySem.F.type_list_pop Ar (dI (va eO 0) rfl) (by rfl) (by rfl))) (Z4 (Z2 nh.nd rh 2 (@nZ _ _ _ _ _ _ (iM (by show _=_;kernel_rfl) m_TASKS (show RelV (.ref _) _ from rfl)) (Z3 ay (va eO 1)) (fun _ _=>rfl))) (Zd (Zk (@uO _ _ _ _ _ _ _ _ _ hT (va eO 2) (Z1 (va eO 0) (Zb (va eO 1))) (by rfl) (by rfl))))))) (Zd (Zm (@jg _ _ _ _ _ _ _ _ (@cW _ _ _ (dI (va eO 0) rfl) (fun _=>rfl)) oH (Zc aA (rT (va eO 0) mTake.c mTake.m mTake.ok (hr.mono (by omega)) mTake.bd .nil iP (Zb ak)) ak))))),?_⟩
 try dsimp only[bY]
 have hc:=N.c
 have n1:=N.waiting
 have n2:=N.failed
 refine⟨Hw K C H H0 o a st',⟨n,⟨_,_,rfl⟩,st,hw,Kt.refl,mz.refl,hR⟩,?_⟩
 rintro m σ H1 ⟨⟨tv,dv,rfl⟩,st1,w1,k1,o1,hR1⟩
 have hi:=w1.ins
 obtain⟨wv,ew,rw1⟩:=w1.wai
 cases hR1 with
 |done hd =>
  obtain⟨mn,fl,rws,tl,wt⟩:=st'
  cases fl with
  |true =>
   cases wv with
   |nil =>
    fail "R"
    exact k H1 _ k1 o1 (.inl ⟨rfl,rfl,w1⟩)
   |cons v vs =>
    have hne:(!(v::vs).isEmpty)=true:=rfl
    fail "R"
    exact k H1 _ k1 o1 (.inl ⟨rfl,rfl,w1⟩)
  |false =>
   obtain rfl:wt=[]:=by
    rcases hd with hd|hd
    ·exact hd
    ·cases hd
   obtain rfl:=(show bB K H1 [] wv from rw1).cZ
   obtain⟨t,et⟩:=hE rfl
   obtain rfl:tl=[t]:=et
   fail "R"
   ·exact Jr o t
   refine⟨w1,(by rfl:[t]=[]++[t]),by simp,fun H2 p2 vs2 w2 k2 o2 h2 m1 m2 m3 r2=>?_⟩
   obtain⟨u,q,rfl,ru,rq⟩:=r2.inv
   obtain rfl:=rq.cZ
   fail "R"
   exact k H2 u (k1.trans k2) (o1.trans o2) (.inr ⟨rfl,t,rfl,w2,ru⟩)
 |@step n' _ st2 _ r ws hf ew' hb ht hr2 =>
  obtain⟨mn,fl,rws,tl,wt⟩:=st1
  obtain rfl:fl=false:=hf
  obtain rfl:wt=ws++[r]:=ew'
  obtain⟨us,ul,rfl,r3,r4⟩:=rw1.split
  obtain⟨u,q,rfl,ru,rq⟩:=r4.inv
  obtain rfl:=rq.cZ
  have hg:(us++[u])[(us++[u]).length-1]?=some u:=by simp
  have hne:(!(us++[u]).isEmpty)=true:=by simp
  obtain⟨w2,k2,o2⟩:=w1.A6 r3
  have ed:(us++[u]).dropLast=us:=List.dropLast_concat
  rw[←ed]at w2 k2 o2
  obtain⟨f',q,R,rfl,hR',⟨g,gd,lg,og,kg,bg⟩⟩:=TK.get ht
  have ru':=ru
  obtain⟨ta,us',rfl,tsq,a0,_⟩:=Rp.hd ru
  have tsq2:=tsq.kt k2
  have ru2:=ru'.kt k2
  have bd2:Bd ⟨mn,false,rws,tl,ws⟩:=⟨hb.r,hb.t,by have:=hb.w;simp only[List.length_append]at this;show ws.length<900;omega⟩
  fail "R"
  refine I9 hne ?_
  fail "R"
  refine⟨fun σ' H''=>∃m',m' < n'+1/\Hw K C H H0 o a st' m' σ' H'',fun _ _ z=>z,?_⟩
  fail "R"
  intro H3 w3 k3 o3
  exact⟨n',Nat.lt_succ_self _,⟨_,_,rfl⟩,st2,w3,k1.trans (k2.trans k3),o1.trans (o2.trans o3),hr2⟩
end
noncomputable abbrev Def:=Str×List (Str×T)×T
noncomputable def zF(d:Def):T:=.t [.s d.1,.t (d.2.1.map pT),d.2.2]
noncomputable def Bm(kd:T)(ds:List Def):T:=.t [kd,.t (ds.map zF)]
noncomputable def xg(d:Def):Str×List Str×T:=(d.1,d.2.1.map (·.1),d.2.2)
noncomputable def uZ(K:PySem.W.Frag)(H:Hp)(kvs:List (Key×V))(D:gH):Prop:=∀x:Str,∀y,tY D x=some y ->
 ∃(q ln:Addr) (tv:V),dY kvs (Sum.inr x)=some (.ref q)/\H q=some (.tup [.ref ln,tv])/\H ln=some (.lst (y.1.map V.str))/\Rp K H y.2 tv
theorem j9:∀(D:gH) (a:Str×List Str×T) (x:Str),tY (D++[a]) x=if a.1=x then some a.2 else tY D x
 | [],a,x=>by simp[tY]
 |b::r,a,x=>by
  rw[List.cons_append,tY,j9 r a x,tY]
  by_cases c:a.1=x
  ·rw[if_pos c,if_pos c];rfl
  ·rw[if_neg c,if_neg c]
theorem uZ.same{K:PySem.W.Frag}{H H':Hp}{kvs:List (Key×V)}{D:gH}(h:uZ K H kvs D)(s:br H H'):uZ K H' kvs D:=fun x y e=>by
 obtain⟨q,ln,tv,h1,h2,h3,h4⟩:=h x y e
 exact⟨q,ln,tv,h1,s _ _ h2,s _ _ h3,h4.same s⟩
theorem uZ.put{K:PySem.W.Frag}{H:Hp}{kvs:List (Key×V)}{D:gH}(h:uZ K H kvs D){d:Str×List Str×T}{q ln:Addr}{tv:V}(hq:H q=some (.tup [.ref ln,tv]))(hn:H ln=some (.lst (d.2.1.map V.str)))(ht:Rp K H d.2.2 tv):uZ K H (putK kvs (Sum.inr d.1) (.ref q)) (D++[d]):=fun x y e=>by
 rw[j9]at e
 by_cases c:d.1=x
 ·rw[if_pos c]at e
  cases e
  refine⟨q,ln,tv,?_,hq,hn,ht⟩
  rw[jY,if_pos (by rw[c])]
 ·rw[if_neg c]at e
  obtain⟨q',ln',tv',h1,h2⟩:=h x y e
  refine⟨q',ln',tv',?_,h2⟩
  rw[jY,if_neg (fun z=>c (by injection z with z;exact z.symm))]
  exact h1
noncomputable def Bo(K:PySem.W.Frag)(C:Addr):Sp:=fun vs H Q _=>∃(H0:Hp) (o dx:Addr) (v:V) (kd:T) (ds:List Def),vs=[.ref o,v,.int 200]/\br H0 H/\H0 o=none/\H o=some (.ins C dx [])/\Rp K H (Bm kd ds) v/\ds.length<=900/\(∀d∈ds,d.2.1.length<=900) /\
 ∀(H':Hp) (a:WA),jE K C H0 o a H' ⟨0,false,[],[],[]⟩->Kt H H'->a.D=ds.map xg->Q .eW H'
theorem Dl(dx d lR lT lW:Addr)(D:gH):fB "waiting" (.ref lW) (fB "told" (.ref lT) (fB "failed" (.bl false) (fB "rows" (.ref lR) (fB "many" (.int 0) (fB "most" (.int 200) (fB "defs" (.ref d) []))))))=nU ⟨dx,d,lR,lT,lW,D⟩ ⟨0,false,[],[],[]⟩:=by kernel_rfl
section
variable {P:Program}{w:World}{K:PySem.W.Frag}{mg:Str->Option Value}{base:Heap}{C:Addr}
theorem cu:Nm ["self","program","most"] (af gy):=by decide +kernel
theorem tq:aM ["self","program","most"] ["self","program","most"] (af gy):=⟨rfl,rfl,rfl,by decide +kernel,rfl,by decide +kernel,by decide +kernel⟩
theorem Dm{f:Addr}{fd:FuncData}(F:gJ K "__init__" "Work.__init__" gy f fd)(N:sU K C):bF P w K mg base dX 1 f fd ["self","program","most"] (Bo K C):=by
 refine F.ok tq (fun vs H Q E h=>?_) (fun cdv A outer s H vs Q E hr h=>?_)
 ·obtain⟨_,_,_,_,_,_,rfl,_⟩:=h
  rfl
 obtain⟨H0,o,dx,v,kd,ds,rfl,hs,h0,ho,hv,hds,hps,k⟩:=h
 refine⟨_,(Z4 (@jA _ _ _ _ _ _ _ _ (va cu 0) (@zu _ _ _ _ _ _ _ _ _ _ _ _ _ (af gy) ["self","program","most"] ["name","params","term"] [] rfl rfl rfl (by decide +kernel) (@jT _ _ _ _ (Z3 ay (va cu 1))) (fun _ _ _ _=>(Zf (3) (Ze (Za (i:=0) (show(["name","params","term"]:List Str).Nodup by decide +kernel)) (Ze (Za (i:=1) (show(["name","params","term"]:List Str).Nodup by decide +kernel)) (aQ (Za (i:=2) (show(["name","params","term"]:List Str).Nodup by decide +kernel)) bh))))) (fun _ _ _ _=>cN) (fun _ _ _ _=>(va (show Nm ["name","params","term"] _ by show _=_;kernel_rfl) 0)) (fun _ _ _ _=>(Z6 (Z1 (@dR _ _ _ _ _ _ _ _ _ _ _ _ ["name","params","term"] ["param","kind"] [] rfl rfl rfl (by kernel_rfl) (Dd K rfl (va (show Nm ["name","params","term"] _ by show _=_;kernel_rfl) 1)) (fun _ _ _ _=>(Zf (2) (Ze (Za (i:=0) (show(["param","kind"]:List Str).Nodup by decide +kernel)) (aQ (Za (i:=1) (show(["param","kind"]:List Str).Nodup by decide +kernel)) bh)))) (fun _ _ _ _=>cN) (fun _ _ _ _=>(va (show Nm ["param","kind"] _ by show _=_;kernel_rfl) 0)) (by intro _;rfl)) (Zb (va (show Nm ["name","params","term"] _ by show _=_;kernel_rfl) 2))))) (by intro _;rfl)) rfl) (Z4 (jA (va cu 0) (va cu 2) rfl) (Z4 (jA (va cu 0) ak rfl) (Z4 (jA (va cu 0) (b8 aj) rfl) (Z4 (jA (va cu 0) zY rfl) (Z4 (jA (va cu 0) (b8 aj) rfl) (Zd (jA (va cu 0) (b8 aj) rfl)))))))),?_⟩
 try dsimp only[bY]
 have hc:=N.c
 have n1:=N.defs
 have n2:=N.most
 have n3:=N.many
 have n4:=N.rows
 have n5:=N.failed
 have n6:=N.told
 have n7:=N.waiting
 obtain⟨pa,u1,u2,rfl,psq,g1,g2⟩:=hv.t2
 obtain⟨da,zs,rfl,dsq,r5⟩:=g2.bj
 have lz:=r5.length
 rw[List.length_map]at lz
 fail "R"
 refine qU (xs:=zs) (fun i σ kvs Hc=>(∃x y z,σ=[x,y,z])/\br H Hc/\kvs.length<=i/\uZ K Hc kvs ((ds.map xg).take i)) ⟨⟨_,_,_,rfl⟩,br.refl _,Nat.le_refl _,fun x y e=>nomatch e⟩ ?_ (fX (by omega)) ?_ ?_ ?_
 ·rintro i σ kvs Hc hi ⟨_,_,h,_⟩
  exact h
 ·rintro i σ kvs Hc hi ⟨_,sm,h⟩
  exact dsq.kt (Kt.same sm)
 ·rintro i x σ kvs Hc hx ⟨⟨x0,y0,z0,rfl⟩,sm,hlen,hat⟩
  obtain⟨y,hy,ry⟩:=r5.get' hx
  rw[List.getElem?_map]at hy
  obtain⟨d,hp,rfl⟩:=Option.map_eq_some_iff.mp hy
  have hil:i<ds.length:=(List.getElem?_eq_some_iff.mp hp).1
  have ep:ds[i]=d:=(List.getElem?_eq_some_iff.mp hp).2
  have hmem:d∈ds:=ep▸List.getElem_mem hil
  have hxs:=hps d hmem
  obtain⟨fn,ps,t⟩:=d
  obtain⟨fa,u4,u5,u6,rfl,fsq,g4,g5,g6⟩:=(show Rp K H (.t [.s fn,.t (ps.map pT),t]) x from ry).t3
  obtain rfl:=g4.aD
  obtain⟨xa,xvs,rfl,xsq,xr⟩:=g5.bj
  have f3:=fsq.kt (Kt.same sm)
  have x3:=xsq.kt (Kt.same sm)
  fail "R"
  have lx:=xr.length
  rw[List.length_map]at lx
  have hxs':ps.length<=900:=hxs
  refine jj (xs:=xvs) (fun i σ us Hd=>(∃x y,σ=[x,y])/\Hd=Hc/\us=((ps.map (·.1)).take i).map V.str) ⟨⟨_,_,rfl⟩,rfl,rfl⟩ ?_ (fX (by omega)) ?_ ?_ ?_
  ·rintro i σ us Hd hi ⟨_,_,rfl⟩
   rw[List.length_map,List.length_take];omega
  ·rintro i σ us Hd hi ⟨_,rfl,_⟩
   exact xsq.kt (Kt.same sm)
  ·rintro j x σ us Hd hx ⟨⟨x1,y1,rfl⟩,rfl,rfl⟩
   obtain⟨y,hy,ry⟩:=xr.get' hx
   rw[List.getElem?_map]at hy
   obtain⟨nm,hp,rfl⟩:=Option.map_eq_some_iff.mp hy
   have hjl:j<(ps.map (·.1)).length:=by rw[List.length_map];exact(List.getElem?_eq_some_iff.mp hp).1
   have ep':(ps.map (·.1))[j]=nm.1:=by rw[List.getElem_map,(List.getElem?_eq_some_iff.mp hp).2]
   obtain⟨ra,w1,w2,rfl,sq,h1,h2⟩:=(show Rp K H (.t [.s nm.1,nm.2]) x from ry).t2
   obtain rfl:=h1.aD
   have sq':=sq.kt (Kt.same sm)
   fail "R"
   rw[List.take_succ_eq_append_getElem hjl,List.map_append,ep']
   rfl
  ·rintro σ us Hd ⟨_,rfl,rfl⟩ p hp
   rw[lx,show(ps.map (·.1)).take ps.length=ps.map (·.1)from List.take_of_length_le (by rw[List.length_map];exact Nat.le_refl _)]
   fail "R"
   intro q hq
   fail "R"
   ·exact(Eq.refl (kV (Sum.inr fn)))
   have npq:p≠q:=fun z=>by subst z;rw[ah]at hq;cases hq
   have s2:=(ae hp (.lst ((ps.map (·.1)).map V.str))).trans (ae hq (.tup [.ref p,u6]))
   refine⟨⟨_,_,_,rfl⟩,sm.trans s2,?_,?_⟩
   ·exact Nat.le_trans (uU kvs _ _) (by omega)
   ·have hil':i<(ds.map xg).length:=by rw[List.length_map];exact hil
    rw[List.take_succ_eq_append_getElem hil',List.getElem_map,ep]
    exact uZ.put (d:=xg (fn,ps,t)) (hat.same s2) ah (by rw[au npq];exact ah) (g6.same (sm.trans s2))
 ·rintro σ kvs Hc ⟨_,sm,hlen,hat⟩ d hd
  rw[lz,show(ds.map xg).take ds.length=ds.map xg from List.take_of_length_le (by rw[List.length_map];exact Nat.le_refl _)]at hat
  have s1:=sm.trans (ae hd (.dK kvs))
  have at1:=hat.same (ae hd (.dK kvs))
  have d1:upd Hc d (.dK kvs) d=some (.dK kvs):=ah
  have od:o≠d:=aF (sm _ _ ho) hd
  generalize upd Hc d (.dK kvs)=H1 at s1 at1 d1⊢
  have o1:=s1 _ _ ho
  fail "R"
  simp only[Cz]
  intro lR hR
  have nR:o≠lR:=fun z=>by subst z;rw[ah]at hR;cases hR
  fail "R"
  intro lT hT
  have nT:o≠lT:=fun z=>by subst z;rw[ah]at hT;cases hT
  fail "R"
  intro lW hW
  have nW:o≠lW:=fun z=>by subst z;rw[ah]at hW;cases hW
  fail "R"
  rw[Dl dx d lR lT lW (ds.map xg)]
  rw[au nR.symm]at hR
  have nTR:lT≠lR:=fun z=>by subst z;rw[au nT.symm,au nT.symm,ah]at hT;cases hT
  rw[au nT.symm,au nT.symm,au nTR,au nT.symm]at hT
  have nWT:lW≠lT:=fun z=>by subst z;rw[au nW.symm,ah]at hW;cases hW
  have nWR:lW≠lR:=fun z=>by subst z;rw[au nW.symm,au nWT,au nW.symm,au nW.symm,ah]at hW;cases hW
  rw[au nW.symm,au nWT,au nW.symm,au nW.symm,au nWR,au nW.symm]at hW
  have old:∀{x1 x2 x3 x4 x5:HO} b u,b≠o->H1 b=some u->upd (upd (upd (upd (upd (upd (upd (upd H1 o x1) lR (.lst [])) o x2) o x3) lT (.lst [])) o x4) lW (.lst [])) o x5 b=some u:=fun b u hb e=>by
   rw[au hb,au (aF e hW),au hb,au (aF e hT),au hb,au hb,au (aF e hR),au hb];exact e
  have hd0:∀{b:Addr},H1 b=none->H0 b=none:=fun{b} e=>by
   cases q:H0 b with
   |none=>rfl
   |some u=>rw[s1 _ _ (hs _ _ q)]at e;cases e
  have kt:∀{x1 x2 x3 x4 x5:HO},Kt H1 (upd (upd (upd (upd (upd (upd (upd (upd H1 o x1) lR (.lst [])) o x2) o x3) lT (.lst [])) o x4) lW (.lst [])) o x5):=fun{x1 x2 x3 x4 x5} b ys hb=>by
   rcases hb with hb|⟨z,hb⟩
   ·exact .inl (old b _ (cF hb o1 (fun z=>nomatch z)) hb)
   ·exact .inr ⟨z,old b _ (cF hb o1 (fun z=>nomatch z)) hb⟩
  refine k _ ⟨dx,d,lR,lT,lW,ds.map xg⟩ ⟨fun b u n e=>?_,hd0 hR,hd0 hT,hd0 hW,nWT.symm,nTR.symm,nWR.symm,ah,⟨[],?_,.nil⟩,⟨[],?_,.nil⟩,⟨[],?_,.nil⟩,kvs,?_,?_⟩ ((Kt.same s1).trans kt) rfl
  ·exact old b u n (s1 _ _ (hs _ _ e))
  ·show upd _ o _ lR=_
   rw[au nR.symm,au nWR.symm,au nR.symm,au nTR.symm,au nR.symm,au nR.symm];exact ah
  ·show upd _ o _ lT=_
   rw[au nT.symm,au nWT.symm,au nT.symm];exact ah
  ·show upd _ o _ lW=_
   rw[au nW.symm];exact ah
  ·exact old d _ od.symm d1
  ·intro x y e
   obtain⟨q,ln,tv,h1,h2,h3,h4⟩:=at1 x y e
   exact⟨q,ln,tv,h1,bT.kt kt (bT.of h2),old ln _ (cF h3 o1 (fun z=>nomatch z)) h3,⟨aF h3 hR,aF h3 hT,aF h3 hW⟩,h4.kt kt⟩
end
noncomputable def resT(st:WS):T:=if st.failed=true then .t [.s "fault"]else .t [.s "sheet",.t [st.told.headD .n,.t st.rows],.i st.many]
noncomputable def vc(K:PySem.W.Frag):Sp:=fun vs H Q _=>∃(v:V) (lt:Addr) (b:Bool) (kd:T) (ds:List Def) (d:Def) (ts:List T) (tvs:List V) (st':WS) (n:Nat),vs=[v,.ref lt,.int 200]/\Rp K H (Bm kd (ds++[d])) v/\om K b H lt tvs/\bB K H ts tvs/\d.2.1.length=ts.length/\ds.length<900/\(∀d'∈ds++[d],d'.2.1.length<=900) /\
 Runs ((ds++[d]).map xg) n ⟨0,false,[],[],[eY d.2.2 (dh (b9 [] (d.2.1.map (·.1)) ts))]⟩ st'/\(st'.failed=false->∃t,st'.told=[t]) /\
 ∀(H':Hp) (u:V),br H H'->Rp K H' (resT st') u->Q u H'
section
variable {P:Program}{w:World}{K:PySem.W.Frag}{mg:Str->Option Value}{base:Heap}{C:Addr}
variable {gB gF gI gT:Addr}{bfd ffd ifd tfd:FuncData}
theorem fY:Nm ["program","inputs","most","work","names","term","thing"] (af uJ):=by decide +kernel
theorem tu:Lm ["program","inputs","most","work","names","term","thing"] (af uJ):=by decide +kernel
theorem pU:aM ["program","inputs","most","work","names","term","thing"] ["program","inputs","most"] (af uJ):=⟨rfl,rfl,rfl,by decide +kernel,rfl,by decide +kernel,by decide +kernel⟩
theorem Fo{f:Addr}{fd:FuncData}(F:gJ K "run" "run" uJ f fd)(N:sU K C)(MK:Mk K C gI)(INI:dc P w K mg base C "__init__" 1 ["self","program","most"] (Bo K C) gI ifd)(m_Work:mg "Work"=some (.ref C))(BT:bG P w K mg base "bound_to" 1 ["around","names","things"] (mF K) gB bfd)(FI:bG P w K mg base "finish" 6 ["work"] (uY K C) gF ffd)
  (mInto:dc P w K mg base C "go_into" 1 ["self","term","around"] (iI K C) gT tfd) (z_tuple:mg "tuple"=none):bF P w K mg base dX 7 f fd ["program","inputs","most"] (vc K):=by
 refine F.ok pU (fun vs H Q E h=>?_) (fun cdv A outer s H vs Q E hr h=>?_)
 ·obtain⟨_,_,_,_,_,_,_,_,_,_,rfl,_⟩:=h
  rfl
 obtain⟨v,lt,b,kd,ds,d,ts,tvs,st',n,rfl,hv,ht,r,hl,hds,hps,hR,hE,k⟩:=h
 refine⟨_,(Z4 (Z2 pU.nd tu 3 (@CG _ _ _ _ _ _ _ _ _ _ _ _ _ _ _ _ _ MK INI.ok (hr.mono (by omega)) (by show _=_;kernel_rfl) m_Work INI.bd .nil iP (@aU _ _ _ _ _ (va fY 0) (aU (va fY 2) aj) (by rfl)) (by decide) (by rfl) (by rfl))) (Z4 (Zi (@kq _ _ _ _ _ _ (lX hr) (dI (va fY 3) rfl) (Zc ay (Zc ay (Z3 ay (va fY 0)) (oK kZ ak)) ak) (fun _ _=>rfl)) (Zf (2) (Ze (ga pU.nd tu 4) (aQ (ga pU.nd tu 5) bh)))) (Z4 (Zk (Z5 (va fY 3) mInto (Z1 (va fY 5) (Z1 (Z0 BT (Z1 (bV aj) (Z1 (va fY 4) (Zb (va fY 1))))) aj)))) (Z4 (Z2 pU.nd tu 6 (Z0 FI (Zb (va fY 3)))) (Z4 (Zh (@cW _ _ _ (dI (va fY 3) rfl) (fun _=>rfl)) (Zd (Zm (bV (Zb aq))))) (Zd (Zm (Z6 (Z1 aq (Z1 (Z6 (Z1 (va fY 6) (Z1 (Z9 bH z_tuple PyProof.Rows.boot_tuple (Z1 (dI (va fY 3) rfl) aj)) aj))) (Z1 (dI (va fY 3) rfl) aj))))))))))),?_⟩
 try dsimp only[bY]
 have hc:=N.c
 have n1:=N.defs
 have n2:=N.failed
 have n3:=N.rows
 have n4:=N.many
 obtain⟨pa,u1,u2,rfl,psq,g1,g2⟩:=id hv.t2
 obtain⟨da,zs,rfl,dsq,g3⟩:=g2.bj
 rw[List.map_append]at g3
 obtain⟨us,ul,rfl,_,g4⟩:=g3.split
 obtain⟨u3,q,rfl,g5,g6⟩:=(show bB K H [zF d] ul from g4).inv
 obtain rfl:=g6.cZ
 obtain⟨fn,ps,t⟩:=d
 obtain⟨fa,u4,u5,u6,rfl,fsq,g7,g8,g9⟩:=(show Rp K H (.t [.s fn,.t (ps.map pT),t]) u3 from g5).t3
 obtain rfl:=g7.aD
 fail "R"
 intro o dx ho hdx hne
 have s0:br H (upd (upd H dx (.own o)) o (.ins C dx [])):=(ae hdx _).trans (ae (by rw[au hne.symm];exact ho) _)
 have hds':(ds++[(fn,ps,t)]).length<=900:=by rw[List.length_append];simp;omega
 refine⟨H,o,dx,_,kd,_,rfl,s0,ho,ah,hv.same s0,hds',hps,fun H1 a w1 k1 eD=>⟨rfl,?_⟩⟩
 have hi1:=w1.ins
 have sm1:br H H1:=fun b u e=>w1.same b u (aF e ho) e
 have psq1:=psq.kt (Kt.same sm1)
 have dsq1:=dsq.kt (Kt.same sm1)
 have fsq1:=fsq.kt (Kt.same sm1)
 have il:=uu us (.ref fa)
 obtain⟨kvs,dd,dat⟩:=w1.dfs
 rw[eD]at dat
 have lk1:tY ((ds++[(fn,ps,t)]).map xg) fn=some (ps.map (·.1),t):=by rw[List.map_append];show tY (_++[xg (fn,ps,t)]) fn=_;rw[j9];exact if_pos rfl
 obtain⟨q,ln,tv,v1,v2,v3,v4,v5⟩:=dat fn _ lk1
 have dg:gv H1 a.dD (.str fn) (some (.ref q)):=by
  have:=gv.k (k:=Sum.inr fn) dd
  rw[v1]at this
  exact this
 fail "R"
 intro p hp
 have sp:=ae hp (.tup [])
 obtain⟨w2,k2,o2⟩:=w1.ext sp
 have e0:Rp K (upd H1 p (.tup [])) (dh []) (.ref p):=Rp.new (K:=K) hp .nil
 have ln2:om K false (upd H1 p (.tup [])) ln ((ps.map (·.1)).map V.str):=cR.of (sp _ _ v3)
 have lt2:=(om.same ht sm1).same sp
 have r2:=(r.same sm1).same sp
 have te2:=v5.same sp
 have hi2:=w2.ins
 have hl2:(ps.map (·.1)).length=ts.length:=by rw[List.length_map];exact hl
 have he2:([]:Env).length<=900:=Nat.zero_le _
 have hx2:(ps.map (·.1)).length<=900:=by rw[List.length_map];exact hps (fn,ps,t) (List.mem_append_right _ (.head _))
 fail "R"
 intro H3 u s3 ar3
 obtain⟨w3,k3,o3⟩:=w2.ext s3
 have hi3:=w3.ins
 have te3:=te2.same s3
 fail "R"
 intro H4 w4 k4 o4
 have hi4:=w4.ins
 rw[←eD]at hR
 fail "R"
 intro H5 u5 k5 o5 hm
 rcases hm with⟨hf,rfl,w5⟩|⟨hf,t5,et5,w5,ru5⟩
 ·have hi5:=w5.ins
  obtain⟨mn,fl,rws,tl,wts⟩:=st'
  obtain rfl:fl=true:=hf
  fail "R"
  intro q5 hq5
  exact k _ _ (fun b u e=>ae hq5 _ _ _ (w5.same b u (aF e ho) e)) (Rp.new (K:=K) hq5 (xs:=[.s "fault"]) (.one .s))
 ·have hi5:=w5.ins
  obtain⟨mn,fl,rws,tl,wts⟩:=st'
  obtain rfl:fl=false:=hf
  obtain rfl:tl=[t5]:=et5
  obtain⟨rv,er,rr⟩:=w5.rws
  fail "R"
  refine .inl ⟨cR.of er,fun q5 hq5=>?_⟩
  have s5:=ae hq5 (.tup rv)
  have hq:upd H5 q5 (.tup rv) q5=some (.tup rv):=ah
  fail "R"
  intro q6 hq6
  obtain⟨w6,k6,o6⟩:=w5.ext (s5.trans (ae hq6 (.tup [u5,.ref q5])))
  have hi6:=w6.ins
  fail "R"
  intro q7 hq7
  have r6:Rp K _ (.t [t5,.t rws]) (.ref q6):=Rp.new (K:=K) hq6 (xs:=[t5,.t rws]) (.cons (ru5.same s5) (.one (Rp.t (bT.of hq) (rr.same s5))))
  exact k _ _ (fun b u e=>ae hq7 _ _ _ (w6.same b u (aF e ho) e)) (Rp.new (K:=K) hq7 (xs:=[.s "sheet",.t [t5,.t rws],.i (mn:Int)]) (.cons .s (.cons r6 (.one .i))))
end
structure Sm where
 rows:List T
 many:Nat
noncomputable def Sm.up(s:Sm):Sm:=⟨s.rows,s.many+1⟩
noncomputable def Sm.row(s:Sm)(t:T):Sm:=⟨s.rows++[t],s.many⟩
noncomputable def Sm.ws(s:Sm)(tl W:List T):WS:=⟨s.many,false,s.rows,tl,W⟩
inductive Res where
 |ok (t:T) (s:Sm)|bad (s:Sm)
noncomputable def Res.sm:Res->Sm
 |.ok _ s=>s
 |.bad s=>s
noncomputable abbrev Rl:=Tm->Env->Sm->Res->Prop
inductive zH(R:Rl) (env:Env):List Tm->Sm->List T->Sm->Prop
 |nil {s:Sm}:zH R env [] s [] s
 |cons {k:Tm}{ks:List Tm}{s s1 s2:Sm}{t:T}{ts:List T}:R k env s (.ok t s1)->zH R env ks s1 ts s2->zH R env (k::ks) s (t::ts) s2
inductive tB(R:Rl) (env:Env):List Tm->Sm->Sm->Prop
 |here {k:Tm}{ks:List Tm}{s s1:Sm}:R k env s (.bad s1)->tB R env (k::ks) s s1
 |next {k:Tm}{ks:List Tm}{s s1 s2:Sm}{t:T}:R k env s (.ok t s1)->tB R env ks s1 s2->tB R env (k::ks) s s2
inductive Bp(R:Rl) (c:Tm) (x y:Str) (env:Env):List T->T->Sm->Res->Prop
 |done {t:T}{s:Sm}:Bp R c x y env [] t s (.ok t s)
 |bad {u t:T}{us:List T}{s s1:Sm}:R c (b9 env [x,y] [u,t]) s.up (.bad s1)->Bp R c x y env (u::us) t s (.bad s1)
 |more {u t t1:T}{us:List T}{s s1:Sm}{r:Res}:R c (b9 env [x,y] [u,t]) s.up (.ok t1 s1)->Bp R c x y env us t1 s1 r->Bp R c x y env (u::us) t s r
noncomputable def wrote(s:Sm)(t:T):Res:=.ok (aG s.rows.length) (s.row t)
inductive dN(D:gH) (R:Rl) (env:Env):Tm->List T->Sm->Res->Prop
 |row {ks:List Tm}{ts:List T}{s:Sm}:dN D R env (.mk .row ks) ts s (.ok (bD ts) s)
 |tag {t:Str}{ks:List Tm}{ts:List T}{s:Sm}:dN D R env (.mk (.tag t) ks) ts s (.ok (jF t ts) s)
 |lt {x:Str}{a b:Tm}{t:T}{s:Sm}{r:Res}:env.length<=900->R b (b9 env [x] [t]) s r->dN D R env (.mk (.lt x) [a,b]) [t] s r
 |call {f:Str}{ks:List Tm}{b:Tm}{ts:List T}{ns:List Str}{s:Sm}{r:Res}:tY D f=some (ns,enc b)->ns.length=ts.length->ns.length<=900->R b (b9 [] ns ts) s.up r->dN D R env (.mk (.call f) ks) ts s r
 |gap {g:Int}{s:Sm}:dN D R env (.mk (.gap g) []) [] s (wrote s (.t [.s "gap",.i g,dh env]))
 |op0 {a b:Tm}{x:T}{s:Sm}:dN D R env (.mk (.op ":") [a,b]) [x,aZ 0] s (.bad s)
 |opL {sg:Str}{a b:Tm}{i:Nat}{y:T}{s:Sm}:Nl y->(sg=":"->y≠aZ 0)->dN D R env (.mk (.op sg) [a,b]) [aG i,y] s (wrote s (.t [.s "op",.s sg,aG i,y]))
 |opR {sg:Str}{a b:Tm}{x:Int}{k:Nat}{s:Sm}:dN D R env (.mk (.op sg) [a,b]) [aZ x,aG k] s (wrote s (.t [.s "op",.s sg,aZ x,aG k]))
 |op {sg:Str}{a b:Tm}{x y:Int}{s:Sm}:sg∈qW->Nb x->Nb y->(sg=":"->y≠0)->dN D R env (.mk (.op sg) [a,b]) [aZ x,aZ y] s (.ok (aZ (lF sg x y)) s.up)
 |moreL {a b:Tm}{t:T}{k:Nat}{s:Sm}:dN D R env (.mk .more [a,b]) [t,aG k] s (wrote s (.t [.s "more",t,aG k]))
 |more {a b:Tm}{t:T}{ts:List T}{s:Sm}:ts.length<900->dN D R env (.mk .more [a,b]) [t,bD ts] s (.ok (bD (t::ts)) s.up)
 |firstL {a:Tm}{k:Nat}{s:Sm}:dN D R env (.mk .first [a]) [aG k] s (wrote s (.t [.s "first",aG k]))
 |first0 {a:Tm}{s:Sm}:dN D R env (.mk .first [a]) [bD []] s (.bad s)
 |first {a:Tm}{t:T}{ts:List T}{s:Sm}:ts.length<900->dN D R env (.mk .first [a]) [bD (t::ts)] s (.ok t s.up)
 |othersL {a:Tm}{k:Nat}{s:Sm}:dN D R env (.mk .others [a]) [aG k] s (wrote s (.t [.s "others",aG k]))
 |others0 {a:Tm}{s:Sm}:dN D R env (.mk .others [a]) [bD []] s (.bad s)
 |others {a:Tm}{t:T}{ts:List T}{s:Sm}:ts.length<900->dN D R env (.mk .others [a]) [bD (t::ts)] s (.ok (bD ts) s.up)
 |longL {a:Tm}{k:Nat}{s:Sm}:dN D R env (.mk .long [a]) [aG k] s (wrote s (.t [.s "long",aG k]))
 |long {a:Tm}{ts:List T}{s:Sm}:ts.length<900->dN D R env (.mk .long [a]) [bD ts] s (.ok (aZ ts.length) s.up)
 |matL {arms:List (Str×List Str)}{a:Tm}{ks:List Tm}{k:Nat}{s:Sm}:dN D R env (.mk (.mat arms) (a::ks)) [aG k] s (wrote s (.t [.s "match",aG k,.t (List.zipWith sy arms (ks.map enc)),dh env]))
 |mat {arms:List (Str×List Str)}{a b:Tm}{ks:List Tm}{t:Str}{ts:List T}{ns:List Str}{s:Sm}{r:Res}:arms.length=ks.length->arms.length<=900->wL (List.zipWith (fun(p:Str×List Str) k=>(p.1,p.2,enc k)) arms ks) t=some (ns,enc b)->ns.length=ts.length->env.length<=900->ns.length<=900->R b (b9 env ns ts) s.up r->dN D R env (.mk (.mat arms) (a::ks)) [jF t ts] s r
 |ifL {a b c:Tm}{k:Nat}{s:Sm}:dN D R env (.mk .ife [a,b,c]) [aG k] s (wrote s (.t [.s "if",aG k,enc b,enc c,dh env]))
 |ife {a b c:Tm}{x:Int}{s:Sm}{r:Res}:R (if x=0 then c else b) env s.up r->dN D R env (.mk .ife [a,b,c]) [aZ x] s r
 |foldL {x y:Str}{a b c:Tm}{k:Nat}{t:T}{s:Sm}:dN D R env (.mk (.fold x y) [a,b,c]) [aG k,t] s (wrote s (fO (aG k) x y t (enc c) (dh env)))
 |fold {x y:Str}{a b c:Tm}{t:T}{ts:List T}{s:Sm}{r:Res}:ts.length<900->env.length<=900->Bp R c x y env ts t s r->dN D R env (.mk (.fold x y) [a,b,c]) [bD ts,t] s r
noncomputable def cO(tm:Tm):List Tm:=tm.ks.take (jc tm.hd tm.ks.length)
theorem iK(tm:Tm):ahead tm=(cO tm).map enc:=by unfold ahead cO;rw[List.map_take]
structure ik(tm:Tm):Prop where
 wf:Wf tm
 sz:tm.size<=900
 n1:¬hdS tm.hd="num"
 n2:¬hdS tm.hd="name"
 ks:(cO tm).length<=8
inductive Cw(D:gH) (R:Rl):Rl
 |num {n:Int}{env:Env}{s:Sm}:Cw D R (.mk (.num n) []) env s (.ok (aZ n) s)
 |name {x:Str}{t:T}{env:Env}{s:Sm}:qh env x=some t->Cw D R (.mk (.name x) []) env s (.ok t s)
 |bad {tm:Tm}{env:Env}{s s1:Sm}:ik tm->tB R env (cO tm) s s1->Cw D R tm env s (.bad s1)
 |fin {tm:Tm}{env:Env}{s s1:Sm}{ts:List T}{r:Res}:ik tm->zH R env (cO tm) s ts s1->dN D R env tm ts s1 r->Cw D R tm env s r
noncomputable def Bs(D:gH):Nat->Rl
 |0=>fun _ _ _ _=>False
 |h+1=>Cw D (Bs D h)
noncomputable abbrev Ex(D:gH)(st fin:WS):Prop:=∃n,Runs D n st fin
noncomputable def Gx(D:gH)(Φ:WS->Prop)(st:WS):Prop:=∃fin,Φ fin/\Ex D st fin
theorem Gx.failed{D:gH}{Φ:WS->Prop}{st:WS}(h:∀st:WS,st.failed=true->Φ st)(f:st.failed=true):Gx D Φ st:=⟨st,h st f,0,.done (.inr f)⟩
theorem Ei{D:gH}{Φ:WS->Prop}{s:Sm}{tl W:List T}{r:T}{st1:WS}(b1:s.rows.length<900)(b2:tl.length<900)(b3:W.length+1<900)(h:wZ D r (s.ws tl W) st1)(k:Gx D Φ st1):Gx D Φ (s.ws tl (W++[r])):=by
 obtain⟨fin,hf,n,k⟩:=k
 exact⟨fin,hf,n+1,.step rfl rfl ⟨b1,b2,by show(W++[r]).length<900;rw[List.length_append];exact b3⟩ h k⟩
noncomputable def Ev(D:gH)(w:Nat)(tm:Tm)(env:Env)(s:Sm)(r:Res):Prop:=∀(W tl:List T) (Φ:WS->Prop),W.length+w<=800->tl.length+w<=800->(∀s',r=.bad s'->∀st:WS,st.failed=true->Φ st)->(∀t s',r=.ok t s'->Gx D Φ (s'.ws (tl++[t]) W))->Gx D Φ (s.ws tl (W++[eY (enc tm) (dh env)]))
structure Ji(D:gH) (w:Nat) (tm:Tm) (env:Env) (s:Sm) (r:Res):Prop where
 m:s.many<=r.sm.many
 l:s.rows.length<=r.sm.rows.length
 ev:r.sm.many<=200->r.sm.rows.length<=800->Ev D w tm env s r
noncomputable def Bq(D:gH)(w:Nat)(R:Rl):Prop:=∀tm env s r,R tm env s r->Ji D w tm env s r
theorem vd{D:gH}{w:Nat}{R:Rl}(H:Bq D w R){env:Env}{ks:List Tm}{s s':Sm}{ts:List T}(h:zH R env ks s ts s'):s.many<=s'.many/\s.rows.length<=s'.rows.length/\ts.length=ks.length:=by
 induction h with
 |nil=>exact⟨Nat.le_refl _,Nat.le_refl _,rfl⟩
 |cons h1 _ ih =>
  have:=H _ _ _ _ h1
  have m:=this.m
  have l:=this.l
  simp only[Res.sm]at m l
  exact⟨by omega,by omega,by simp[ih.2.2]⟩
theorem rA{D:gH}{w:Nat}{R:Rl}(H:Bq D w R){env:Env}{ks:List Tm}{s s':Sm}(h:tB R env ks s s'):s.many<=s'.many/\s.rows.length<=s'.rows.length:=by
 induction h with
 |here h1=>exact⟨(H _ _ _ _ h1).m,(H _ _ _ _ h1).l⟩
 |next h1 _ ih =>
  have m:=(H _ _ _ _ h1).m
  have l:=(H _ _ _ _ h1).l
  simp only[Res.sm]at m l
  exact⟨by omega,by omega⟩
theorem ve{D:gH}{w:Nat}{R:Rl}(H:Bq D w R){c:Tm}{x y:Str}{env:Env}{us:List T}{t:T}{s:Sm}{r:Res}(h:Bp R c x y env us t s r):s.many<=r.sm.many/\s.rows.length<=r.sm.rows.length:=by
 induction h with
 |done=>exact⟨Nat.le_refl _,Nat.le_refl _⟩
 |bad h1 =>
  have m:=(H _ _ _ _ h1).m
  have l:=(H _ _ _ _ h1).l
  simp only[Res.sm,Sm.up]at m l
  exact⟨by simp only[Res.sm];omega,by simp only[Res.sm];omega⟩
 |more h1 _ ih =>
  have m:=(H _ _ _ _ h1).m
  have l:=(H _ _ _ _ h1).l
  simp only[Res.sm,Sm.up]at m l
  exact⟨by omega,by omega⟩
theorem Fp{D:gH}{w:Nat}{R:Rl}(H:Bq D w R){env:Env}{ks:List Tm}{s s':Sm}{ts:List T}(h:zH R env ks s ts s'):s'.many<=200->s'.rows.length<=800->∀(W tl:List T) (Φ:WS->Prop),W.length+ks.length+w<=800->tl.length+ks.length+w<=800->Gx D Φ (s'.ws (tl++ts) W)->Gx D Φ (s.ws tl (W++(ks.map enc).reverse.map (fun t=>eY t (dh env)))):=by
 induction h with
 |nil=>intro _ _ W tl Φ _ _ k;simpa using k
 |@cons k ks s s1 s2 t ts h1 h2 ih =>
  intro m l W tl Φ hW hT kk
  have q:=vd H h2
  rw[List.length_cons]at hW hT
  have e:W++((k::ks).map enc).reverse.map (fun t=>eY t (dh env))=(W++(ks.map enc).reverse.map (fun t=>eY t (dh env)))++[eY (enc k) (dh env)]:=by simp
  rw[e]
  refine(H _ _ _ _ h1).ev (by simp only[Res.sm];omega) (by simp only[Res.sm];omega) _ tl Φ (by simp;omega) (by omega) (fun s' e=>by cases e) fun t' s' e=>?_
  cases e
  refine ih m l W (tl++[t]) Φ (by omega) (by simp;omega) ?_
  rw[List.append_assoc]
  exact kk
theorem Dp{D:gH}{w:Nat}{R:Rl}(H:Bq D w R){env:Env}{ks:List Tm}{s s':Sm}(h:tB R env ks s s'):s'.many<=200->s'.rows.length<=800->∀(W tl:List T) (Φ:WS->Prop),W.length+ks.length+w<=800->tl.length+ks.length+w<=800->(∀st:WS,st.failed=true->Φ st)->Gx D Φ (s.ws tl (W++(ks.map enc).reverse.map (fun t=>eY t (dh env)))):=by
 induction h with
 |@here k ks s s1 h1 =>
  intro m l W tl Φ hW hT kk
  rw[List.length_cons]at hW hT
  have e:W++((k::ks).map enc).reverse.map (fun t=>eY t (dh env))=(W++(ks.map enc).reverse.map (fun t=>eY t (dh env)))++[eY (enc k) (dh env)]:=by simp
  rw[e]
  exact(H _ _ _ _ h1).ev m l _ tl Φ (by simp;omega) (by omega) (fun _ _=>kk) fun t' s' e=>by cases e
 |@next k ks s s1 s2 t h1 h2 ih =>
  intro m l W tl Φ hW hT kk
  have q:=rA H h2
  rw[List.length_cons]at hW hT
  have e:W++((k::ks).map enc).reverse.map (fun t=>eY t (dh env))=(W++(ks.map enc).reverse.map (fun t=>eY t (dh env)))++[eY (enc k) (dh env)]:=by simp
  rw[e]
  refine(H _ _ _ _ h1).ev (by simp only[Res.sm];omega) (by simp only[Res.sm];omega) _ tl Φ (by simp;omega) (by omega) (fun s' e=>by cases e) fun t' s' e=>?_
  cases e
  exact ih m l W (tl++[t]) Φ (by omega) (by simp;omega) kk
theorem Fq{D:gH}{w:Nat}{R:Rl}(H:Bq D w R){c:Tm}{x y:Str}{env:Env}(he:env.length<=900){b:T}{all:List T}(hl:all.length<900){us:List T}{t:T}{s:Sm}{r:Res}(h:Bp R c x y env us t s r):r.sm.many<=200->r.sm.rows.length<=800->∀(i:Nat),all.drop i=us->∀(W tl:List T) (Φ:WS->Prop),W.length+2+w<=800->tl.length+2+w<=800->(∀s',r=.bad s'->∀st:WS,st.failed=true->Φ st)->(∀t s',r=.ok t s'->Gx D Φ (s'.ws (tl++[t]) W))->Gx D Φ (s.ws (tl++[t]) (W++[jb (fO (bD all) x y b (enc c) (dh env)) i])):=by
 induction h with
 |@done t s =>
  intro m l i hi W tl Φ hW hT _ kk
  have hi':all.length<=i:=by
   have:=congrArg List.length hi
   rw[List.length_drop]at this
   simp at this
   omega
  simp only[Res.sm]at l
  exact Ei (by omega) (by simp;omega) (by omega) (.rnd (.done hl hi')) (kk _ _ rfl)
 |@bad u t us s s1 h1 =>
  intro m l i hi W tl Φ hW hT kb kk
  have a:=H _ _ _ _ h1
  have am:=a.m
  have al:=a.l
  simp only[Res.sm,Sm.up]at am al m l
  have hu:all[i]?=some u:=by rw[←List.head?_drop,hi];rfl
  refine Ei (by omega) (by simp;omega) (by omega) (.rnd (.more (t:=u) (s:=t) (front:=tl) hl hu rfl (by show s.many<200;omega) he)) ?_
  exact a.ev m l (W++[jb (fO (bD all) x y b (enc c) (dh env)) (i+1)]) tl Φ (by simp;omega) (by omega) kb fun t' s' e=>by cases e
 |@more u t t1 us s s1 r h1 h2 ih =>
  intro m l i hi W tl Φ hW hT kb kk
  have a:=H _ _ _ _ h1
  have am:=a.m
  have al:=a.l
  have q:=ve H h2
  simp only[Res.sm,Sm.up]at am al m l
  have hu:all[i]?=some u:=by rw[←List.head?_drop,hi];rfl
  have hd:all.drop (i+1)=us:=by rw[←List.drop_drop,hi];rfl
  have q1:s1.many<=r.sm.many:=q.1
  have q2:s1.rows.length<=r.sm.rows.length:=q.2
  have m':r.sm.many<=200:=m
  have l':r.sm.rows.length<=800:=l
  refine Ei (by omega) (by simp;omega) (by omega) (.rnd (.more (t:=u) (s:=t) (front:=tl) hl hu rfl (by show s.many<200;omega) he)) ?_
  refine a.ev (by simp only[Res.sm];omega) (by simp only[Res.sm];omega) (W++[jb (fO (bD all) x y b (enc c) (dh env)) (i+1)]) tl Φ (by simp;omega) (by omega) (fun s' e=>by cases e) fun t' s' e=>?_
  cases e
  exact ih m' l' (i+1) hd W tl Φ hW hT kb kk
theorem cf{D:gH}{Φ:WS->Prop}{env:Env}{tm:Tm}{s1:Sm}{tl W ts:List T}{st':WS}(o:ik tm)(hl:ts.length=(cO tm).length)(b1:s1.rows.length<900)(b2:(tl++ts).length<900)(b3:W.length+1<900)(e:wY D env (enc tm) ts (s1.ws tl W) st')(k:Gx D Φ st'):Gx D Φ (s1.ws (tl++ts) (W++[nC (enc tm) (dh env)])) :=
 Ei b1 b2 b3 (.fin (.mk (front:=tl) (back:=ts) (st':=st') o.wf o.sz rfl (by rw[iK,List.length_map];exact hl) e)) k
theorem Ej(ks:List Tm):enc (.mk .row ks)=.t [.s "row",.t (ks.map enc)]:=by rw[bO];rfl
theorem Br(t:Str)(ks:List Tm):enc (.mk (.tag t) ks)=.t [.s "tag",.s t,.t (ks.map enc)]:=by rw[bO];rfl
theorem Bt(t:Str)(ks:List Tm):enc (.mk (.call t) ks)=.t [.s "call",.s t,.t (ks.map enc)]:=by rw[bO];rfl
theorem e_lt(x:Str)(a b:Tm):enc (.mk (.lt x) [a,b])=.t [.s "let",.s x,enc a,enc b]:=by rw[bO];rfl
theorem Bu(g:Int):enc (.mk (.gap g) [])=.t [.s "gap",.i g]:=by rw[bO];rfl
theorem e_num(g:Int):enc (.mk (.num g) [])=aZ g:=by rw[bO];rfl
theorem eU(x:Str):enc (.mk (.name x) [])=.t [.s "name",.s x]:=by rw[bO];rfl
theorem zI(s:Str)(a b:Tm):enc (.mk (.op s) [a,b])=.t [.s "op",.s s,enc a,enc b]:=by rw[bO];rfl
theorem xh(a b:Tm):enc (.mk .more [a,b])=.t [.s "more",enc a,enc b]:=by rw[bO];rfl
theorem ou(a:Tm):enc (.mk .first [a])=.t [.s "first",enc a]:=by rw[bO];rfl
theorem mH(a:Tm):enc (.mk .others [a])=.t [.s "others",enc a]:=by rw[bO];rfl
theorem xm(a:Tm):enc (.mk .long [a])=.t [.s "long",enc a]:=by rw[bO];rfl
theorem vf(arms:List (Str×List Str))(a:Tm)(ks:List Tm):enc (.mk (.mat arms) (a::ks))=.t [.s "match",enc a,.t (List.zipWith sy arms (ks.map enc))]:=by rw[bO];rfl
theorem Bv(a b c:Tm):enc (.mk .ife [a,b,c])=.t [.s "if",enc a,enc b,enc c]:=by rw[bO];rfl
theorem tD(x y:Str)(a b c:Tm):enc (.mk (.fold x y) [a,b,c])=.t [.s "fold",enc a,.s x,.s y,enc b,enc c]:=by rw[bO];rfl
theorem ym:∀(arms:List (Str×List Str)) (ks:List Tm),List.zipWith sy arms (ks.map enc)=(List.zipWith (fun(p:Str×List Str) k=>((p.1,p.2,enc k):Cv)) arms ks).map Fi
 | [],_=>by simp
 |_::_,[]=>by simp
 |a::r,k::q=>by simp only[List.map_cons,List.zipWith_cons_cons,ym r q];rfl
theorem vg{D:gH}{w:Nat}{R:Rl}(H:Bq D w R){env:Env}{tm:Tm}{ts:List T}{s:Sm}{r:Res}(h:dN D R env tm ts s r):s.many<=r.sm.many/\s.rows.length<=r.sm.rows.length:=by
 cases h with
 |lt _ h=>exact⟨(H _ _ _ _ h).m,(H _ _ _ _ h).l⟩
 |call _ _ _ h=>have m:=(H _ _ _ _ h).m;have l:=(H _ _ _ _ h).l;simp only[Sm.up]at m l;exact⟨by omega,l⟩
 |mat _ _ _ _ _ _ h=>have m:=(H _ _ _ _ h).m;have l:=(H _ _ _ _ h).l;simp only[Sm.up]at m l;exact⟨by omega,l⟩
 |ife h=>have m:=(H _ _ _ _ h).m;have l:=(H _ _ _ _ h).l;simp only[Sm.up]at m l;exact⟨by omega,l⟩
 |fold _ _ h=>exact ve H h
 |_=>simp[Res.sm,wrote,Sm.up,Sm.row]
theorem Ft{D:gH}{w:Nat}{R:Rl}(H:Bq D w R){env:Env}{tm:Tm}{ts:List T}{s:Sm}{r:Res}(o:ik tm)(hl:ts.length=(cO tm).length)(h:dN D R env tm ts s r)(m:r.sm.many<=200)(l:r.sm.rows.length<=800)(W tl:List T)(Φ:WS->Prop)(hW:W.length+4+w<=800)(hT:tl.length+10+w<=800)(kb:∀s',r=.bad s'->∀st:WS,st.failed=true->Φ st)(kk:∀t s',r=.ok t s'->Gx D Φ (s'.ws (tl++[t]) W)):Gx D Φ (s.ws (tl++ts) (W++[nC (enc tm) (dh env)])):=by
 have mono:=vg H h
 have ho:=o.ks
 have b1:s.rows.length<900:=by omega
 have b2:(tl++ts).length<900:=by rw[List.length_append];omega
 have b3:W.length+1<900:=by omega
 cases h with
 |row=>exact cf o hl b1 b2 b3 (by rw[Ej];exact .row) (kk _ _ rfl)
 |tag=>exact cf o hl b1 b2 b3 (by rw[Br];exact .tag) (kk _ _ rfl)
 |lt he h=>exact cf o hl b1 b2 b3 (by rw[e_lt];exact .lt he) ((H _ _ _ _ h).ev m l W tl Φ (by omega) (by omega) kb kk)
 |call hd hn hn2 h =>
  have q:=(H _ _ _ _ h).m
  simp only[Sm.up]at q
  exact cf o hl b1 b2 b3 (by rw[Bt];exact .call hd (by show s.many<200;omega) hn hn2) ((H _ _ _ _ h).ev m l W tl Φ (by omega) (by omega) kb kk)
 |gap=>exact cf o hl b1 b2 b3 (by rw[Bu];exact .deed .gap (by decide +kernel) (.gap .mk)) (kk _ _ rfl)
 |op0=>exact cf o hl b1 b2 b3 (by rw[zI];exact .deed .op (by decide +kernel) (.op .fault)) (.failed (kb _ rfl) rfl)
 |opL h1 h2=>exact cf o hl b1 b2 b3 (by rw[zI];exact .deed .op (by decide +kernel) (.op (.left h1 h2))) (kk _ _ rfl)
 |opR=>exact cf o hl b1 b2 b3 (by rw[zI];exact .deed .op (by decide +kernel) (.op .right)) (kk _ _ rfl)
 |op h1 h2 h3 h4 =>
  simp only[Res.sm,Sm.up]at m
  exact cf o hl b1 b2 b3 (by rw[zI];exact .deed .op (by decide +kernel) (.op (.mk h1 h2 h3 h4 (by show s.many<200;omega)))) (kk _ _ rfl)
 |moreL=>exact cf o hl b1 b2 b3 (by rw[xh];exact .deed (.other (.inl rfl) (by simp)) (by decide +kernel) (.more .left)) (kk _ _ rfl)
 |more h1 =>
  simp only[Res.sm,Sm.up]at m
  exact cf o hl b1 b2 b3 (by rw[xh];exact .deed (.other (.inl rfl) (by simp)) (by decide +kernel) (.more (.mk (by show s.many<200;omega) h1))) (kk _ _ rfl)
 |firstL=>exact cf o hl b1 b2 b3 (by rw[ou];exact .deed (.other (.inr (.inl rfl)) (by simp)) (by decide +kernel) (.first (.left (.inl rfl)))) (kk _ _ rfl)
 |first0=>exact cf o hl b1 b2 b3 (by rw[ou];exact .deed (.other (.inr (.inl rfl)) (by simp)) (by decide +kernel) (.first (.fault (.inl rfl)))) (.failed (kb _ rfl) rfl)
 |first h1 =>
  simp only[Res.sm,Sm.up]at m
  exact cf o hl b1 b2 b3 (by rw[ou];exact .deed (.other (.inr (.inl rfl)) (by simp)) (by decide +kernel) (.first (.first (by show s.many<200;omega) h1))) (kk _ _ rfl)
 |othersL=>exact cf o hl b1 b2 b3 (by rw[mH];exact .deed (.other (.inr (.inr (.inl rfl))) (by simp)) (by decide +kernel) (.first (.left (.inr rfl)))) (kk _ _ rfl)
 |others0=>exact cf o hl b1 b2 b3 (by rw[mH];exact .deed (.other (.inr (.inr (.inl rfl))) (by simp)) (by decide +kernel) (.first (.fault (.inr rfl)))) (.failed (kb _ rfl) rfl)
 |others h1 =>
  simp only[Res.sm,Sm.up]at m
  exact cf o hl b1 b2 b3 (by rw[mH];exact .deed (.other (.inr (.inr (.inl rfl))) (by simp)) (by decide +kernel) (.first (.others (by show s.many<200;omega) h1))) (kk _ _ rfl)
 |longL=>exact cf o hl b1 b2 b3 (by rw[xm];exact .deed (.other (.inr (.inr (.inr rfl))) (by simp)) (by decide +kernel) (.long .left)) (kk _ _ rfl)
 |long h1 =>
  simp only[Res.sm,Sm.up]at m
  exact cf o hl b1 b2 b3 (by rw[xm];exact .deed (.other (.inr (.inr (.inr rfl))) (by simp)) (by decide +kernel) (.long (.mk (by show s.many<200;omega) h1))) (kk _ _ rfl)
 |matL=>exact cf o hl b1 b2 b3 (by rw[vf];exact .deed .mat (by decide +kernel) (.mat .left)) (kk _ _ rfl)
 |mat h0 h0' h1 h2 h3 h4 h =>
  have q:=(H _ _ _ _ h).m
  simp only[Sm.up]at q
  exact cf o hl b1 b2 b3 (by rw[vf,ym];exact .deed .mat (by decide +kernel) (.mat (.mk (by show s.many<200;omega) h1 h2 h3 h4 (by rw[List.length_zipWith];omega)))) ((H _ _ _ _ h).ev m l W tl Φ (by omega) (by omega) kb kk)
 |ifL=>exact cf o hl b1 b2 b3 (by rw[Bv];exact .deed .ife (by decide +kernel) (.ife .left)) (kk _ _ rfl)
 |@ife a b c x s r h =>
  have q:=(H _ _ _ _ h).m
  simp only[Sm.up]at q
  refine cf o hl b1 b2 b3 (by rw[Bv];exact .deed .ife (by decide +kernel) (.ife (.mk (by show s.many<200;omega)))) ?_
  have:=(H _ _ _ _ h).ev m l W tl Φ (by omega) (by omega) kb kk
  rw[apply_ite enc]at this
  exact this
 |foldL=>exact cf o hl b1 b2 b3 (by rw[tD];exact .deed .fold (by decide +kernel) (.fold .left)) (kk _ _ rfl)
 |fold h1 h2 h=>exact cf o hl b1 b2 b3 (by rw[tD];exact .deed .fold (by decide +kernel) (.fold .mk)) (Fq H h2 h1 h m l 0 rfl W tl Φ (by omega) (by omega) kb kk)
theorem Bw{D:gH}{w:Nat}{R:Rl}(H:Bq D w R):Bq D (w+12) (Cw D R):=by
 intro tm env s r h
 cases h with
 |num =>
  refine⟨Nat.le_refl _,Nat.le_refl _,fun _ l W tl Φ hW hT _ k=>?_⟩
  rw[e_num]
  exact Ei (by simp only[Res.sm]at l;omega) (by omega) (by omega) (.beg .num) (k _ _ rfl)
 |name e =>
  refine⟨Nat.le_refl _,Nat.le_refl _,fun _ l W tl Φ hW hT _ k=>?_⟩
  rw[eU]
  exact Ei (by simp only[Res.sm]at l;omega) (by omega) (by omega) (.beg (.name e)) (k _ _ rfl)
 |bad o h =>
  have q:=rA H h
  have ho:=o.ks
  refine⟨q.1,q.2,fun m l W tl Φ hW hT kb _=>?_⟩
  simp only[Res.sm]at m l
  refine Ei (by omega) (by omega) (by omega) (.beg (.other o.wf o.sz o.n1 o.n2 (by rw[iK,List.length_map];omega))) ?_
  rw[iK]
  exact Dp H h m l (W++[nC (enc tm) (dh env)]) tl Φ (by simp;omega) (by omega) (kb _ rfl)
 |@fin tm env s s1 ts r o h f =>
  have q:=vd H h
  have q2:=vg H f
  have ho:=o.ks
  refine⟨by omega,by omega,fun m l W tl Φ hW hT kb kk=>?_⟩
  refine Ei (by omega) (by omega) (by omega) (.beg (.other o.wf o.sz o.n1 o.n2 (by rw[iK,List.length_map];omega))) ?_
  rw[iK]
  exact Fp H h (by omega) (by omega) (W++[nC (enc tm) (dh env)]) tl Φ (by simp;omega) (by omega) (Ft H o q.2.2 f m l W tl Φ (by omega) (by omega) kb kk)
theorem tE{D:gH}:∀h:Nat,Bq D (12*h) (Bs D h)
 |0=>fun _ _ _ _ h=>h.elim
 |h+1=>Bw (tE h)
theorem Bx{D:gH}{h:Nat}{tm:Tm}{env:Env}{r:Res}(hh:h<=60)(b:Bs D h tm env ⟨[],0⟩ r)(m:r.sm.many<=200)(l:r.sm.rows.length<=800):∃n fin,Runs D n ⟨0,false,[],[],[eY (enc tm) (dh env)]⟩ fin/\(fin.failed=false->∃t,fin.told=[t])/\(match r with|.ok t s=>fin=⟨s.many,false,s.rows,[t],[]⟩|.bad _=>fin.failed=true):=by
 cases r with
 |ok t s =>
  obtain⟨fin,hf,n,k⟩:=(tE h _ _ _ _ b).ev m l [] [] (fun x=>x=⟨s.many,false,s.rows,[t],[]⟩) (by simp;omega) (by simp;omega) (fun _ e=>by cases e) fun t' s' e=>by
   cases e
   exact⟨_,rfl,0,.done (.inl rfl)⟩
  exact⟨n,fin,k,fun _=>⟨t,by rw[hf]⟩,hf⟩
 |bad s =>
  obtain⟨fin,hf,n,k⟩:=(tE h _ _ _ _ b).ev m l [] [] (fun x=>x.failed=true) (by simp;omega) (by simp;omega) (fun _ _ st h=>h) fun t' s' e=>by cases e
  exact⟨n,fin,k,fun z=>(by rw[hf]at z;cases z),hf⟩
noncomputable def Un(xs:List Str):Prop:=∀(i j:Nat) (x:Str),xs[i]?=some x->xs[j]?=some x->i=j
noncomputable def lets:List Nat:=(Str.ofString "abcdefghijklmnopqrstuvwxyz").cps.toList
theorem Dq:∀i<26,∀j<26,lets[i]?=lets[j]?->i=j:=by decide +kernel
theorem By:lets.length=26:=by decide +kernel
noncomputable def qi(pre:List Nat)(d:Int)(i:Nat)(x:Str):Prop:=∃c r,fR lets ((d+7*(i:Int)) % 26)=some c/\x.cps.toList=pre++c::r
theorem qi.un{pre:List Nat}{d:Int}{i j:Nat}{x:Str}(hi:i<26)(hj:j<26)(a:qi pre d i x)(b:qi pre d j x):i=j:=by
 obtain⟨c,r,h1,h2⟩:=a
 obtain⟨c',r',h3,h4⟩:=b
 rw[h2]at h4
 have e:=List.append_cancel_left h4
 injection e with e _
 subst e
 have f:∀n:Int,0<=n->n<26->fR lets n=lets[n.toNat]?:=fun n h0 h=>by
  have hk:n.toNat<lets.length:=by rw[By];omega
  have ek:n=((n.toNat:Nat):Int):=by omega
  have q:fR lets ((n.toNat:Nat):Int)=some lets[n.toNat]:=aN (List.getElem?_eq_getElem hk)
  rw[←ek]at q
  rw[q,List.getElem?_eq_getElem hk]
 rw[f _ (by omega) (by omega)]at h1 h3
 have:=Dq _ (by omega) _ (by omega) (h1.trans h3.symm)
 omega
theorem qi.snoc{pre:List Nat}{d:Int}{i:Nat}{x:Str}(a:qi pre d i x)(y:Str):qi pre d i (x++y):=by
 obtain⟨c,r,h1,h2⟩:=a
 refine⟨c,r++y.cps.toList,h1,?_⟩
 show(x.cps++y.cps).toList=_
 rw[Array.toList_append,h2]
 simp
theorem qi.JF{pre:List Nat}{d:Int}{xs:List Str}(hl:xs.length<=26)(h:∀j x,xs[j]?=some x->qi pre d j x):Un xs:=fun i j x ei ej=>by
 have:=(List.getElem?_eq_some_iff.mp ei).1
 have:=(List.getElem?_eq_some_iff.mp ej).1
 exact qi.un (by omega) (by omega) (h i x ei) (h j x ej)
theorem qi.last{pre:List Nat}{d:Int}{xs:List Str}{x2 x1 y:Str}(hl:(xs++[x2,x1]).length<=26)(hy:0<y.length)(h:∀j x,(xs++[x2,x1])[j]?=some x->qi pre d j x):Un (xs++[x2,x2++y]):=by
 have hl':xs.length+2<=26:=by simpa using hl
 have e2:qi pre d xs.length x2:=h xs.length x2 (by simp)
 have e3:qi pre d xs.length (x2++y):=e2.snoc y
 have ne:x2++y≠x2:=fun z=>by
  have:=congrArg Str.length z
  rw[strLen_append]at this
  omega
 have old:∀j x,j<xs.length+1->(xs++[x2,x2++y])[j]?=some x->qi pre d j x:=fun j x hj e=>by
  refine h j x ?_
  by_cases c:j<xs.length
  ·rw[List.getElem?_append_left c]at e⊢;exact e
  ·have:j=xs.length:=by omega
   subst this
   simp at e⊢
   exact e
 intro i j x ei ej
 have li:=(List.getElem?_eq_some_iff.mp ei).1
 have lj:=(List.getElem?_eq_some_iff.mp ej).1
 have ll:(xs++[x2,x2++y]).length=xs.length+2:=by simp
 rw[ll]at li lj
 have lst:∀k x,k=xs.length+1->(xs++[x2,x2++y])[k]?=some x->x=x2++y:=fun k x hk e=>by
  subst hk
  rw[List.getElem?_append_right (by omega)]at e
  simp at e
  exact e.symm
 by_cases ci:i<xs.length+1
 ·by_cases cj:j<xs.length+1
  ·exact qi.un (by omega) (by omega) (old i x ci ei) (old j x cj ej)
  ·have hx:=lst j x (by omega) ej
   subst hx
   have:=qi.un (by omega) (by omega) (old i _ ci ei) e3
   subst this
   exact absurd (by simpa using ei) ne.symm
 ·by_cases cj:j<xs.length+1
  ·have hx:=lst i x (by omega) ei
   subst hx
   have:=qi.un (by omega) (by omega) (old j _ cj ej) e3
   subst this
   exact absurd (by simpa using ej) ne.symm
  ·omega
noncomputable def Lo(x:Str):Prop:=∀c∈x.cps.toList,c<1000
theorem Lo.append{x y:Str}(a:Lo x)(b:Lo y):Lo (x++y):=fun c h=>by
 have h':c∈(x.cps++y.cps).toList:=h
 rw[Array.toList_append]at h'
 rcases List.mem_append.mp h' with h|h
 ·exact a c h
 ·exact b c h
theorem Lo.slice{x:Str}(a:Lo x)(l u:Option Int):Lo (Txt.slice x l u):=fun c h=>by
 unfold Txt.slice at h
 split at h
 ·exact a c h
 ·rw[List.toList_toArray]at h
  obtain⟨i,_,e⟩:=List.mem_filterMap.mp h
  refine a c ?_
  rw[Array.mem_toList_iff]
  exact Array.mem_of_getElem? e
theorem yn:∀c∈lets,c<1000:=by decide +kernel
theorem Lo.one{c:Nat}(h:c∈lets):Lo ⟨#[c]⟩:=fun d hd=>by
 have:d=c:=by simpa using hd
 rw[this]
 exact yn c h
theorem Lo.q(b:Bool):Lo (Txt.mul "q" (if b then 1 else 0)):=by
 have h:∀b:Bool,((Txt.mul "q" (if b then 1 else 0)).cps.toList.all (· < 1000))=true:=by decide +kernel
 intro c hc
 have:=List.all_eq_true.mp (h b) c hc
 simpa using this
theorem Lo.q1:Lo (Str.ofString "q"):=by
 have h:((Str.ofString "q").cps.toList.all (· < 1000))=true:=by decide +kernel
 intro c hc
 have:=List.all_eq_true.mp h c hc
 simpa using this
noncomputable def yo:Sp:=fun vs H Q _=>∃(f:Addr) (m:Nat),vs=[.ref f,.int m]/\1<=m/\m<=26/\bQ H f /\
 ∀(r:Addr) (H':Hp) (xs:List Str),Ext f H H'->H r=none->H' r=some (.lst (xs.map V.str))->xs.length=m->(∀x∈xs,x.length<=20/\Lo x)->Un xs->Q (.ref r) H'
theorem Ext.free{f:Addr}{H H':Hp}(e:Ext f H H'){l:Addr}(h:H' l=none):H l=none:=by
 cases q:H l with
 |none=>rfl
 |some o =>
  by_cases n:l=f
  ·subst n;obtain⟨a,b,z⟩:=e.2;rw[h]at z;cases z
  ·rw[e.1 l o n q]at h;cases h
theorem zH.imp{R R':Rl}(hR:∀a b c d,R a b c d->R' a b c d){env:Env}{ks:List Tm}{s s':Sm}{ts:List T}(h:zH R env ks s ts s'):zH R' env ks s ts s':=by
 induction h with
 |nil=>exact .nil
 |cons a _ ih=>exact .cons (hR _ _ _ _ a) ih
theorem tB.imp{R R':Rl}(hR:∀a b c d,R a b c d->R' a b c d){env:Env}{ks:List Tm}{s s':Sm}(h:tB R env ks s s'):tB R' env ks s s':=by
 induction h with
 |here a=>exact .here (hR _ _ _ _ a)
 |next a _ ih=>exact .next (hR _ _ _ _ a) ih
theorem Bp.imp{R R':Rl}(hR:∀a b c d,R a b c d->R' a b c d){c:Tm}{x y:Str}{env:Env}{us:List T}{t:T}{s:Sm}{r:Res}(h:Bp R c x y env us t s r):Bp R' c x y env us t s r:=by
 induction h with
 |done=>exact .done
 |bad a=>exact .bad (hR _ _ _ _ a)
 |more a _ ih=>exact .more (hR _ _ _ _ a) ih
theorem dN.imp{D:gH}{R R':Rl}(hR:∀a b c d,R a b c d->R' a b c d){env:Env}{tm:Tm}{ts:List T}{s:Sm}{r:Res}(h:dN D R env tm ts s r):dN D R' env tm ts s r:=by
 cases h with
 |lt a b=>exact .lt a (hR _ _ _ _ b)
 |call a b c d=>exact .call a b c (hR _ _ _ _ d)
 |mat a b c d e f g=>exact .mat a b c d e f (hR _ _ _ _ g)
 |ife a=>exact .ife (hR _ _ _ _ a)
 |fold a b c=>exact .fold a b (c.imp hR)
 |row=>exact .row
 |tag=>exact .tag
 |gap=>exact .gap
 |op0=>exact .op0
 |opL a b=>exact .opL a b
 |opR=>exact .opR
 |op a b c d=>exact .op a b c d
 |moreL=>exact .moreL
 |more a=>exact .more a
 |firstL=>exact .firstL
 |first0=>exact .first0
 |first a=>exact .first a
 |othersL=>exact .othersL
 |others0=>exact .others0
 |others a=>exact .others a
 |longL=>exact .longL
 |long a=>exact .long a
 |matL=>exact .matL
 |ifL=>exact .ifL
 |foldL=>exact .foldL
theorem Cw.imp{D:gH}{R R':Rl}(hR:∀a b c d,R a b c d->R' a b c d){tm:Tm}{env:Env}{s:Sm}{r:Res}(h:Cw D R tm env s r):Cw D R' tm env s r:=by
 cases h with
 |num=>exact .num
 |name e=>exact .name e
 |bad o b=>exact .bad o (b.imp hR)
 |fin o k f=>exact .fin o (k.imp hR) (f.imp hR)
theorem Bs.succ{D:gH}:∀(h:Nat) {tm:Tm}{env:Env}{s:Sm}{r:Res},Bs D h tm env s r->Bs D (h+1) tm env s r
 |0,_,_,_,_,b=>b.elim
 |h+1,_,_,_,_,b=>Cw.imp (fun _ _ _ _=>Bs.succ h) b
theorem Bs.add{D:gH}{h:Nat}{tm:Tm}{env:Env}{s:Sm}{r:Res}(b:Bs D h tm env s r):∀k,Bs D (h+k) tm env s r
 |0=>b
 |k+1=>Bs.succ _ (b.add k)
theorem Bs.le{D:gH}{h h':Nat}{tm:Tm}{env:Env}{s:Sm}{r:Res}(b:Bs D h tm env s r)(l:h<=h'):Bs D h' tm env s r:=by
 have:=b.add (h' - h)
 rwa [show h+(h' - h)=h' by omega]at this
theorem jI{hd:Hd}{ks:List Tm}(a:¬hdS hd="fold")(b:¬hdS hd∈mS):cO (.mk hd ks)=ks:=by
 show List.take (jc hd ks.length) ks=ks
 rw[Bh _ a b]
 exact List.take_length
theorem xn{hd:Hd}{k:Tm}{ks:List Tm}(a:¬hdS hd="fold")(b:hdS hd∈mS):cO (.mk hd (k::ks))=[k]:=by
 show List.take (jc hd (k::ks).length) (k::ks)=[k]
 rw[Bg _ a b]
 rfl
theorem tF{x y:Str}{a b c:Tm}:cO (.mk (.fold x y) [a,b,c])=[a,b]:=by
 show List.take (jc (.fold x y) 3) [a,b,c]=[a,b]
 rw[yi _ rfl]
 rfl
theorem vh{s:Str}{ks:List Tm}:cO (.mk (.op s) ks)=ks:=jI (by show ¬("op":Str)="fold";decide +kernel) (by show ¬("op":Str)∈mS;decide +kernel)
theorem BA{ks:List Tm}:cO (.mk .row ks)=ks:=jI (by show ¬("row":Str)="fold";decide +kernel) (by show ¬("row":Str)∈mS;decide +kernel)
theorem tG{ks:List Tm}:cO (.mk .more ks)=ks:=jI (by show ¬("more":Str)="fold";decide +kernel) (by show ¬("more":Str)∈mS;decide +kernel)
theorem mJ{ks:List Tm}:cO (.mk .first ks)=ks:=jI (by show ¬("first":Str)="fold";decide +kernel) (by show ¬("first":Str)∈mS;decide +kernel)
theorem kH{ks:List Tm}:cO (.mk .others ks)=ks:=jI (by show ¬("others":Str)="fold";decide +kernel) (by show ¬("others":Str)∈mS;decide +kernel)
theorem tH{ks:List Tm}:cO (.mk .long ks)=ks:=jI (by show ¬("long":Str)="fold";decide +kernel) (by show ¬("long":Str)∈mS;decide +kernel)
theorem xo{t:Str}{ks:List Tm}:cO (.mk (.tag t) ks)=ks:=jI (by show ¬("tag":Str)="fold";decide +kernel) (by show ¬("tag":Str)∈mS;decide +kernel)
theorem yp{t:Str}{ks:List Tm}:cO (.mk (.call t) ks)=ks:=jI (by show ¬("call":Str)="fold";decide +kernel) (by show ¬("call":Str)∈mS;decide +kernel)
theorem BB{g:Int}{ks:List Tm}:cO (.mk (.gap g) ks)=ks:=jI (by show ¬("gap":Str)="fold";decide +kernel) (by show ¬("gap":Str)∈mS;decide +kernel)
theorem lI{arms:List (Str×List Str)}{k:Tm}{ks:List Tm}:cO (.mk (.mat arms) (k::ks))=[k]:=xn (by show ¬("match":Str)="fold";decide +kernel) (by show("match":Str)∈mS;decide +kernel)
theorem xq{k:Tm}{ks:List Tm}:cO (.mk .ife (k::ks))=[k]:=xn (by show ¬("if":Str)="fold";decide +kernel) (by show("if":Str)∈mS;decide +kernel)
theorem BC{x:Str}{k:Tm}{ks:List Tm}:cO (.mk (.lt x) (k::ks))=[k]:=xn (by show ¬("let":Str)="fold";decide +kernel) (by show("let":Str)∈mS;decide +kernel)
noncomputable def cP(x:Str):Prop:=x.length<=20/\Lo x
noncomputable def zJ:Hd->Prop
 |.num n=>n.natAbs<2 ^ 20
 |.gap n=>n.natAbs<2 ^ 20
 |.name x=>cP x
 |.op x=>cP x
 |.tag x=>cP x
 |.call x=>cP x
 |.mat arms=>∀a∈arms,cP a.1/\a.2.length<=2/\∀x∈a.2,cP x
 |.lt x=>cP x
 |.fold x y=>cP x/\cP y
 |_=>True
inductive xu:Tm->Prop
 |mk {h:Hd}{ks:List Tm}:zJ h->(∀k∈ks,xu k)->xu (.mk h ks)
structure bU(n:Nat) (tm:Tm):Prop where
 wf:Wf tm
 sz:tm.size<=n
 lo:xu tm
theorem bU.le{n m:Nat}{tm:Tm}(h:bU n tm)(l:n<=m):bU m tm:=⟨h.wf,Nat.le_trans h.sz l,h.lo⟩
theorem jR{hd:Hd}(a:i7 hd 0=true)(b:zJ hd):bU 1 (.mk hd []):=⟨.mk a (fun _ h=>nomatch h),Nat.le_refl _,.mk b (fun _ h=>nomatch h)⟩
theorem BD{n:Nat}{hd:Hd}{x:Tm}(a:i7 hd 1=true)(b:zJ hd)(hx:bU n x):bU (n+1) (.mk hd [x]) :=
 ⟨.mk a fun k h=>(by rw[List.mem_singleton.mp h];exact hx.wf),by simp only[Tm.size,Tm.sizes];have:=hx.sz;omega,.mk b fun k h=>(by rw[List.mem_singleton.mp h];exact hx.lo)⟩
theorem nH{n m:Nat}{hd:Hd}{x y:Tm}(a:i7 hd 2=true)(b:zJ hd)(hx:bU n x)(hy:bU m y):bU (n+m+1) (.mk hd [x,y]) :=
 ⟨.mk a fun k h=>(by rcases List.mem_cons.mp h with rfl|h;exact hx.wf;rw[List.mem_singleton.mp h];exact hy.wf),by simp only[Tm.size,Tm.sizes];have:=hx.sz;have:=hy.sz;omega,
  .mk b fun k h=>(by rcases List.mem_cons.mp h with rfl|h;exact hx.lo;rw[List.mem_singleton.mp h];exact hy.lo)⟩
theorem yq{n m p:Nat}{hd:Hd}{x y z:Tm}(a:i7 hd 3=true)(b:zJ hd)(hx:bU n x)(hy:bU m y)(hz:bU p z):bU (n+m+p+1) (.mk hd [x,y,z]) :=
 ⟨.mk a fun k h=>(by rcases List.mem_cons.mp h with rfl|h;exact hx.wf;rcases List.mem_cons.mp h with rfl|h;exact hy.wf;rw[List.mem_singleton.mp h];exact hz.wf),by simp only[Tm.size,Tm.sizes];have:=hx.sz;have:=hy.sz;have:=hz.sz;omega,
  .mk b fun k h=>(by rcases List.mem_cons.mp h with rfl|h;exact hx.lo;rcases List.mem_cons.mp h with rfl|h;exact hy.lo;rw[List.mem_singleton.mp h];exact hz.lo)⟩
section
variable {D:gH}{h:Nat}{tm:Tm}{env:Env}{s s1 s2 s3:Sm}{k k1 k2:Tm}{t t1 t2:T}{r:Res}
theorem Js(o:ik tm)(e:cO tm=[])(f:dN D (Bs D h) env tm [] s r):Bs D (h+1) tm env s r:=.fin o (by rw[e];exact .nil) f
theorem zK(o:ik tm)(e:cO tm=[k])(a:Bs D h k env s (.ok t s1))(f:dN D (Bs D h) env tm [t] s1 r):Bs D (h+1) tm env s r:=.fin o (by rw[e];exact .cons a .nil) f
theorem Cy(o:ik tm)(e:cO tm=[k1,k2])(a:Bs D h k1 env s (.ok t1 s1))(b:Bs D h k2 env s1 (.ok t2 s2))(f:dN D (Bs D h) env tm [t1,t2] s2 r):Bs D (h+1) tm env s r:=.fin o (by rw[e];exact .cons a (.cons b .nil)) f
end
noncomputable abbrev num(n:Int):Tm:=.mk (.num n) []
noncomputable abbrev gap(n:Int):Tm:=.mk (.gap n) []
noncomputable abbrev name(x:Str):Tm:=.mk (.name x) []
theorem Fv{n:Int}(h:Nb n):n.natAbs<2 ^ 20:=by
 have:=h.1
 have:=h.2
 have e:(2:Nat) ^ 20=1048576:=by decide
 omega
theorem kc{n:Int}(h:Nb n):bU 1 (num n):=jR rfl (Fv h)
section
variable {D:gH}{R:Rl}{h c e n:Nat}{env:Env}{s:Sm}
theorem Hx{g:Int}(hg:g.natAbs<2 ^ 20):ik (gap g):=⟨(jR (hd:=.gap g) rfl hg).wf,(show 0+1<=900 by decide),by show ¬("gap":Str)="num";decide +kernel,by show ¬("gap":Str)="name";decide +kernel,by rw[BB];exact(show 0<=8 by decide)⟩
theorem tI{g:Int}(hg:g.natAbs<2 ^ 20):Bs D (h+1) (gap g) env s (.ok (aG s.rows.length) (s.row (.t [.s "gap",.i g,dh env]))):=Js (Hx hg) BB .gap
theorem gM{hd:Hd}{ks:List Tm}(N:bU n (.mk hd ks))(hn:n<=900)(n1:¬hdS hd="num")(n2:¬hdS hd="name")(k:(cO (.mk hd ks)).length<=8):ik (.mk hd ks):=⟨N.wf,Nat.le_trans N.sz hn,n1,n2,k⟩
end
theorem yr{x:Str}(h:x∈qW):cP x:=by
 have:∀x∈qW,x.length<=20/\(x.cps.toList.all (· < 1000))=true:=by decide +kernel
 obtain⟨a,b⟩:=this x h
 exact⟨a,fun c hc=>by simpa using List.all_eq_true.mp b c hc⟩
theorem ow:∀(a b:Env) (x:Str),qh (a++b) x=(qh b x).or (qh a x)
 | [],b,x=>by simp[qh]
 |p::r,b,x=>by
  simp only[List.cons_append,qh]
  rw[ow r b x,Option.or_assoc]
theorem BF{env:Env}{x:Str}{t:T}:qh (b9 env [x] [t]) x=some t:=by
 unfold b9
 rw[ow]
 simp[qh]
theorem xw{env:Env}{x y:Str}{t u:T}(h:x≠y):qh (b9 env [x,y] [t,u]) x=some t:=by
 unfold b9
 rw[ow]
 simp[qh,Ne.symm h]
section
variable {D:gH}{w:Nat->Str}{h c e n:Nat}{g:Bool}{k tm:Tm}{m:Int}
theorem Dr{sg:Str}{a b:Tm}{p:Nat}(N:bU p (.mk (.op sg) [a,b]))(hp:p<=900):ik (.mk (.op sg) [a,b]):=gM N hp (by show ¬("op":Str)="num";decide +kernel) (by show ¬("op":Str)="name";decide +kernel) (by rw[vh];exact(show 2<=8 by decide))
theorem Hy{x:Str}{a b:Tm}{p:Nat}(N:bU p (.mk (.lt x) [a,b]))(hp:p<=900):ik (.mk (.lt x) [a,b]):=gM N hp (by show ¬("let":Str)="num";decide +kernel) (by show ¬("let":Str)="name";decide +kernel) (by rw[BC];exact(show 1<=8 by decide))
theorem BG{a:Tm}{p:Nat}(N:bU p (.mk .long [a]))(hp:p<=900):ik (.mk .long [a]):=gM N hp (by show ¬("long":Str)="num";decide +kernel) (by show ¬("long":Str)="name";decide +kernel) (by rw[tH];exact(show 1<=8 by decide))
theorem tJ{a:Tm}{p:Nat}(N:bU p (.mk .first [a]))(hp:p<=900):ik (.mk .first [a]):=gM N hp (by show ¬("first":Str)="num";decide +kernel) (by show ¬("first":Str)="name";decide +kernel) (by rw[mJ];exact(show 1<=8 by decide))
theorem pV{a:Tm}{p:Nat}(N:bU p (.mk .others [a]))(hp:p<=900):ik (.mk .others [a]):=gM N hp (by show ¬("others":Str)="num";decide +kernel) (by show ¬("others":Str)="name";decide +kernel) (by rw[kH];exact(show 1<=8 by decide))
theorem BH{a b:Tm}{p:Nat}(N:bU p (.mk .more [a,b]))(hp:p<=900):ik (.mk .more [a,b]):=gM N hp (by show ¬("more":Str)="num";decide +kernel) (by show ¬("more":Str)="name";decide +kernel) (by rw[tG];exact(show 2<=8 by decide))
theorem Hz{ks:List Tm}{p:Nat}(N:bU p (.mk .row ks))(hp:p<=900)(hl:ks.length<=8):ik (.mk .row ks):=gM N hp (by show ¬("row":Str)="num";decide +kernel) (by show ¬("row":Str)="name";decide +kernel) (by rw[BA];exact hl)
theorem Ek{t:Str}{ks:List Tm}{p:Nat}(N:bU p (.mk (.tag t) ks))(hp:p<=900)(hl:ks.length<=8):ik (.mk (.tag t) ks):=gM N hp (by show ¬("tag":Str)="num";decide +kernel) (by show ¬("tag":Str)="name";decide +kernel) (by rw[xo];exact hl)
theorem Fw{t:Str}{ks:List Tm}{p:Nat}(N:bU p (.mk (.call t) ks))(hp:p<=900)(hl:ks.length<=8):ik (.mk (.call t) ks):=gM N hp (by show ¬("call":Str)="num";decide +kernel) (by show ¬("call":Str)="name";decide +kernel) (by rw[yp];exact hl)
theorem rG{arms:List (Str×List Str)}{a:Tm}{ks:List Tm}{p:Nat}(N:bU p (.mk (.mat arms) (a::ks)))(hp:p<=900):ik (.mk (.mat arms) (a::ks)):=gM N hp (by show ¬("match":Str)="num";decide +kernel) (by show ¬("match":Str)="name";decide +kernel) (by rw[lI];exact(show 1<=8 by decide))
theorem El{a b c:Tm}{p:Nat}(N:bU p (.mk .ife [a,b,c]))(hp:p<=900):ik (.mk .ife [a,b,c]):=gM N hp (by show ¬("if":Str)="num";decide +kernel) (by show ¬("if":Str)="name";decide +kernel) (by rw[xq];exact(show 1<=8 by decide))
theorem BI{x y:Str}{a b c:Tm}{p:Nat}(N:bU p (.mk (.fold x y) [a,b,c]))(hp:p<=900):ik (.mk (.fold x y) [a,b,c]):=gM N hp (by show ¬("fold":Str)="num";decide +kernel) (by show ¬("fold":Str)="name";decide +kernel) (by rw[tF];exact(show 2<=8 by decide))
end
theorem zL{n:Int}(h:n.natAbs<2 ^ 20):n.natAbs.log2<20:=by
 by_cases z:n.natAbs=0
 ·rw[z];decide
 ·rw[Nat.log2_lt z];exact h
mutual
noncomputable def zV:T->Prop
 |.s x=>Lo x
 |.i n=>n.natAbs<2 ^ 20
 |.n=>False
 |.t xs=>nX xs
noncomputable def nX:List T->Prop
 | []=>True
 |x::r=>zV x/\nX r
end
mutual
noncomputable def tW:T->Nat
 |.s x=>x.length
 |.i _=>20
 |.n=>0
 |.t xs=>gX xs
noncomputable def gX:List T->Nat
 | []=>0
 |x::r=>tW x+1+gX r
end
structure Sh(d:PyData) (w p:Nat):Prop where
 sh:d.showable=true
 nd:d.hasDict=false
 dp:d.depth<=p
 lf:d.leavesShort 13=true
 wt:d.weight<=w
structure JG(d:List PyData) (w p:Nat):Prop where
 sh:PyData.showableAll d=true
 nd:PyData.hasDictAll d=false
 dp:PyData.depthAll d<=p
 lf:PyData.leavesShortAll 13 d=true
 wt:PyData.weightAll d<=w
theorem BJ:∀{xs:List T},(∀x∈xs,zV x->Sh x.py (tW x) x.dep)->nX xs->JG (T.Gp xs) (gX xs) (T.cA xs)
 | [],_,_=>by rw[T.Gp];exact⟨rfl,rfl,Nat.zero_le _,rfl,Nat.le_refl _⟩
 |x::r,h,ok=>by
  have a:=h x (.head _) ok.1
  have b:=BJ (xs:=r) (fun y hy=>h y (.tail _ hy)) ok.2
  rw[T.Gp,gX,T.cA]
  refine⟨?_,?_,?_,?_,?_⟩
  ·rw[PyData.showableAll,a.sh,b.sh];rfl
  ·rw[PyData.hasDictAll,a.nd,b.nd];rfl
  ·rw[PyData.depthAll];have:=a.dp;have:=b.dp;omega
  ·rw[PyData.leavesShortAll,a.lf,b.lf];rfl
  ·rw[PyData.weightAll];have:=a.wt;have:=b.wt;omega
theorem HA(t:T):zV t->Sh t.py (tW t) t.dep:=by
 refine T.induct (P:=fun t=>zV t->Sh t.py (tW t) t.dep) ?_ ?_ ?_ ?_ t
 ·intro x ok
  rw[T.py,tW]
  refine⟨rfl,rfl,Nat.le_refl _,?_,Nat.le_refl _⟩
  show(x.cps.toList.all fun c=>decide (c<16 ^ 8))=true
  rw[List.all_eq_true]
  intro c hc
  have:=ok c hc
  have e:(16:Nat) ^ 8=4294967296:=by decide
  exact decide_eq_true (by omega)
 ·intro n ok
  have l:=zL ok
  have e:(10:Nat) ^ 12=1000000000000:=by decide
  have e2:(2:Nat) ^ 20=1048576:=by decide
  have ok':n.natAbs<2 ^ 20:=ok
  rw[T.py,tW]
  refine⟨decide_eq_true (by omega),rfl,Nat.le_refl _,decide_eq_true (PyData.shown_int_le (by omega)),?_⟩
  simp only[PyData.weight]
  split<;>omega
 ·intro _
  rw[T.py,tW]
  exact⟨rfl,rfl,Nat.le_refl _,rfl,Nat.le_refl _⟩
 ·intro xs ih ok
  have b:=BJ ih ok
  rw[T.py,tW,T.dep]
  exact⟨b.sh,b.nd,by rw[PyData.depth];have:=b.dp;omega,b.lf,b.wt⟩
theorem Ds{t:T}(ok:zV t)(hd:t.dep<=100)(hw:tW t<=2 ^ 20):AI t.py:=by
 have a:=HA t ok
 exact⟨a.sh,a.nd,Nat.le_trans a.dp hd,PyData.shown_fits (B:=13) (by decide) (by decide) a.lf (Nat.le_trans a.wt hw)⟩
theorem HH(x:Str)(h:(x.cps.toList.all (· < 1000))=true):Lo x:=fun c hc=>by
 have:=List.all_eq_true.mp h c hc
 simpa using this
theorem oz:∀(a b:List T),gX (a++b)=gX a+gX b
 | [],b=>by simp[gX]
 |x::r,b=>by simp only[List.cons_append,gX,oz r b];omega
theorem BK{h:Hd}{ks:List Tm}(a:xu (.mk h ks)):zJ h/\∀k∈ks,xu k:=by cases a with|mk a b=>exact⟨a,b⟩
theorem Fx{h:Hd}{ks:List Tm}(a:Wf (.mk h ks)):i7 h ks.length=true/\∀k∈ks,Wf k:=by cases a with|mk a b=>exact⟨a,b⟩
structure Tk(tm:Tm):Prop where
 ok:zV (enc tm)
 w:tW (enc tm)+100<=400*tm.size
 d:(enc tm).dep<=3*tm.size+2
structure Tks(ks:List Tm):Prop where
 ok:nX (ks.map enc)
 w:gX (ks.map enc)<=400*Tm.sizes ks
 d:T.cA (ks.map enc)<=3*Tm.sizes ks+2
theorem BL:∀{ks:List Tm},(∀k∈ks,Tk k)->Tks ks
 | [],_=>⟨trivial,by simp[gX],by simp[T.cA]⟩
 |k::r,h=>by
  have a:=h k (.head _)
  have b:=BL (ks:=r) (fun x hx=>h x (.tail _ hx))
  have:=a.w;have:=b.w;have:=a.d;have:=b.d
  refine⟨⟨a.ok,b.ok⟩,?_,?_⟩
  ·rw[List.map_cons,gX,Tm.sizes];omega
  ·rw[List.map_cons,T.cA,Tm.sizes];omega
theorem BN:∀{xs:List Str},(∀x∈xs,cP x)->nX (xs.map T.s)/\gX (xs.map T.s)<=21*xs.length/\T.cA (xs.map T.s)<=0
 | [],_=>⟨trivial,by simp[gX],by simp[T.cA]⟩
 |x::r,h=>by
  obtain⟨b1,b2,b3⟩:=BN (xs:=r) (fun y hy=>h y (.tail _ hy))
  have a:=h x (.head _)
  have:=a.1
  refine⟨⟨a.2,b1⟩,?_,?_⟩
  ·rw[List.map_cons,gX,tW,List.length_cons];omega
  ·rw[List.map_cons];simp only[T.cA,T.dep];omega
structure JH(ts:List T) (n:Nat):Prop where
 ok:nX ts
 w:gX ts<=400*n
 d:T.cA ts<=3*n+3
theorem yt:∀{arms:List (Str×List Str)}{ks:List Tm},(∀a∈arms,cP a.1/\a.2.length<=2/\∀x∈a.2,cP x)->(∀k∈ks,Tk k)->JH (List.zipWith sy arms (ks.map enc)) (Tm.sizes ks)
 | [],_,_,_=>by rw[List.zipWith_nil_left];exact⟨trivial,by simp[gX],by simp[T.cA]⟩
 |_::_,[],_,_=>by rw[List.map_nil,List.zipWith_nil_right];exact⟨trivial,by simp[gX],by simp[T.cA]⟩
 |a::r,k::q,h,g=>by
  have b:=yt (arms:=r) (ks:=q) (fun x hx=>h x (.tail _ hx)) (fun x hx=>g x (.tail _ hx))
  have c:=g k (.head _)
  obtain⟨h1,h2,h3⟩:=h a (.head _)
  obtain⟨n1,n2,n3⟩:=BN h3
  rw[List.map_cons,List.zipWith_cons_cons]
  have dd:T.cA (sy a (enc k)::List.zipWith sy r (q.map enc))<=3*Tm.sizes (k::q)+3:=by
   rw[Tm.sizes]
   have hd:=b.d
   clear h g
   exact yd (Nat.le_trans (Gr (d:=3*k.size+2) (yd Gs (yd (Gr (d:=3*k.size+1) (Nat.le_trans n3 (Nat.zero_le _))) (yd c.d Ip)))) (by omega)) (Nat.le_trans hd (by omega))
  have:=h1.1;have:=c.w;have:=b.w
  refine⟨⟨⟨h1.2,n1,c.ok,trivial⟩,b.ok⟩,?_,dd⟩
  simp only[gX,sy,tW,Tm.sizes];omega
theorem oE:∀{a b:List T},nX a->nX b->nX (a++b)
 | [],_,_,h=>h
 |_::_,_,⟨x,y⟩,h=>⟨x,oE y h⟩
theorem mK:∀(a b:List T),T.cA (a++b)=max (T.cA a) (T.cA b)
 | [],b=>by simp[T.cA]
 |x::r,b=>by simp only[List.cons_append,T.cA,mK r b,Nat.max_assoc]
structure Pre(pre:List T):Prop where
 ok:nX pre
 w:gX pre<=250
 d:T.cA pre<=0
theorem je{h:Hd}{ks:List Tm}{pre:List T}(e:enc (.mk h ks)=.t (pre++ks.map enc))(p:Pre pre)(ka:Tks ks):Tk (.mk h ks):=by
 have:=p.w;have:=p.d;have:=ka.w;have:=ka.d
 refine⟨?_,?_,?_⟩<;>rw[e]
 ·exact oE p.ok ka.ok
 ·simp only[tW,oz,Tm.size];omega
 ·simp only[T.dep,mK,Tm.size];omega
theorem BO{h:Hd}{ks:List Tm}{pre:List T}(e:enc (.mk h ks)=.t (pre++[.t (ks.map enc)]))(p:Pre pre)(ka:Tks ks):Tk (.mk h ks):=by
 have:=p.w;have:=p.d;have:=ka.w;have:=ka.d
 refine⟨?_,?_,?_⟩<;>rw[e]
 ·exact oE p.ok ⟨ka.ok,trivial⟩
 ·simp only[tW,gX,oz,Tm.size];omega
 ·simp only[T.dep,T.cA,mK,Tm.size];omega
noncomputable def kwOk(x:Str):Bool:=decide (x.length<=20)&&x.cps.toList.all (· < 1000)
theorem eS{x:Str}(h:kwOk x=true):cP x:=by
 unfold kwOk at h
 rw[Bool.and_eq_true]at h
 exact⟨of_decide_eq_true h.1,HH x h.2⟩
theorem zM{x:Str}(h:cP x):Pre [.s x]:=⟨⟨h.2,trivial⟩,by simp only[gX,tW];have:=h.1;omega,by simp[T.cA,T.dep]⟩
theorem BP{x y:Str}(h:cP x)(g:cP y):Pre [.s x,.s y]:=⟨⟨h.2,g.2,trivial⟩,by simp only[gX,tW];have:=h.1;have:=g.1;omega,by simp[T.cA,T.dep]⟩
theorem Em{x:Str}{n:Int}(h:cP x)(g:n.natAbs<2 ^ 20):Pre [.s x,.i n]:=⟨⟨h.2,g,trivial⟩,by simp only[gX,tW];have:=h.1;omega,by simp[T.cA,T.dep]⟩
theorem nil_of{ks:List Tm}(h:(ks.length == 0)=true):ks=[]:=by simpa using h
theorem HJ:∀tm:Tm,Wf tm->xu tm->Tk tm:=by
 intro tm
 refine Tm.induct (P:=fun tm=>Wf tm->xu tm->Tk tm) ?_ tm
 intro h ks ih wf lo
 obtain⟨ar,wfs⟩:=Fx wf
 obtain⟨hl,los⟩:=BK lo
 have kk:∀k∈ks,Tk k:=fun k hk=>ih k hk (wfs k hk) (los k hk)
 have ka:=BL kk
 clear ih wf lo wfs los
 cases h with
 |num n=>obtain rfl:=nil_of ar;exact je (pre:=[.s "num",.i n]) (by rw[bO];rfl) (Em (eS (by decide +kernel)) hl) ka
 |name x=>obtain rfl:=nil_of ar;exact je (pre:=[.s "name",.s x]) (by rw[bO];rfl) (BP (eS (by decide +kernel)) hl) ka
 |gap n=>obtain rfl:=nil_of ar;exact je (pre:=[.s "gap",.i n]) (by rw[bO];rfl) (Em (eS (by decide +kernel)) hl) ka
 |op s=>exact je (pre:=[.s "op",.s s]) (by rw[bO];rfl) (BP (eS (by decide +kernel)) hl) ka
 |row=>exact BO (pre:=[.s "row"]) (by rw[bO];rfl) (zM (eS (by decide +kernel))) ka
 |more=>exact je (pre:=[.s "more"]) (by rw[bO];rfl) (zM (eS (by decide +kernel))) ka
 |first=>exact je (pre:=[.s "first"]) (by rw[bO];rfl) (zM (eS (by decide +kernel))) ka
 |others=>exact je (pre:=[.s "others"]) (by rw[bO];rfl) (zM (eS (by decide +kernel))) ka
 |long=>exact je (pre:=[.s "long"]) (by rw[bO];rfl) (zM (eS (by decide +kernel))) ka
 |tag t=>exact BO (pre:=[.s "tag",.s t]) (by rw[bO];rfl) (BP (eS (by decide +kernel)) hl) ka
 |call t=>exact BO (pre:=[.s "call",.s t]) (by rw[bO];rfl) (BP (eS (by decide +kernel)) hl) ka
 |ife=>exact je (pre:=[.s "if"]) (by rw[bO];rfl) (zM (eS (by decide +kernel))) ka
 |lt x=>exact je (pre:=[.s "let",.s x]) (by rw[bO];rfl) (BP (eS (by decide +kernel)) hl) ka
 |mat arms =>
  cases ks with
  |nil=>simp[i7]at ar
  |cons k q =>
   have a:=yt (arms:=arms) (ks:=q) hl (fun x hx=>kk x (.tail _ hx))
   have b:=kk k (.head _)
   have c:cP ("match":Str):=eS (by decide +kernel)
   refine⟨?_,?_,?_⟩<;>rw[vf]
   ·exact⟨c.2,b.ok,a.ok,trivial⟩
   ·have:=a.w;have:=b.w;have:=c.1
    simp only[tW,gX,Tm.size,Tm.sizes];omega
   ·rw[Tm.size,Tm.sizes]
    exact Nat.le_trans (Gr (d:=3*(k.size+Tm.sizes q)+4) (yd Gs (yd (Nat.le_trans b.d (by omega)) (yd (Gr (d:=3*(k.size+Tm.sizes q)+3) (Nat.le_trans a.d (by omega))) Ip)))) (by omega)
 |fold x y =>
  match ks,ar,kk with
  | [k1,k2,k3],_,kk =>
   have a1:=kk k1 (.head _)
   have a2:=kk k2 (.tail _ (.head _))
   have a3:=kk k3 (.tail _ (.tail _ (.head _)))
   have c:cP ("fold":Str):=eS (by decide +kernel)
   refine⟨?_,?_,?_⟩<;>rw[tD]
   ·exact⟨c.2,a1.ok,hl.1.2,hl.2.2,a2.ok,a3.ok,trivial⟩
   ·have:=a1.w;have:=a2.w;have:=a3.w;have:=c.1;have:=hl.1.1;have:=hl.2.1
    simp only[tW,gX,Tm.size,Tm.sizes];omega
   ·simp only[Tm.size,Tm.sizes]
    exact Nat.le_trans (Gr (d:=3*(k1.size+k2.size+k3.size)+2) (yd Gs (yd (Nat.le_trans a1.d (by omega)) (yd Gs (yd Gs (yd (Nat.le_trans a2.d (by omega)) (yd (Nat.le_trans a3.d (by omega)) Ip))))))) (by omega)
end G27
namespace G27
open PySem L2
@[irreducible] noncomputable def BQ:Stmt:=(bz bW).getD 4 (.Pass ⟨0,0,0,0⟩)
@[irreducible] noncomputable def BR:Stmt:=(bz bW).getD 5 (.Pass ⟨0,0,0,0⟩)
@[irreducible] noncomputable def Dt:List Expr:=match(bz bW).getD 4 (.Pass ⟨0,0,0,0⟩)with
 |.Assign _ (.List es _) _=>es
 |_=>[]
@[irreducible] noncomputable def Du:List Expr:=match(bz bW).getD 5 (.Pass ⟨0,0,0,0⟩)with
 |.Assign _ (.BinOp _ _ (.List es _) _) _=>es
 |_=>[]
@[irreducible] noncomputable def posK (i:Nat):Pos:=match(bz bW).getD 4 (.Pass ⟨0,0,0,0⟩),(bz bW).getD 5 (.Pass ⟨0,0,0,0⟩)with
 |.Assign [.Name _ a] (.List _ b) c,.Assign [.Name _ d] (.BinOp (.Name _ e) _ (.List _ f) g) h=>[a,b,c,d,e,f,g,h].getD i a
 |_,_=>⟨0,0,0,0⟩
noncomputable def yu:List Str:=["num","row","kind","def","more","first","others","long","match","if","let","fold","call"]
noncomputable def yv:List Str:=["gap","in","world","fault","left"]
theorem Dv:BQ=.Assign [.Name "_law_kept" (posK 0)] (.List Dt (posK 1)) (posK 2):=by unfold BQ Dt posK;kernel_rfl
theorem Dw:BR=.Assign [.Name "_law_kept" (posK 3)] (.BinOp (.Name "_law_kept" (posK 4)) .Add (.List Du (posK 5)) (posK 6)) (posK 7):=by unfold BR Du posK;kernel_rfl
theorem JI:strsOf Dt=some yu:=by unfold Dt;kernel_rfl
theorem JJ:strsOf Du=some yv:=by unfold Du;kernel_rfl
theorem xy:bz bW=(bz bW).take 4++(BQ::BR::(bz bW).drop 6):=by unfold BQ BR;kernel_rfl
theorem HK{X:Cx}(hn:X.N.Nodup)(hl:Lm X.N X.env.scope)(h7:X.N[7]?=some ("_law_kept":Str))(hf:X.fn "_law_kept"=true):PS X BQ (nK (yT (xY yu)) (dW 7)):=by
 rw[Dv]
 exact sa hn hl 7 (b8 (sJ JI)) h7 rfl (.inl hf)
theorem HL{X:Cx}(hn:X.N.Nodup)(hl:Lm X.N X.env.scope)(hv:Nm X.N X.env.scope)(h7:X.N[7]?=some ("_law_kept":Str))(hf:X.fn "_law_kept"=true):PS X BR (nK (qk G6 (iu 7) (yT (xY yv))) (dW 7)):=by
 rw[Dw]
 exact sa hn hl 7 (bK As (va hv 7 h7) (b8 (sJ JJ))) h7 rfl (.inl hf)
theorem Fy{α:Type}(xs:List α)(a b:α):fR (xs++[a,b]) (-2)=some a:=by
 unfold fR zU
 have l:(xs++[a,b]).length=xs.length+2:=by simp
 rw[l,if_neg (by decide),if_pos (by omega)]
 have e:(-2+((xs.length+2:Nat):Int)).toNat=xs.length:=by omega
 rw[Option.bind_some,e]
 simp
theorem Fz(n m:Nat)(h:n=m+1):zU n (-1)=some m:=by
 unfold zU
 rw[if_neg (by decide),if_pos (by omega)]
 congr 1
 omega
section
variable {P:Program}{w:World}{K:PySem.W.Frag}{mg:Str->Option Value}{base:Heap}{gT:Addr}{tfd:FuncData}
theorem aR:Nm ["_law_feed_here","_law_many","_law_letters","_law_stem","_law_first","_law_at","_law_turn","_law_kept","_law_found","_law_k","_law_sign","_law_name"] (af bW):=by decide +kernel
theorem dQ:Lm ["_law_feed_here","_law_many","_law_letters","_law_stem","_law_first","_law_at","_law_turn","_law_kept","_law_found","_law_k","_law_sign","_law_name"] (af bW):=by decide +kernel
theorem cB:aM ["_law_feed_here","_law_many","_law_letters","_law_stem","_law_first","_law_at","_law_turn","_law_kept","_law_found","_law_k","_law_sign","_law_name"] ["_law_feed_here","_law_many"] (af bW):=⟨rfl,rfl,rfl,by decide +kernel,rfl,by decide +kernel,by decide +kernel⟩
theorem BS{f:Addr}{fd:FuncData}(F:gJ K "_law_names" "_law_names" bW f fd)(TK:bG P w K mg base "_law_take" 1 ["_law_feed_here","_law_many"] dJ gT tfd)(z_range:mg "range"=none)(z_len:mg "len"=none)(z_int:mg "int"=none) :
  bF P w K mg base dX 2 f fd ["_law_feed_here","_law_many"] yo:=by
 refine F.ok cB (fun vs H Q E h=>?_) (fun cdv A outer s H vs Q E hr h=>?_)
 ·obtain⟨v,tm,rfl,_⟩:=h
  rfl
 obtain⟨r,m,rfl,m1,m2,hf,k⟩:=h
 rw[xy]
 refine⟨_,(Z4 (sa cB.nd dQ 2 aq) (Z4 (Z2 cB.nd dQ 3 (@Eb _ _ _ _ _ _ _ _ _ _ _ _ PySem.F.plainAttrs_str PySem.F.slot_str_join PySem.F.type_str_join CT aq (Z1 (@dR _ _ _ _ _ _ _ _ _ _ _ (af bW) ["_law_feed_here","_law_many","_law_letters","_law_stem","_law_first","_law_at","_law_turn","_law_kept","_law_found","_law_k","_law_sign","_law_name"] ["_law_k"] [0,2] rfl rfl rfl (by decide +kernel) (@jh _ _ _ _ _ _ (by show _=_;kernel_rfl) z_range (Z1 (Z0 TK (cE (va aR 0) (Zb ak))) aj) (by rfl)) (fun _ _ _ _=>(Za (i:=0) (show(["_law_k","_law_feed_here","_law_letters"]:List Str).Nodup by decide +kernel))) (fun _ _ _ _=>cN) (fun _ _ _ _=>(Zc rY (va (show Nm ["_law_k","_law_feed_here","_law_letters"] _ by show _=_;kernel_rfl) 2) (Z0 TK (cE (va (show Nm ["_law_k","_law_feed_here","_law_letters"] _ by show _=_;kernel_rfl) 1) (Zb ak))))) (by intro _;rfl)) aj) (by kernel_rfl) (by kernel_rfl) (by kernel_rfl) (by kernel_rfl) (by kernel_rfl))) (Z4 (@kY _ _ (4) (5) _ _ _ _ _ _ _ _ _ _ _ rfl cB.nd rfl rfl (by decide) rfl rfl (Z1 (Z0 TK (cE (va aR 0) (Zb ak))) (Z1 (Z0 TK (Z1 (va aR 0) (Z1 (Zp eT (Zg lV (Zb (va aR 3))) ak) aj))) aj)) (by rfl) (by rfl)) (Z4 (Z2 cB.nd dQ 6 (Z0 TK (cE (va aR 0) (Zb ak)))) (Z4 (HK cB.nd dQ rfl rfl) (Z4 (HL cB.nd dQ aR rfl rfl) (Z4 (sa cB.nd dQ 8 (b8 aj)) (Z4 (@Af _ _ _ _ _ _ _ _ PassesOwn.never rfl (@jh _ _ _ _ _ _ (by show _=_;kernel_rfl) z_range (Zb (va aR 1)) (by rfl)) (ga cB.nd dQ 9) (Z4 (Z2 cB.nd dQ 10 (Zc rY (va aR 2) (Zp fg (Zp eT (va aR 4) (bK fU ak (va aR 9))) ak))) (Z4 (Z2 cB.nd dQ 11 (Zp jz (Zp jz (@iC _ _ _ _ _ _ _ _ _ _ AG (va aR 3) hU (fF (va aR 5))) (va aR 10)) (@iC _ _ _ _ _ _ _ _ _ _ AG (va aR 3) (fF (va aR 5)) (@fF _ _ _ (Zp fg (bK eT (va aR 6) (va aR 9)) ak))))) (Zd (Zk (Z8 (va aR 8) (Z1 (Zp jz (va aR 11) (Zp wz aq (Z9 iq z_int PyProof.Rows.boot_int (Z1 (gZ mW (va aR 11) (va aR 7) (by with_unfolding_all rfl)) aj)))) aj)))))) (by intro _;rfl)) (Z4 (Zh (PW.pt (@jx _ _ _ _ _ _ _ (cM ug (va aR 1) ak (cV _)) (@jx _ _ _ _ _ _ _ (Zn jP (Zg lV (Z1 (lS aA (va aR 8) (oK kZ ak) (fun _ _=>rfl)) aj)) ak) (@iN _ _ _ _ (Zn gQ (Z0 TK (cE (va aR 0) (Zb ak))) ak))))) (Zd (Zi (Zp jz (lS aA (va aR 8) (oK kZ ak) (fun _ _=>rfl)) aq) (vK (va aR 8) (oK kZ ak) set_list)))) (Zd (iz (va aR 8)))))))))))),?_⟩
 try dsimp only[bY]
 refine⟨rfl,_,rfl,r,5,rfl,by decide,by decide,hf,fun q H2 q0 q6 e2=>?_⟩
 refine⟨_,rfl,by omega,by omega,?_⟩
 have n7:(q:Int).toNat<=4:=by omega
 refine jC (n:=q.toNat) (fun i σ vs Hc=>(∃v,σ=[v,some (.ref r),some (.str "abcdefghijklmnopqrstuvwxyz")])/\Ext r H2 Hc/\∃cs:List Nat,vs=(cs.map fun c=>(⟨#[c]⟩:Str)).map V.str/\cs.length=i/\∀c∈cs,c<1000)
  ⟨⟨none,rfl⟩,Ext.refl e2.2,[],rfl,rfl,fun _ h=>nomatch h⟩ (fun i σ vs Hc _ ⟨_,_,cs,e,el,_⟩=>by rw[e,List.length_map,List.length_map];omega) (small (by omega)) ?_ ?_
 ·rintro i' σ vs Hc hi' ⟨⟨v,rfl⟩,ext,cs,rfl,hcl,hlo⟩
  refine⟨_,rfl,_,rfl,r,26,rfl,by decide,by decide,ext.2,fun d H3 d0 d1 ext2=>?_⟩
  obtain⟨c,hc1,hc2⟩:=atS (z:="abcdefghijklmnopqrstuvwxyz") d0 d1
  refine⟨_,d,c,rfl,rfl,(by decide +kernel),hc1,?_⟩
  exact⟨⟨_,rfl⟩,ext.trans ext2,cs++[c],by rw[List.map_append,List.map_append];rfl,by rw[List.length_append,hcl];rfl,fun c' h=>by rcases List.mem_append.mp h with h|h;exact hlo c' h;rw[List.mem_singleton.mp h];exact yn c hc2⟩
 rintro σ vs Hc ⟨⟨v,rfl⟩,ext,cs,rfl,hcl,hlo⟩ p hp
 refine⟨_,p,_,rfl,rfl,cR.of ah,?_,?_⟩
 ·have z:(Str.ofString "").length=0:=by decide
  rw[AK,z]
  omega
 rw[C1]
 have kp1:Ext r H (upd Hc p (.lst ((cs.map fun c=>(⟨#[c]⟩:Str)).map V.str))):=(e2.trans ext).new hp _
 have ly:(⟨cs.toArray⟩:Str).length<=4:=by rw[E6];omega
 have hy:Lo ⟨cs.toArray⟩:=fun c h=>hlo c (by simpa using h)
 generalize upd Hc p (.lst ((cs.map fun c=>(⟨#[c]⟩:Str)).map V.str))=H4 at kp1⊢
 generalize(⟨cs.toArray⟩:Str)=y at ly hy⊢
 refine⟨_,rfl,r,26,rfl,by decide,by decide,kp1.2,fun d1 H5 b1 c1 e5=>?_⟩
 refine⟨_,rfl,_,rfl,_,rfl,small (by omega),_,_,rfl,rfl,r,_,rfl,by omega,by omega,e5.2,fun d2 H6 b2 c2 e6=>?_⟩
 refine⟨_,_,rfl,?_⟩
 refine⟨_,rfl,r,5,rfl,by decide,by decide,e6.2,fun d3 H7 b3 c3 e7=>?_⟩
 have x7:Ext r H H7:=kp1.trans (e5.trans (e6.trans e7))
 have lk1:yu.length<=100:=by decide
 have lk2:yv.length<=100:=by decide
 refine⟨by rw[List.length_map];exact small (by omega),fun p8 hp8=>?_⟩
 refine⟨_,rfl,by rw[List.length_map];exact small (by omega),fun p9 hp9=>?_⟩
 generalize yu=ks1 at lk1 hp9⊢
 generalize yv=ks2 at lk2 hp9⊢
 refine⟨p8,p9,_,_,rfl,rfl,(ae hp9 _) _ _ ah,ah,by rw[List.length_map,List.length_map];exact small (by omega),fun p10 hp10=>?_⟩
 have x10:Ext r H (upd (upd (upd H7 p8 (.lst (ks1.map V.str))) p9 (.lst (ks2.map V.str))) p10 (.lst (ks1.map V.str++ks2.map V.str))):=((x7.new hp8 _).new hp9 _).new hp10 _
 have h10:upd (upd (upd H7 p8 (.lst (ks1.map V.str))) p9 (.lst (ks2.map V.str))) p10 (.lst (ks1.map V.str++ks2.map V.str)) p10=some (.lst ((ks1++ks2).map V.str)):=by rw[ah,List.map_append]
 generalize upd (upd (upd H7 p8 (.lst (ks1.map V.str))) p9 (.lst (ks2.map V.str))) p10 (.lst (ks1.map V.str++ks2.map V.str))=H10 at x10 h10⊢
 refine⟨Nat.zero_le _,fun l hl=>?_⟩
 have hfl:H l=none:=Ext.free x10 hl
 have nlr:l≠r:=fun z=>by subst z;obtain⟨a,b,z⟩:=x10.2;rw[hl]at z;cases z
 have n10:p10≠l:=aF h10 hl
 have x11:Ext r H (upd H10 l (.lst [])):=x10.new hl _
 refine⟨_,rfl,_,rfl,by omega,by omega,?_⟩
 refine yN (n:=m) (fun i σ Hi=>∃(xs:List Str) (v9 v10 v11:Option V),σ=[some (.ref r),some (.int m),some (.str "abcdefghijklmnopqrstuvwxyz"),some (.str y),some (.int d1),some (.int d2),some (.int d3),some (.ref p10),some (.ref l),v9,v10,v11]/\xs.length=i/\((∀x∈xs,x.length<=10)/\(∀x∈xs,Lo x)/\∀j x,xs[j]?=some x->qi (Txt.slice y none (some d2)).cps.toList d1 j x)/\Hi l=some (.lst (xs.map V.str))/\Hi p10=some (.lst ((ks1++ks2).map V.str))/\Ext r H Hi)
  ⟨[],none,none,none,rfl,rfl,⟨(fun _ h=>nomatch h),(fun _ h=>nomatch h),(fun j x h=>by simp at h)⟩,ah,by rw[au n10];exact h10,x11⟩ ?_ ?_
 ·rintro i σ Hi hi ⟨xs,v9,v10,v11,rfl,hxl,⟨hxs,hlx,hnm⟩,hli,hpi,xi⟩
  have hm:0<=(d1+7*(0+(i:Int))) % 26/\(d1+7*(0+(i:Int))) % 26<26:=by omega
  obtain⟨c,hc1,hc2⟩:=atS (z:="abcdefghijklmnopqrstuvwxyz") (r:=(d1+7*(0+(i:Int))) % 26) hm.1 hm.2
  refine⟨_,rfl,_,rfl,_,rfl,_,_,rfl,rfl,.inl ⟨by decide,by decide⟩,_,_,rfl,rfl,_,_,rfl,rfl,(by show(0:Int)<26;decide),_,_,c,rfl,rfl,(by decide +kernel),hc1,?_⟩
  have la:=PySem.Txt.slice_le y none (some d2)
  have lb:=PySem.Txt.slice_le y (some d2) (some ((d3+(0+(i:Int))) % 5))
  refine⟨_,rfl,_,rfl,_,rfl,_,rfl,small (by omega),_,rfl,_,_,rfl,rfl,small (by show _+1<=1000;omega),?_⟩
  refine⟨_,rfl,_,rfl,_,rfl,_,rfl,_,rfl,_,_,rfl,rfl,_,_,rfl,rfl,(by show(0:Int)<5;decide),_,rfl,_,rfl,small (by omega),?_⟩
  have lc:(Txt.slice y none (some d2)++(⟨#[c]⟩:Str)).length=(Txt.slice y none (some d2)).length+1:=by rw[strLen_append];rfl
  refine⟨_,_,rfl,rfl,small (by omega),?_⟩
  have ln:(Txt.slice y none (some d2)++(⟨#[c]⟩:Str)++Txt.slice y (some d2) (some ((d3+(0+(i:Int))) % 5))).length<=9:=by rw[strLen_append];omega
  have hl0:Lo (Txt.slice y none (some d2)++(⟨#[c]⟩:Str)++Txt.slice y (some d2) (some ((d3+(0+(i:Int))) % 5))):=((hy.slice _ _).append (Lo.one hc2)).append (hy.slice _ _)
  have hn0:qi (Txt.slice y none (some d2)).cps.toList d1 i (Txt.slice y none (some d2)++(⟨#[c]⟩:Str)++Txt.slice y (some d2) (some ((d3+(0+(i:Int))) % 5))):=by
   refine qi.snoc ⟨c,[],?_,?_⟩ _
   ·rw[Int.zero_add]at hc1;exact hc1
   ·show((Txt.slice y none (some d2)).cps++#[c]).toList=_
    rw[Array.toList_append]
  generalize Txt.slice y none (some d2)++(⟨#[c]⟩:Str)++Txt.slice y (some d2) (some ((d3+(0+(i:Int))) % 5))=nm at ln hn0 hl0⊢
  refine⟨_,rfl,.inl ⟨rfl,_,cR.of hli⟩,_,rfl,_,rfl,_,rfl,p10,_,rfl,.inl (cR.of hpi),rfl,kE _,.inr ⟨_,rfl,?_⟩⟩
  generalize Gm (V.str nm) ((ks1++ks2).map V.str)=b
  have lq1:(Str.ofString "q").length=1:=by decide
  have lq:(Txt.mul (Str.ofString "q") (if b=true then 1 else 0)).length<=1:=by have:=Hh b "q";rw[lq1]at this;exact this
  have lq':(Txt.mul (Str.ofString "q") (if(if false=true then !b else b)=true then 1 else 0)).length<=1:=lq
  refine⟨_,_,rfl,rfl,by split<;>omega,by split<;>omega,?_,?_⟩
  ·rw[lq1];exact small (by cases b<;>decide)
  refine⟨_,_,rfl,rfl,small (by omega),?_⟩
  refine⟨l,_,_,rfl,rfl,hli,by rw[List.length_map];exact bu (by omega),?_⟩
  refine⟨xs++[nm++Txt.mul "q" (if b then 1 else 0)],_,_,_,rfl,by rw[List.length_append,hxl];rfl,⟨fun x hx=>?_,fun x hx=>?_,fun j x hx=>?_⟩,by rw[ah,List.map_append];rfl,by rw[au n10];exact hpi,?_⟩
  ·rcases List.mem_append.mp hx with h|h
   ·exact hxs x h
   ·rw[List.mem_singleton.mp h,strLen_append];omega
  ·rcases List.mem_append.mp hx with h|h
   ·exact hlx x h
   ·rw[List.mem_singleton.mp h];exact hl0.append (Lo.q b)
  ·by_cases cj:j<xs.length
   ·rw[List.getElem?_append_left cj]at hx;exact hnm j x hx
   ·have hj:j=i:=by have:=(List.getElem?_eq_some_iff.mp hx).1;rw[List.length_append]at this;simp at this;omega
    subst hj
    rw[List.getElem?_append_right (by omega),hxl,Nat.sub_self]at hx
    simp at hx
    rw[←hx]
    exact hn0.snoc _
  ·refine⟨fun b o nb e=>?_,?_⟩
   ·rw[au (aF e hfl)];exact xi.1 b o nb e
   ·obtain⟨a,b,z⟩:=xi.2
    exact⟨a,b,by rw[au nlr.symm];exact z⟩
 ·rintro σ Hi ⟨xs,v9,v10,v11,rfl,hxl,⟨hxs,hlx,hnm⟩,hli,hpi,xi⟩
  have fin:∀(Hf:Hp) (ys:List Str),Ext r H Hf->Hf l=some (.lst (ys.map V.str))->ys.length=m->(∀x∈ys,x.length<=20/\Lo x)->Un ys->Q (.ref l) Hf:=fun Hf ys a b c d=>k l Hf ys a hfl b c d
  have ret:∀{Hf:Hp}(ys:List Str),Ext r H Hf->Hf l=some (.lst (ys.map V.str))->ys.length=m->(∀x∈ys,x.length<=20/\Lo x)->Un ys->EE (iu 8) {nx:=fun _ H'=>Q .eW H',rt:=Q} [some (.ref r),some (.int m),some (.str "abcdefghijklmnopqrstuvwxyz"),some (.str y),some (.int d1),some (.int d2),some (.int d3),some (.ref p10),some (.ref l),v9,v10,v11] Hf:=fun ys a b c d u=>⟨_,rfl,fin _ ys a b c d u⟩
  have un:Un xs:=qi.JF (by omega) hnm
  have x20:∀x∈xs,x.length<=20/\Lo x:=fun x hx=>⟨Nat.le_trans (hxs x hx) (by decide),hlx x hx⟩
  refine⟨_,rfl,_,_,rfl,rfl,_,rfl,bX (fun c=>?_) (fun c=>?_)⟩
  ·have c1:1<m:=by have z:(1:Int)<(m:Int):=of_decide_eq_true c;omega
   obtain⟨xs',x2,x1,rfl⟩:∃xs' x2 x1,xs=xs'++[x2,x1]:=by
    rcases List.eq_nil_or_concat xs with rfl|⟨a,x1,rfl⟩
    ·simp at hxl;omega
    rcases List.eq_nil_or_concat a with rfl|⟨b,x2,rfl⟩
    ·simp at hxl;omega
    exact⟨b,x2,x1,by simp⟩
   have l2:x2.length<=10:=hxs x2 (by simp)
   have a2:fR ((xs'++[x2,x1]).map V.str) (-2)=some (.str x2):=by rw[List.map_append];exact Fy _ _ _
   refine⟨_,rfl,_,rfl,l,_,_,_,rfl,rfl,cR.of hli,a2,_,rfl,small (by omega),_,_,rfl,rfl,_,rfl,bX (fun c=>?_) (fun c=>?_)⟩
   ·refine⟨_,rfl,r,4,rfl,by decide,by decide,xi.2,fun d4 H11 _ _ e11=>?_⟩
    have xj:=xi.trans e11
    have hlj:=e11.1 l _ nlr hli
    refine⟨rfl,_,rfl,bX (fun c=>?_) (fun c=>?_)⟩
    ·refine⟨_,rfl,_,rfl,l,_,_,_,rfl,rfl,cR.of hlj,a2,_,_,rfl,rfl,small (by show _+1<=1000;omega),?_⟩
     refine⟨_,rfl,_,rfl,l,_,_,xs'.length+1,rfl,rfl,hlj,?_,?_⟩
     ·exact Fz _ _ (by simp)
     refine ret (xs'++[x2,x2++Str.ofString "q"]) ?_ ?_ ?_ ?_ (qi.last (by omega) (by decide) hnm)
     ·refine⟨fun b o nb e=>?_,?_⟩
      ·rw[au (aF e hfl)];exact xj.1 b o nb e
      ·obtain⟨a,b,z⟩:=xj.2
       exact⟨a,b,by rw[au nlr.symm];exact z⟩
     ·rw[ah];simp
     ·rw[←hxl];simp
     ·intro x hx
      simp at hx
      rcases hx with h|rfl|rfl
      ·exact x20 x (by simp[h])
      ·exact⟨by omega,hlx _ (by simp)⟩
      ·refine⟨?_,(hlx x2 (by simp)).append Lo.q1⟩
       rw[strLen_append];have:(Str.ofString "q").length=1:=by decide
       omega
    ·exact ret _ xj hlj hxl x20 un
   ·exact ret _ xi hli hxl x20 un
  ·exact ret _ xi hli hxl x20 un
end
noncomputable def mL(H:Hp)(a:Addr)(ws:List Str):Prop:=H a=some (.lst (ws.map V.str))/\1<=ws.length/\ws.length<=100
theorem mL.ne{H:Hp}{a f:Addr}{ws:List Str}(h:mL H a ws)(hf:bQ H f):a≠f:=fun z=>by
 obtain⟨p,q,e⟩:=hf
 subst z
 rw[h.1]at e
 cases ws with
 |nil=>have:=h.2.1;simp at this
 |cons x r=>injection e with e;injection e with e;rw[List.map_cons]at e;injection e with e;cases e
theorem mL.same{H H':Hp}{a:Addr}{ws:List Str}(h:mL H a ws)(e:br H H'):mL H' a ws:=⟨e a _ h.1,h.2⟩
noncomputable def jw:Sp:=fun vs H Q _=>∃f:Addr,vs=[.ref f]/\bQ H f/\∀(n:Int) (H':Hp),0<=n->n<1000000->Ext f H H'->Q (.int n) H'
section
variable {P:Program}{w:World}{K:PySem.W.Frag}{mg:Str->Option Value}{base:Heap}{gT gN gA:Addr}{tfd nfd afd:FuncData}
theorem eL:Nm ["_law_feed_here","_law_form"] (af iH):=by decide +kernel
theorem vj:Lm ["_law_feed_here","_law_form"] (af iH):=by decide +kernel
theorem nI:aM ["_law_feed_here","_law_form"] ["_law_feed_here"] (af iH):=⟨rfl,rfl,rfl,by decide +kernel,rfl,by decide +kernel,by decide +kernel⟩
theorem zN{f:Addr}{fd:FuncData}(F:gJ K "_law_number" "_law_number" iH f fd)(TK:bG P w K mg base "_law_take" 1 ["_law_feed_here","_law_many"] dJ gT tfd):bF P w K mg base dX 2 f fd ["_law_feed_here"] jw:=by
 refine F.ok nI (fun vs H Q E h=>?_) (fun cdv A outer s H vs Q E hr h=>?_)
 ·obtain⟨v,rfl,_⟩:=h
  rfl
 obtain⟨r,rfl,hf,k⟩:=h
 refine⟨_,(Z4 (Z2 nI.nd vj 1 (Z0 TK (cE (va eL 0) (Zb ak)))) (Z4 (Zh (cM jP (va eL 1) ak (cV _)) (Zd (Zm (Z0 TK (Z1 (va eL 0) (Z1 (Zc aA (@b8 _ _ _ _ (Z1 ak (Z1 ak (Z1 ak (Z1 ak (cE ak (Zb ak))))))) (va eL 1)) aj)))))) (Zd (Zm (Zc aA (@b8 _ _ _ _ (Z1 (Z0 TK (cE (va eL 0) (Zb ak))) (Z1 (Zp iY ak (Z0 TK (cE (va eL 0) (Zb ak)))) aj))) (bK iY (va eL 1) ak)))))),?_⟩
 try dsimp only[bY]
 refine⟨_,rfl,r,8,rfl,by decide,by decide,hf,fun q H1 q0 q1 e1=>?_⟩
 refine⟨_,rfl,_,_,rfl,rfl,_,rfl,bX (fun c=>?_) (fun c=>?_)⟩
 ·have c6:q<6:=of_decide_eq_true c
  refine⟨_,rfl,(by show 6<=sizeLine;decide),fun l hl=>?_⟩
  obtain⟨v,hv,hm⟩:=AM (xs:=[V.int 2,V.int 4,V.int 4,V.int 10,V.int 10,V.int 100]) q0 (by simpa using c6)
  obtain⟨n,rfl,n0,n1⟩:∃n:Int,v=.int n/\0<n/\n<=100:=by
   simp only[List.mem_cons,List.not_mem_nil,or_false]at hm
   rcases hm with rfl|rfl|rfl|rfl|rfl|rfl
   ·exact⟨2,rfl,by decide,by decide⟩
   ·exact⟨4,rfl,by decide,by decide⟩
   ·exact⟨4,rfl,by decide,by decide⟩
   ·exact⟨10,rfl,by decide,by decide⟩
   ·exact⟨10,rfl,by decide,by decide⟩
   ·exact⟨100,rfl,by decide,by decide⟩
  refine⟨_,rfl,l,_,_,_,rfl,rfl,cR.of ah,hv,r,n,rfl,n0,by omega,e1.2.same (ae hl _),fun x H2 x0 x1 e2=>?_⟩
  exact k x H2 x0 (by omega) ((e1.new hl _).trans e2)
 ·have c6:¬q<6:=fun z=>c (decide_eq_true z)
  refine⟨_,rfl,r,1000000,rfl,by decide,by decide,e1.2,fun x H2 x0 x1 e2=>?_⟩
  refine⟨_,rfl,r,3,rfl,by decide,by decide,e2.2,fun y H3 y0 y1 e3=>?_⟩
  refine⟨_,_,rfl,rfl,(by show 2<=sizeLine;decide),fun l hl=>?_⟩
  have e4:=((e1.trans e2).trans e3).new hl (.lst [.int x,.int (999999-y)])
  obtain⟨v,hv,hm⟩:=AM (xs:=[V.int x,V.int (999999-y)]) (k:=q-6) (by omega) (by simp;omega)
  refine⟨_,rfl,_,_,rfl,rfl,l,_,_,_,rfl,rfl,cR.of ah,hv,?_⟩
  simp only[List.mem_cons,List.not_mem_nil,or_false]at hm
  rcases hm with rfl|rfl
  ·exact k _ _ x0 x1 e4
  ·exact k _ _ (by omega) (by omega) e4
end
end G27
namespace L2
open PySem
@[irreducible] noncomputable def kh (X:Cx) (st:List Stmt):TS:=fun D σ H=>∃u,vH X st u/\u D σ H
theorem eR{X:Cx}{st:List Stmt}:vH X st (kh X st):=fun pins s σ H D I h=>by
 unfold kh at h
 obtain⟨u,hu,q⟩:=h
 exact hu pins s σ H D I q
theorem gb{X:Cx}{st:List Stmt}{D:Ends}{σ:St}{H:Hp}{u:TS}(h:vH X st u)(q:u D σ H):kh X st D σ H:=by
 unfold kh
 exact⟨u,h,q⟩
theorem BU{X:Cx}{pos:Pos}{k1 k2 k3 k4 v1 v2 v3 v4:Expr}{t1 t2 t3 t4 s1 s2 s3 s4:TE}(a1:PE X k1 t1)(b1:PE X v1 s1)(a2:PE X k2 t2)(b2:PE X v2 s2)(a3:PE X k3 t3)(b3:PE X v3 s3)(a4:PE X k4 t4)(b4:PE X v4 s4) :
  PE X (.Dict [some k1,some k2,some k3,some k4] [v1,v2,v3,v4] pos) (Az [(t1,s1),(t2,s2),(t3,s3),(t4,s4)]) :=
 xU (eV a1 b1 (eV a2 b2 (eV a3 b3 (eV a4 b4 xT)))) rfl rfl (List.cons_ne_nil _ _) (by show 4<=15;decide)
section
variable {K:PySem.W.Frag}{σ:St}{H:Hp}
theorem bB.FA{H:Hp}:∀{ts:List T}{vs:List V}{i:Nat}{t:T},bB K H ts vs->ts[i]?=some t->∃v,vs[i]?=some v/\Rp K H t v
 | [],_,_,_,_,e=>by simp at e
 |x::r,vs,i,t,h,e=>by
  obtain⟨v,us,rfl,a,b⟩:=h.inv
  cases i with
  |zero=>simp at e;subst e;exact⟨v,rfl,a⟩
  |succ j =>
   rw[List.getElem?_cons_succ]at e
   obtain⟨u,eu,ru⟩:=b.FA e
   exact⟨u,by rw[List.getElem?_cons_succ];exact eu,ru⟩
end
end L2
namespace G27
open PySem L2
theorem Dy{D:gH}{a:Str×List Str×T}{x:Str}(h:a.1≠x):tY (D++[a]) x=tY D x:=by rw[j9,if_neg h]
theorem FE{D:gH}{a:Str×List Str×T}{x:Str}(h:a.1=x):tY (D++[a]) x=some a.2:=by rw[j9,if_pos h]
noncomputable def stK(ln lr:Addr)(n:Nat)(tn:Int)(av:V):List (Key×V):=[(Sum.inr "names",.ref ln),(Sum.inr "rows",.ref lr),(Sum.inr "gaps",.int n),(Sum.inr "turn",.int tn),(Sum.inr "around",av)]
theorem BV(ln lr:Addr)(n:Nat)(tn:Int)(av:V):dY (stK ln lr n tn av) (Sum.inr "names")=some (.ref ln):=by kernel_rfl
theorem Dz(ln lr:Addr)(n:Nat)(tn:Int)(av:V):dY (stK ln lr n tn av) (Sum.inr "rows")=some (.ref lr):=by kernel_rfl
theorem DA(ln lr:Addr)(n:Nat)(tn:Int)(av:V):dY (stK ln lr n tn av) (Sum.inr "gaps")=some (.int n):=by kernel_rfl
theorem DB(ln lr:Addr)(n:Nat)(tn:Int)(av:V):dY (stK ln lr n tn av) (Sum.inr "turn")=some (.int tn):=by kernel_rfl
theorem zO(ln lr:Addr)(n:Nat)(tn:Int)(av:V):dY (stK ln lr n tn av) (Sum.inr "around")=some av:=by kernel_rfl
theorem DC(ln lr:Addr)(n:Nat)(tn:Int)(av:V):putK (stK ln lr n tn av) (Sum.inr "gaps") (.int ((n:Int)+1))=stK ln lr (n+1) tn av:=by kernel_rfl
theorem DE(ln lr:Addr)(n:Nat)(tn:Int)(av av':V):putK (stK ln lr n tn av) (Sum.inr "around") av'=stK ln lr n tn av':=by kernel_rfl
structure jJ(K:PySem.W.Frag) (H:Hp) (f d ln lr:Addr) (xs:List Str) (n:Nat) (tn:Int) (env:Env) (R:List T):Prop where
 hf:bQ H f
 dd:∃av,H d=some (.dK (stK ln lr n tn av))/\Rp K H (dh env) av
 hn:H ln=some (.lst (xs.map V.str))
 rr:∃rv,H lr=some (.lst rv)/\bB K H R rv
 nlf:lr≠f
 nln:lr≠ln
noncomputable def Cg(f d lr:Addr)(H H':Hp):Prop:=∀b u,b≠f->b≠d->b≠lr->H b=some u->H' b=some u
theorem Cg.trans{f d lr:Addr}{H H1 H2:Hp}(a:Cg f d lr H H1)(b:Cg f d lr H1 H2):Cg f d lr H H2:=fun x u n1 n2 n3 e=>b x u n1 n2 n3 (a x u n1 n2 n3 e)
theorem Cg.same{f d lr:Addr}{H H1:Hp}(s:br H H1):Cg f d lr H H1:=fun x u _ _ _ e=>s x u e
theorem Cg.ext{f d lr:Addr}{H H1:Hp}(s:Ext f H H1):Cg f d lr H H1:=fun x u n _ _ e=>s.1 x u n e
section
variable {K:PySem.W.Frag}{H H':Hp}{f d ln lr:Addr}{xs:List Str}{n:Nat}{tn:Int}{env:Env}{R:List T}
theorem jJ.kt(h:jJ K H f d ln lr xs n tn env R)(c:Cg f d lr H H'):Kt H H':=fun a vs r=>by
 obtain⟨p,q,e⟩:=h.hf
 obtain⟨av,ed,_⟩:=h.dd
 obtain⟨rv,er,_⟩:=h.rr
 rcases r with r|⟨o,r⟩
 ·exact .inl (c a _ (cF r e (fun z=>nomatch z)) (cF r ed (fun z=>nomatch z)) (cF r er (fun z=>nomatch z)) r)
 ·exact .inr ⟨o,c a _ (cF r e (fun z=>nomatch z)) (cF r ed (fun z=>nomatch z)) (cF r er (fun z=>nomatch z)) r⟩
theorem gc{f:Addr}(h:bQ H f)(s:br H H'):bQ H' f:=by
 obtain⟨p,q,e⟩:=h
 exact⟨p,q,s _ _ e⟩
theorem oF{l:Addr}(hf:bQ H f)(h:H l=some (.lst (xs.map V.str))):l≠f:=fun z=>by
 obtain⟨p,q,e⟩:=hf
 rw[←z,h]at e
 injection e with e
 injection e with e
 cases xs with
 |nil=>cases e
 |cons y ys=>rw[List.map_cons]at e;injection e with e;cases e
theorem jJ.same(h:jJ K H f d ln lr xs n tn env R)(s:br H H'):jJ K H' f d ln lr xs n tn env R:=by
 obtain⟨av,ed,ra⟩:=h.dd
 obtain⟨rv,er,rs⟩:=h.rr
 exact⟨gc h.hf s,⟨av,s _ _ ed,ra.same s⟩,s _ _ h.hn,⟨rv,s _ _ er,rs.same s⟩,h.nlf,h.nln⟩
theorem jJ.ext(h:jJ K H f d ln lr xs n tn env R)(s:Ext f H H'):jJ K H' f d ln lr xs n tn env R:=by
 have k:=s.kt h.hf
 obtain⟨p,q,e⟩:=h.hf
 obtain⟨av,ed,ra⟩:=h.dd
 obtain⟨rv,er,rs⟩:=h.rr
 exact⟨s.2,⟨av,s.1 d _ (cF ed e (fun z=>nomatch z)) ed,ra.kt k⟩,s.1 ln _ (oF h.hf h.hn) h.hn,⟨rv,s.1 lr _ h.nlf er,rs.kt k⟩,h.nlf,h.nln⟩
theorem jJ.Jj(h:jJ K H f d ln lr xs n tn env R):d≠f/\d≠ln/\d≠lr:=by
 obtain⟨p,q,e⟩:=h.hf
 obtain⟨av,ed,ra⟩:=h.dd
 obtain⟨rv,er,rs⟩:=h.rr
 exact⟨cF ed e (fun z=>nomatch z),cF ed h.hn (fun z=>nomatch z),cF ed er (fun z=>nomatch z)⟩
theorem jJ.Jk(h:jJ K H f d ln lr xs n tn env R):∃H',oV H d (.str "gaps") (.int ((n:Int)+1)) H'/\jJ K H' f d ln lr xs (n+1) tn env R/\Cg f d lr H H'/\Kt H H':=by
 obtain⟨n1,n2,n3⟩:=h.Jj
 obtain⟨p,q,e⟩:=h.hf
 obtain⟨av,ed,ra⟩:=h.dd
 obtain⟨rv,er,rs⟩:=h.rr
 have pp:=oV.k (k:=Sum.inr "gaps") (v:=.int ((n:Int)+1)) ed (bu (by show 5<=1000;decide))
 rw[DC]at pp
 have k:Kt H (upd H d (.dK (stK ln lr (n+1) tn av))):=Kt.upd ed (fun _ z=>nomatch z) (fun _ _ z=>nomatch z) _
 exact⟨_,pp,⟨⟨p,q,by rw[au n1.symm];exact e⟩,⟨av,ah,ra.kt k⟩,by rw[au n2.symm];exact h.hn,⟨rv,by rw[au n3.symm];exact er,rs.kt k⟩,h.nlf,h.nln⟩,fun b u _ m2 _ e=>by rw[au m2];exact e,k⟩
theorem jJ.Jl{env':Env}{av':V}(h:jJ K H f d ln lr xs n tn env R)(r:Rp K H (dh env') av'):∃H',oV H d (.str "around") av' H'/\jJ K H' f d ln lr xs n tn env' R/\Cg f d lr H H'/\Kt H H':=by
 obtain⟨n1,n2,n3⟩:=h.Jj
 obtain⟨p,q,e⟩:=h.hf
 obtain⟨av,ed,ra⟩:=h.dd
 obtain⟨rv,er,rs⟩:=h.rr
 have pp:=oV.k (k:=Sum.inr "around") (v:=av') ed (bu (by show 5<=1000;decide))
 rw[DE]at pp
 have k:Kt H (upd H d (.dK (stK ln lr n tn av'))):=Kt.upd ed (fun _ z=>nomatch z) (fun _ _ z=>nomatch z) _
 exact⟨_,pp,⟨⟨p,q,by rw[au n1.symm];exact e⟩,⟨av',ah,r.kt k⟩,by rw[au n2.symm];exact h.hn,⟨rv,by rw[au n3.symm];exact er,rs.kt k⟩,h.nlf,h.nln⟩,fun b u _ m2 _ e=>by rw[au m2];exact e,k⟩
theorem jJ.addr(h:jJ K H f d ln lr xs n tn env R){rv:List V}(er:H lr=some (.lst rv))(rs:bB K H R rv){t:T}{v:V}(hv:Rp K H t v):jJ K (upd H lr (.lst (rv++[v]))) f d ln lr xs n tn env (R++[t])/\Cg f d lr H (upd H lr (.lst (rv++[v])))/\Kt H (upd H lr (.lst (rv++[v]))):=by
 obtain⟨n1,n2,n3⟩:=h.Jj
 obtain⟨p,q,e⟩:=h.hf
 obtain⟨av,ed,ra⟩:=h.dd
 have k:Kt H (upd H lr (.lst (rv++[v]))):=Kt.lst er _
 exact⟨⟨⟨p,q,by rw[au h.nlf.symm];exact e⟩,⟨av,by rw[au n3];exact ed,ra.kt k⟩,by rw[au h.nln.symm];exact h.hn,⟨_,ah,(rs.snoc hv).kt k⟩,h.nlf,h.nln⟩,fun b u _ _ m3 e=>by rw[au m3];exact e,k⟩
theorem jJ.g(h:jJ K H f d ln lr xs n tn env R):gv H d (.str "names") (some (.ref ln))/\gv H d (.str "rows") (some (.ref lr))/\gv H d (.str "gaps") (some (.int n))/\gv H d (.str "turn") (some (.int tn))/\∃av,gv H d (.str "around") (some av)/\Rp K H (dh env) av:=by
 obtain⟨av,ed,ra⟩:=h.dd
 have h1:=gv.k (k:=Sum.inr "names") ed
 have h2:=gv.k (k:=Sum.inr "rows") ed
 have h3:=gv.k (k:=Sum.inr "gaps") ed
 have h4:=gv.k (k:=Sum.inr "turn") ed
 have h5:=gv.k (k:=Sum.inr "around") ed
 rw[BV]at h1
 rw[Dz]at h2
 rw[DA]at h3
 rw[DB]at h4
 rw[zO]at h5
 exact⟨h1,h2,h3,h4,av,h5,ra⟩
end
noncomputable def wf(xs:List Str)(i:Nat):Str:=xs.getD i ""
theorem fk{xs:List Str}{i:Nat}(h:i<xs.length):xs[i]?=some (wf xs i):=by
 unfold wf
 rw[List.getD_eq_getElem?_getD,List.getElem?_eq_getElem h]
 rfl
inductive Vn:T->Prop
 |num {x:Int}:Nb x->Vn (aZ x)
 |left {k:Nat}:k<=100->Vn (aG k)
inductive Vr:T->Prop
 |row {ts:List T}:ts.length<=4->(∀t∈ts,Vn t)->Vr (bD ts)
 |left {k:Nat}:k<=100->Vr (aG k)
inductive Vt(w:Nat->Str):T->Prop
 |t1 {a b:T}:Vn a->Vr b->Vt w (jF (w 1) [a,b])
 |t2:Vt w (jF (w 2) [])
 |left {k:Nat}:k<=100->Vt w (aG k)
theorem Vn.nl{t:T}(h:Vn t):Nl t:=by
 cases h with
 |num h=>exact .num h
 |left _=>exact .left
structure Sz(w dd:Nat) (t:T):Prop where
 ok:zV t
 w:tW t<=w
 d:t.dep<=dd
theorem Sz.le{w w' d d':Nat}{t:T}(h:Sz w d t)(h1:w<=w')(h2:d<=d'):Sz w' d' t:=⟨h.ok,Nat.le_trans h.w h1,Nat.le_trans h.d h2⟩
theorem zP(x:Str)(h:kwOk x=true):Lo x/\x.length<=20:=⟨(eS h).2,(eS h).1⟩
theorem Vn.sz{t:T}(h:Vn t):Sz 50 1 t:=by
 cases h with
 |@num x h =>
  obtain⟨a,b⟩:=zP "num" (by decide +kernel)
  exact⟨⟨a,Fv h,trivial⟩,by simp only[aZ,tW,gX];omega,by simp[aZ,T.dep,T.cA]⟩
 |@left k h =>
  obtain⟨a,b⟩:=zP "left" (by decide +kernel)
  have e:(2:Nat) ^ 20=1048576:=by decide
  exact⟨⟨a,by show((k:Int)).natAbs<2 ^ 20;omega,trivial⟩,by simp only[aG,tW,gX];omega,by simp[aG,T.dep,T.cA]⟩
theorem Iz{w d:Nat}:∀{ts:List T},(∀t∈ts,Sz w d t)->nX ts/\gX ts<=ts.length*(w+1)/\T.cA ts<=d
 | [],_=>⟨trivial,by simp[gX],by simp[T.cA]⟩
 |t::r,h=>by
  obtain⟨b1,b2,b3⟩:=Iz (ts:=r) (fun x hx=>h x (.tail _ hx))
  have a:=h t (.head _)
  have:=a.w;have:=a.d
  refine⟨⟨a.ok,b1⟩,?_,?_⟩
  ·rw[gX,List.length_cons,Nat.succ_mul];omega
  ·rw[T.cA];omega
theorem Vr.sz{t:T}(h:Vr t):Sz 300 3 t:=by
 cases h with
 |@row ts hl h =>
  obtain⟨a,b⟩:=zP "row" (by decide +kernel)
  obtain⟨b1,b2,b3⟩:=Iz (fun t ht=>(h t ht).sz)
  have:ts.length*51<=4*51:=Nat.mul_le_mul_right 51 hl
  exact⟨⟨a,b1,trivial⟩,by simp only[bD,tW,gX];omega,by fail "D"⟩
 |left h=>exact(Vn.left h).sz.le (by decide) (by decide)
theorem Vt.sz{w:Nat->Str}{t:T}(h1:cP (w 1))(h2:cP (w 2))(h:Vt w t):Sz 500 5 t:=by
 obtain⟨a,b⟩:=zP "tag" (by decide +kernel)
 cases h with
 |t1 ha hb =>
  have x:=ha.sz;have y:=hb.sz
  have:=x.w;have:=y.w;have:=x.d;have:=y.d;have:=h1.1
  exact⟨⟨a,h1.2,⟨x.ok,y.ok,trivial⟩,trivial⟩,by simp only[jF,tW,gX];omega,by fail "D"⟩
 |t2 =>
  have:=h2.1
  exact⟨⟨a,h2.2,trivial,trivial⟩,by simp only[jF,tW,gX];omega,by fail "D"⟩
 |left h=>exact(Vn.left h).sz.le (by decide) (by decide)
structure E3(w:Nat->Str) (env:Env) (a0 a1 a2:T):Prop where
 e:env=[(w 5,a0),(w 6,a1),(w 7,a2)]
 v0:Vn a0
 v1:Vr a1
 v2:Vt w a2
noncomputable def yw(w:Nat->Str):Prop:=∀i,cP (w i)
structure WN(w:Nat->Str):Prop where
 ok:yw w
 ne:∀i k,i<10->k<10->i≠k->w i≠w k
noncomputable def RB(R:List T):Prop:=∀r∈R,Sz 20000 70 r
theorem RB.snoc{R:List T}{r:T}(h:RB R)(g:Sz 20000 70 r):RB (R++[r]):=fun x hx=>by
 rcases List.mem_append.mp hx with z|z
 ·exact h x z
 ·rw[List.mem_singleton.mp z];exact g
structure Gn(V:T->Prop) (k z h:Nat) (env:Env) (R:List T) (tm:Tm) (t:T) (R':List T):Prop where
 nice:bU z tm
 v:V t
 ev:∀D c,Bs D h tm env ⟨R,c⟩ (.ok t ⟨R',c⟩)
 len:R'.length<=R.length+k
 rb:RB R->RB R'
theorem Gn.le{V:T->Prop}{k z h k' z' h':Nat}{env:Env}{R:List T}{tm:Tm}{t:T}{R':List T}(g:Gn V k z h env R tm t R')(h1:k<=k')(h2:z<=z')(h3:h<=h'):Gn V k' z' h' env R tm t R':=⟨g.nice.le h2,g.v,fun D c=>(g.ev D c).le h3,Nat.le_trans g.len (by omega),g.rb⟩
noncomputable def gP(y:Int)(env:Env):T:=.t [.s "gap",.i y,dh env]
theorem E3.ar{w:Nat->Str}{env:Env}{a0 a1 a2:T}(hw:yw w)(h:E3 w env a0 a1 a2):Sz 1200 8 (dh env):=by
 have x:=h.v0.sz;have y:=h.v1.sz;have z:=h.v2.sz (hw 1) (hw 2)
 have:=x.w;have:=y.w;have:=x.d;have:=y.d;have:=z.w;have:=z.d;have:=(hw 5).1;have:=(hw 6).1;have:=(hw 7).1
 rw[h.e]
 exact⟨⟨⟨(hw 5).2,x.ok,trivial⟩,⟨(hw 6).2,y.ok,trivial⟩,⟨(hw 7).2,z.ok,trivial⟩,trivial⟩,by simp only[dh,List.map_cons,List.map_nil,pT,tW,gX];omega,by fail "D"⟩
theorem tK{y:Int}{env:Env}{w d:Nat}(hy:y.natAbs<2 ^ 20)(h:Sz w d (dh env)):Sz (w+60) (d+1) (gP y env):=by
 obtain⟨a,b⟩:=zP "gap" (by decide +kernel)
 have:=h.w;have:=h.d
 exact⟨⟨a,hy,h.ok,trivial⟩,by simp only[gP,tW,gX];omega,by fail "D"⟩
noncomputable def qy(K:PySem.W.Frag)(f:Addr)(t:TE)(σ:St)(H:Hp)(P:T->Prop):Prop:=∀(H1:Hp) (Q:VK),Ext f H H1->(∀H2 v tr,Ext f H1 H2->P tr->Rp K H2 tr v->Q v H2)->t σ H1 Q
noncomputable def vn(K:PySem.W.Frag)(f:Addr)(t:TA)(σ:St)(H:Hp)(n:Nat)(P:List T->Prop):Prop:=∀(H1:Hp) (Q:List V->Hp->Prop),Ext f H H1->(∀H2 vs trs,Ext f H1 H2->trs.length=n->P trs->bB K H2 trs vs->Q vs H2)->t σ H1 Q
noncomputable abbrev Pc(a:T->Prop)(b:List T->Prop):List T->Prop:=fun l=>∃x xs,a x/\b xs/\l=x::xs
noncomputable abbrev P0:List T->Prop:=(·=[])
theorem mw{a b:TS}{D:L2.Ends}{σ:L2.St}{H:Hp}(h:∀N:L2.St->Hp->Prop,(∀σ H,b D σ H->N σ H)->a {D with nx:=N} σ H):aT a b D σ H:=h (b D) (fun _ _ x=>x)
section
variable {K:PySem.W.Frag}{f:Addr}{σ:St}{H:Hp}
theorem jf{x:Str}:qy K f (tC (.str x)) σ H (·=.s x):=fun H1 _ e k=>k H1 _ _ (Ext.refl e.2) rfl .s
theorem Jm{x:Int}:qy K f (tC (.int x)) σ H (·=.i x):=fun H1 _ e k=>k H1 _ _ (Ext.refl e.2) rfl .i
theorem xA{i:Nat}{v:V}{tr:T}(hf:bQ H f)(r:Rp K H tr v)(e:σ[i]?=some (some v)):qy K f (iu i) σ H (·=tr):=fun H1 _ x k=>⟨v,e,k H1 v _ (Ext.refl x.2) rfl (r.kt (x.kt hf))⟩
theorem aL:vn K f nL σ H 0 P0:=fun H1 _ e k=>k H1 [] _ (Ext.refl e.2) rfl rfl .nil
theorem ao{a:TE}{b:TA}{n:Nat}{Pa:T->Prop}{Pb:List T->Prop}(ha:qy K f a σ H Pa)(hb:vn K f b σ H n Pb):vn K f (gq a b) σ H (n+1) (Pc Pa Pb):=fun H1 Q s k =>
 ha H1 _ s fun H2 v tr s2 p r=>hb H2 _ (s.trans s2) fun H3 vs trs s3 l q rs=>k H3 (v::vs) _ (s2.trans s3) (by rw[List.length_cons,l]) ⟨tr,trs,p,q,rfl⟩ (.cons (r.kt (s3.kt s2.2)) rs)
theorem aV{a:TA}{n:Nat}{P:List T->Prop}(h:vn K f a σ H n P)(hl:n<=400:=by decide):qy K f (vS a) σ H (fun t=>∃xs,P xs/\t=.t xs):=fun H1 Q s k =>
 h H1 _ s fun H2 vs trs s2 l p r=>⟨small (by rw[r.length];omega),fun l hl'=>k _ _ _ (s2.new hl' _) ⟨trs,p,rfl⟩ (Rp.new (K:=K) hl' r)⟩
theorem tL{a:TE}{P P':T->Prop}(h:qy K f a σ H P)(i:∀t,P t->P' t):qy K f a σ H P':=fun H1 Q s k=>h H1 Q s fun H2 v tr s2 p r=>k H2 v tr s2 (i tr p) r
theorem iW{H:Hp}{l:Addr}(hf:bQ H f)(h:H l=none):l≠f:=fun z=>by
 obtain⟨p,q,e⟩:=hf
 rw[←z,h]at e
 cases e
theorem yx{a:TA}{n:Nat}{P:List T->Prop}{j m:Nat}(h:vn K f a σ H n P)(e:σ[j]?=some (some (.ref f)))(hm:1<=m)(hm2:m<=400)(hn:n=m):qy K f (qk (vX K) (yT a) (uo dJ [] E0 (gq (iu j) (gq (tC (.int (m:Int))) nL)))) σ H (fun t=>∃(xs:List T) (i:Nat),P xs/\xs[i]?=some t):=fun H1 Q s k =>
 h H1 _ s fun H2 vs trs s2 l p r=>⟨small (by rw[r.length];omega),fun q hl'=>by
  have nl:q≠f:=iW s2.2 hl'
  have s3:=s2.new hl' (.lst vs)
  refine⟨_,e,⟨f,m,rfl,by omega,by omega,s3.2,fun i H4 i0 i1 x4=>?_⟩⟩
  obtain⟨i,rfl⟩:∃j:Nat,i=(j:Int):=⟨i.toNat,by omega⟩
  have e0:=List.getElem?_eq_getElem (l:=trs) (i:=i) (by omega)
  obtain⟨v,ev,rv⟩:=r.FA e0
  exact⟨q,vs,i,v,rfl,rfl,cR.of (x4.1 q _ nl ah),aN ev,k _ _ _ (s3.trans x4) ⟨trs,i,p,e0⟩ ((rv.same (ae hl' _)).kt (x4.kt s3.2))⟩⟩
theorem vp{a:TA}{Pa Pb:T->Prop}{j:Nat}(h:vn K f a σ H 2 (Pc Pa (Pc Pb P0)))(e:σ[j]?=some (some (.ref f))):qy K f (qk (vX K) (yT a) (uo dJ [] E0 (gq (iu j) (gq (tC (.int 2)) nL)))) σ H (fun t=>Pa t\/Pb t) :=
 tL (yx (m:=2) h e (by omega) (by omega) rfl) fun t ⟨xs,i,p,q⟩=>by
  obtain⟨x,ys,pa,⟨x2,zs,pb,rfl,rfl⟩,rfl⟩:=p
  match i,q with
  |0,q=>injection q with q;rw[←q];exact .inl pa
  |1,q=>injection q with q;rw[←q];exact .inr pb
  |j+2,q=>simp at q
theorem BW{a:TA}{Pa Pb Pe:T->Prop}{j:Nat}(h:vn K f a σ H 3 (Pc Pa (Pc Pb (Pc Pe P0))))(e:σ[j]?=some (some (.ref f))):qy K f (qk (vX K) (yT a) (uo dJ [] E0 (gq (iu j) (gq (tC (.int 3)) nL)))) σ H (fun t=>Pa t\/Pb t\/Pe t) :=
 tL (yx (m:=3) h e (by omega) (by omega) rfl) fun t ⟨xs,i,p,q⟩=>by
  obtain⟨x,ys,pa,⟨x2,zs,pb,⟨x3,ws,pe,rfl,rfl⟩,rfl⟩,rfl⟩:=p
  match i,q with
  |0,q=>injection q with q;rw[←q];exact .inl pa
  |1,q=>injection q with q;rw[←q];exact .inr (.inl pb)
  |2,q=>injection q with q;rw[←q];exact .inr (.inr pe)
  |j+3,q=>simp at q
theorem yy{j m:Nat}{x:Str}{P:Str->Prop}(e:σ[j]?=some (some (.ref f)))(hm:1<=m)(hm2:m<=1000000)(hx:x.length<=900)(g:∀i:Int,0<=i->i<m->∃c,fR x.cps.toList i=some c/\P ⟨#[c]⟩):qy K f (qk G1 (tC (.str x)) (uo dJ [] E0 (gq (iu j) (gq (tC (.int (m:Int))) nL)))) σ H (fun t=>∃y,P y/\t=.s y):=fun H1 Q s k =>
 ⟨_,e,⟨f,m,rfl,by omega,by omega,s.2,fun i H4 i0 i1 x4=>by
  obtain⟨c,ec,pc⟩:=g i i0 i1
  exact⟨x,i,c,rfl,rfl,small (by omega),ec,k _ _ _ x4 ⟨_,pc,rfl⟩ .s⟩⟩⟩
theorem HM{j i:Nat}{ln:Addr}{xs:List Str}(hf:bQ H f)(h:H ln=some (.lst (xs.map V.str)))(e:σ[j]?=some (some (.ref ln)))(hi:i<xs.length):qy K f (qk (vX K) (iu j) (tC (.int (i:Int)))) σ H (·=.s (wf xs i)):=fun H1 Q s k =>
 ⟨_,e,ln,xs.map V.str,i,.str (wf xs i),rfl,rfl,cR.of (s.1 ln _ (oF hf h) h),aN (by rw[List.getElem?_map,fk hi];rfl),k _ _ _ (Ext.refl s.2) rfl .s⟩
theorem tM{env:Env}{av:V}{i:Nat}{p:Str×T}(r:Rp K H (dh env) av)(g:env[i]?=some p):∃(a q:Addr) (us:List V) (v:V),av=.ref a/\bT K H a us/\us[i]?=some (.ref q)/\bT K H q [.str p.1,v]/\Rp K H p.2 v:=by
 obtain⟨a,us,rfl,sq,rs⟩:=(show Rp K H (.t (env.map pT)) av from r).bj
 obtain⟨u,eu,ru⟩:=rs.FA (i:=i) (t:=pT p) (by rw[List.getElem?_map,g];rfl)
 obtain⟨q,v1,v2,rfl,sq2,r1,r2⟩:=(show Rp K H (.t [.s p.1,p.2]) u from ru).t2
 obtain rfl:=r1.aD
 exact⟨a,q,us,v2,rfl,sq,eu,sq2,r2⟩
theorem xB{env:Env}{d ln lr:Addr}{xs:List Str}{n:Nat}{tn:Int}{R:List T}{j i:Nat}{p:Str×T}(h:jJ K H f d ln lr xs n tn env R)(e:σ[j]?=some (some (.ref d)))(g:env[i]?=some p):qy K f (qk (oS K) (qk (oS K) (Ax (iu j) (tC (.str "around"))) (tC (.int (i:Int)))) (tC (.int 0))) σ H (·=.s p.1):=fun H1 Q s k=>by
 obtain⟨_,_,_,_,av,ha,ra⟩:=(h.ext s).g
 obtain⟨a,q,us,v,rfl,sq,eu,sq2,r2⟩:=tM ra g
 exact⟨_,e,_,_,rfl,ha,a,us,i,.ref q,rfl,rfl,sq,aN eu,q,_,0,.str p.1,rfl,rfl,sq2,rfl,k _ _ _ (Ext.refl s.2) rfl .s⟩
theorem xC{env:Env}{d ln lr:Addr}{xs:List Str}{n:Nat}{tn:Int}{R:List T}{j i:Nat}{p:Str×T}(h:jJ K H f d ln lr xs n tn env R)(e:σ[j]?=some (some (.ref d)))(g:env[i]?=some p):qy K f (qk (oS K) (qk (oS K) (Ax (iu j) (tC (.str "around"))) (tC (.int (i:Int)))) (tC (.int 1))) σ H (·=p.2):=fun H1 Q s k=>by
 obtain⟨_,_,_,_,av,ha,ra⟩:=(h.ext s).g
 obtain⟨a,q,us,v,rfl,sq,eu,sq2,r2⟩:=tM ra g
 exact⟨_,e,_,_,rfl,ha,a,us,i,.ref q,rfl,rfl,sq,aN eu,q,_,1,v,rfl,rfl,sq2,rfl,k _ _ _ (Ext.refl s.2) rfl r2⟩
theorem jK{te:TE}{i:Nat}{P:T->Prop}{D:L2.Ends}(hf:bQ H f)(h:qy K f te σ H P)(k:∀H2 v tr,Ext f H H2->P tr->Rp K H2 tr v->D.nx (σ.set i (some v)) H2):nK te (dW i) D σ H:=h H _ (Ext.refl hf) k
theorem FF{ta:TA}{i j:Nat}{Pa Pb:T->Prop}{D:L2.Ends}(hf:bQ H f)(h:vn K f ta σ H 2 (Pc Pa (Pc Pb P0)))(k:∀H2 v u t1 t2,Ext f H H2->Pa t1->Pb t2->Rp K H2 t1 v->Rp K H2 t2 u->D.nx ((σ.set i (some v)).set j (some u)) H2):GD i j ta D σ H :=
 h H _ (Ext.refl hf) fun H2 vs trs s2 _ p r=>by
  obtain⟨t1,ys,pa,⟨t2,zs,pb,rfl,rfl⟩,rfl⟩:=p
  obtain⟨v,us,rfl,rv,r⟩:=r.inv
  obtain⟨u,us,rfl,ru,r⟩:=r.inv
  obtain rfl:=r.cZ
  exact⟨v,u,rfl,k H2 v u t1 t2 s2 pa pb rv ru⟩
theorem pW{te:TE}{P:T->Prop}{D:L2.Ends}(hf:bQ H f)(h:qy K f te σ H P)(k:∀H2 v tr,Ext f H H2->P tr->Rp K H2 tr v->D.rt v H2):EE te D σ H:=h H _ (Ext.refl hf) k
end
noncomputable def rH(K:PySem.W.Frag):Sp:=fun vs H Q _=>∃(f d ln lr:Addr) (xs:List Str) (n:Nat) (tn:Int) (env:Env) (R:List T),vs=[.ref d]/\jJ K H f d ln lr xs n tn env R/\n<=20/\0<=tn/\tn<=20/\R.length<=100 /\
 ∀(H':Hp) (v:V) (y:Int),Cg f d lr H H'->jJ K H' f d ln lr xs (n+1) tn env (R++[gP y env])->y.natAbs<2 ^ 20->Rp K H' (.t [enc (gap y),aG R.length]) v->Q v H'
section
variable {P:Program}{w:World}{K:PySem.W.Frag}{mg:Str->Option Value}{base:Heap}{C:Addr}
variable {gT gU gO gC:Addr}{tfd ufd ofd cfd:FuncData}
theorem fP:Nm ["_law_state","_law_n"] (af mq):=by decide +kernel
theorem BX:Lm ["_law_state","_law_n"] (af mq):=by decide +kernel
theorem vq:aM ["_law_state","_law_n"] ["_law_state"] (af mq):=⟨rfl,rfl,rfl,by decide +kernel,rfl,by decide +kernel,by decide +kernel⟩
theorem FG{f:Addr}{fd:FuncData}(F:gJ K "_law_gap" "_law_gap" mq f fd)(z_len:mg "len"=none):bF P w K mg base dX 1 f fd ["_law_state"] (rH K):=by
 refine F.ok vq (fun vs H Q E h=>?_) (fun cdv A outer s H vs Q E hr h=>?_)
 ·obtain⟨_,_,_,_,_,_,_,_,_,rfl,_⟩:=h
  rfl
 obtain⟨f2,d,ln,lr,xs,n,tn,env,R,rfl,hs,hn,ht0,ht2,hR,k⟩:=h
 refine⟨_,(Z4 (@su _ _ _ _ _ _ _ _ _ (lX hr) (va fP 0) aq (Zp eT (Zj (va fP 0)) ak) (by rfl)) (Z4 (Z2 vq.nd BX 1 (Zp iY (Zp fU (Zj (va fP 0)) ak) (Zj (va fP 0)))) (Z4 (Zk (Z8 (Zj (va fP 0)) (Z1 (Z6 (Z1 aq (Z1 (va fP 1) (Z1 (Zj (va fP 0)) aj)))) aj))) (Zd (Zm (Z6 (Z1 (Z6 (Z1 aq (Zb (va fP 1)))) (Z1 (Z6 (Z1 aq (Z1 (Zp iY (Zg bC (Z1 (Zj (va fP 0)) aj)) ak) aj))) aj)))))))),?_⟩
 try dsimp only[bY]
 obtain⟨_,_,g3,_,_⟩:=hs.g
 obtain⟨H1,p1,hs1,c1,k1⟩:=hs.Jk
 obtain⟨_,g2',g3',g4',av,ga',ra'⟩:=hs1.g
 obtain⟨rv,er,rs⟩:=hs1.rr
 have lrv:=rs.length
 have lr2:rv.length<sizeLine:=bu (by omega)
 fail "R"
 intro q1 hq1
 have s2:=ae hq1 (.tup [.str "gap",.int (((n+1:Nat):Int)*23-tn),av])
 have hs2:=hs1.same s2
 have r2:Rp K (upd H1 q1 (.tup [.str "gap",.int (((n+1:Nat):Int)*23-tn),av])) (gP (((n+1:Nat):Int)*23-tn) env) (.ref q1):=Rp.new (K:=K) hq1 (.cons .s (.cons .i (.one ra')))
 have er2:=s2 _ _ er
 obtain⟨hs3,c3,k3⟩:=hs2.addr er2 (rs.same s2) r2
 generalize upd H1 q1 (.tup [.str "gap",.int (((n+1:Nat):Int)*23-tn),av])=H2 at s2 hs2 r2 er2 hs3 c3 k3⊢
 obtain⟨_,g2'',_,_,_⟩:=hs3.g
 have er3:upd H2 lr (.lst (rv++[.ref q1])) lr=some (.lst (rv++[.ref q1])):=ah
 fail "R"
 intro q2 hq2
 have s4:=ae hq2 (.tup [.str "gap",.int (((n+1:Nat):Int)*23-tn)])
 have r4:Rp K (upd (upd H2 lr (.lst (rv++[.ref q1]))) q2 (.tup [.str "gap",.int (((n+1:Nat):Int)*23-tn)])) (enc (gap (((n+1:Nat):Int)*23-tn))) (.ref q2):=by rw[Bu];exact Rp.new (K:=K) hq2 (.cons .s (.one .i))
 have hs4:=hs3.same s4
 have cc:Cg f2 d lr H (upd (upd H2 lr (.lst (rv++[.ref q1]))) q2 (.tup [.str "gap",.int (((n+1:Nat):Int)*23-tn)])):=((c1.trans (Cg.same s2)).trans c3).trans (Cg.same s4)
 have er4:=s4 _ _ er3
 have lz:(((rv++[V.ref q1]).length:Nat):Int) - 1=((R.length:Nat):Int):=by rw[List.length_append];simp;omega
 have hl4:cR K (upd (upd H2 lr (.lst (rv++[.ref q1]))) q2 (.tup [.str "gap",.int (((n+1:Nat):Int)*23-tn)])) lr (rv++[.ref q1])\/bT K (upd (upd H2 lr (.lst (rv++[.ref q1]))) q2 (.tup [.str "gap",.int (((n+1:Nat):Int)*23-tn)])) lr (rv++[.ref q1]):=.inl (cR.of er4)
 obtain⟨_,g5,_,_,_⟩:=hs4.g
 have ey:(V.int (((n+1:Nat):Int)*23-tn))=(fun i j:Int=>V.int (i-j)) (((n+1:Nat):Int)*23) tn:=rfl
 rw[←ey]
 clear ey
 generalize upd (upd H2 lr (.lst (rv++[.ref q1]))) q2 (.tup [.str "gap",.int (((n+1:Nat):Int)*23-tn)])=H4 at s4 r4 hs4 cc er4 hl4 g5⊢
 clear hs hs1 hs2 hs3 c1 c3 k1 k3 g2'' er3 er2 r2 s2 p1 hq1 hq2
 fail "R"
 intro q3 hq3
 have e9:(fun i j:Int=>V.int (i-j)) (((rv++[V.ref q1]).length:Nat):Int) 1=.int (R.length:Int):=by rw[←lz]
 rw[e9]
 have s5:=ae hq3 (.tup [.str "left",.int (R.length:Int)])
 have r5:Rp K (upd H4 q3 (.tup [.str "left",.int (R.length:Int)])) (aG R.length) (.ref q3):=Rp.new (K:=K) hq3 (.cons .s (.one .i))
 fail "R"
 intro q4 hq4
 have e20:(2:Nat) ^ 20=1048576:=by decide
 exact k _ _ (((n+1:Nat):Int)*23-tn) (cc.trans (Cg.same (s5.trans (ae hq4 _)))) (hs4.same (s5.trans (ae hq4 _))) (by omega) (Rp.new (K:=K) hq4 (.cons (r4.same s5) (.one r5)))
end
structure Ask(K:PySem.W.Frag) (H:Hp) (f d ln lr:Addr) (xs:List Str) (n:Nat) (tn:Int) (env:Env) (R:List T) (a0 a1 a2:T):Prop where
 st:jJ K H f d ln lr xs n tn env R
 w:WN (wf xs)
 lx:xs.length=10
 e:E3 (wf xs) env a0 a1 a2
 n5:n<=12
 t0:0<=tn
 t2:tn<=20
 rl:R.length<=60
noncomputable def cG(PV:(Nat->Str)->T->Prop)(m z h:Nat)(K:PySem.W.Frag):Sp:=fun vs H Q _=>∃(f d ln lr:Addr) (xs:List Str) (n:Nat) (tn:Int) (env:Env) (R:List T) (a0 a1 a2:T),vs=[.ref f,.ref d]/\Ask K H f d ln lr xs n tn env R a0 a1 a2/\n+m<=12/\R.length+m<=60 /\
 ∀(H':Hp) (v:V) (tm:Tm) (t:T) (R':List T) (n':Nat),Cg f d lr H H'->Ask K H' f d ln lr xs n' tn env R' a0 a1 a2->n'<=n+m->Gn (PV (wf xs)) m z h env R tm t R'->Rp K H' (.t [enc tm,t]) v->Q v H'
theorem xD{w:Nat->Str}{env:Env}{R:List T}{a0 a1 a2:T}{y:Int}{V:T->Prop}{m:Nat}(hw:yw w)(h:E3 w env a0 a1 a2)(hy:y.natAbs<2 ^ 20)(hV:V (aG R.length))(hm:1<=m):Gn V m 1 1 env R (gap y) (aG R.length) (R++[gP y env]) :=
 ⟨jR (hd:=.gap y) rfl hy,hV,fun D c=>tI (h:=0) hy,by rw[List.length_append];simp;omega,fun hb=>hb.snoc ((tK hy (h.ar hw)).le (by omega) (by omega))⟩
theorem tN{env:Env}{R:List T}{x:Str}{t:T}{V:T->Prop}{m:Nat}(hx:cP x)(hl:qh env x=some t)(hV:V t):Gn V m 1 1 env R (name x) t R :=
 ⟨jR (hd:=.name x) rfl hx,hV,fun D c=>.name hl,by omega,id⟩
section
variable {P:Program}{w:World}{K:PySem.W.Frag}{mg:Str->Option Value}{base:Heap}{C:Addr}
variable {gT gU gG gC:Addr}{tfd ufd gfd cfd:FuncData}
theorem E3.lk{w:Nat->Str}{env:Env}{a0 a1 a2:T}(hw:WN w)(h:E3 w env a0 a1 a2):qh env (w 5)=some a0/\qh env (w 6)=some a1/\qh env (w 7)=some a2:=by
 have h56:=hw.ne 5 6 (by decide) (by decide) (by decide)
 have h57:=hw.ne 5 7 (by decide) (by decide) (by decide)
 have h67:=hw.ne 6 7 (by decide) (by decide) (by decide)
 rw[h.e]
 simp[qh,h56,h57,h67,Ne.symm h56,Ne.symm h57,Ne.symm h67]
theorem fc:Nm ["_law_feed_here","_law_state","_law_form","_law_number_here"] (af iR):=by decide +kernel
theorem vv:Lm ["_law_feed_here","_law_state","_law_form","_law_number_here"] (af iR):=by decide +kernel
theorem pX:aM ["_law_feed_here","_law_state","_law_form","_law_number_here"] ["_law_feed_here","_law_state"] (af iR):=⟨rfl,rfl,rfl,by decide +kernel,rfl,by decide +kernel,by decide +kernel⟩
theorem vz{f:Addr}{cdv:Value}{A:Around}{outer:List PySem.Env}{s:Shared}{H0:Hp}{E:XK}(NU:bG P w K mg base "_law_number" 2 ["_law_feed_here"] jw gU ufd)(hr:cT 2 (A.deeper (PyProof.Rows.envOfC "_law_num" (af iR) s.heap.objs.size f cdv)))
  {D:L2.Ends}{H:Hp}{f2 d ln lr:Addr}{xs:List Str}{n:Nat}{tn fm:Int}{env:Env}{R:List T}{a0 a1 a2:T}{x3:Option V}(hs:Ask K H f2 d ln lr xs n tn env R a0 a1 a2)
  (k:∀(H':Hp) (v:V) (tm:Tm) (t:T),Ext f2 H H'->Gn Vn 1 1 1 env R tm t R->Rp K H' (.t [enc tm,t]) v->D.rt v H') :
  kh (ji dX P w K mg base ["_law_feed_here","_law_state","_law_form","_law_number_here"] "_law_num" (af iR) f cdv A outer s H0 E).tX ((bz iR).drop 2) D [some (.ref f2),some (.ref d),some (.int fm),x3] H:=by
 refine gb ((Z4 (Zh (Zl (va fc 2) ak) (Zd (Zm (Z6 (Z1 (Z6 (Z1 aq (Z1 (Zc ay (Zc ay (Zj (va fc 1)) ak) ak) aj))) (Z1 (Zc ay (Zc ay (Zj (va fc 1)) ak) ak) aj)))))) (Z4 (Z2 pX.nd vv 3 (Z6 (Z1 aq (Z1 (Z0 NU (Zb (va fc 0))) aj)))) (Zd (Zm (Z6 (Z1 (va fc 3) (Zb (va fc 3))))))))) ?_
 try dsimp only[bY]
 have hfF:=hs.st.hf
 have e0:env[0]?=some (wf xs 5,a0):=by rw[hs.e.e];rfl
 fail "R"
 refine bX (fun c=>?_) (fun c=>?_)
 ·clear c
  (try refine Cut.go (by assumption) ?_);refine pW (K:=K) hfF (aV (ao (aV (ao jf (ao (xB (i:=0) hs.st rfl e0) aL))) (ao (xC (i:=0) hs.st rfl e0) aL))) ?_;rintro H9 v9 _ x9 ⟨_,⟨_,_,⟨_,⟨_,_,rfl,⟨_,_,rfl,rfl,rfl⟩,rfl⟩,rfl⟩,⟨_,_,rfl,rfl,rfl⟩,rfl⟩,rfl⟩ r9
  exact k _ _ (name (wf xs 5)) _ x9 (tN (hs.w.ok 5) (hs.e.lk hs.w).1 hs.e.v0) (by rw[eU];exact r9)
 ·clear c
  fail "R"
  intro nb H5 nb0 nb1 x5
  fail "R"
  intro p1 hp1
  have r1:Rp K (upd H5 p1 (.tup [.str "num",.int nb])) (aZ nb) (.ref p1):=Rp.new (K:=K) hp1 (.cons .s (.one .i))
  fail "R"
  intro p2 hp2
  refine k _ _ (num nb) (aZ nb) ((x5.new hp1 _).new hp2 _) ⟨kc ⟨nb0,nb1⟩,.num ⟨nb0,nb1⟩,fun D c=>.num,by omega,id⟩ ?_
  rw[e_num]
  exact Rp.new (K:=K) hp2 (.cons r1 (.one r1))
theorem FH{f:Addr}{fd:FuncData}(F:gJ K "_law_num" "_law_num" iR f fd)(TK:bG P w K mg base "_law_take" 1 ["_law_feed_here","_law_many"] dJ gT tfd)(NU:bG P w K mg base "_law_number" 2 ["_law_feed_here"] jw gU ufd)(GP:bG P w K mg base "_law_gap" 1 ["_law_state"] (rH K) gG gfd) :
  bF P w K mg base dX 3 f fd ["_law_feed_here","_law_state"] (cG (fun _=>Vn) 1 1 1 K):=by
 refine F.ok pX (fun vs H Q E h=>?_) (fun cdv A outer s H vs Q E hr h=>?_)
 ·obtain⟨_,_,_,_,_,_,_,_,_,_,_,_,rfl,_⟩:=h
  rfl
 obtain⟨f2,d,ln,lr,xs,n,tn,env,R,a0,a1,a2,rfl,hs,hn,hR,k⟩:=h
 refine⟨_,(Z4 (Z2 pX.nd vv 2 (Z0 TK (cE (va fc 0) (Zb ak)))) (Z4 (Zh (PW.pt (@jx _ _ _ _ _ _ _ (Zl (va fc 2) ak) (@iN _ _ _ _ (Zn jP (Zj (va fc 1)) ak)))) (Zd (Zm (Z0 GP (Zb (va fc 1)))))) eR)),?_⟩
 try dsimp only[bY]
 have hf:=hs.st.hf
 fail "R"
 intro z H1 z0 z4 x1
 have hs1:Ask K H1 f2 d ln lr xs n tn env R a0 a1 a2:={hs with st:=hs.st.ext x1}
 have st1:=hs1.st
 obtain⟨_,_,g3,_,_⟩:=st1.g
 fail "R"
 refine bX (fun c=>?_) (fun c=>?_)
 ·clear c
  fail "R"
  refine bX (fun c=>?_) (fun c=>?_)
  ·clear c
   have b1:=hs.t0
   have b2:=hs.t2
   fail "R"
   intro H' v y c' st' hy r
   exact k H' v (gap y) _ _ (n+1) ((Cg.ext x1).trans c') {hs with st:=st',n5:=by omega,rl:=by rw[List.length_append];simp;omega} (by omega) (xD hs.w.ok hs.e hy (.left (by omega)) (by omega)) r
  ·clear c
   fail "R"
   (try refine Cut.go (by assumption) ?_);exact vz NU hr hs1 fun H' v tm t x g r=>k H' v tm t R n ((Cg.ext x1).trans (Cg.ext x)) {hs1 with st:=st1.ext x} (by omega) g r
 ·clear c
  fail "R"
  (try refine Cut.go (by assumption) ?_);exact vz NU hr hs1 fun H' v tm t x g r=>k H' v tm t R n ((Cg.ext x1).trans (Cg.ext x)) {hs1 with st:=st1.ext x} (by omega) g r
end
structure En(k:Nat) (env:Env) (R:List T) (ps:List (Tm×T)) (R':List T):Prop where
 l:ps.length=k
 nice:∀p∈ps,bU 1 p.1
 v:∀p∈ps,Vn p.2
 ev:∀D c,zH (Bs D 1) env (ps.map (·.1)) ⟨R,c⟩ (ps.map (·.2)) ⟨R',c⟩
 len:R'.length<=R.length+k
 rb:RB R->RB R'
theorem zH.snoc{R:Rl}{env:Env}{ks:List Tm}{s s1 s2:Sm}{ts:List T}{k:Tm}{t:T}(h:zH R env ks s ts s1)(g:R k env s1 (.ok t s2)):zH R env (ks++[k]) s (ts++[t]) s2:=by
 induction h with
 |nil=>exact .cons g .nil
 |cons a _ ih=>exact .cons a (ih g)
theorem En.nil{env:Env}{R:List T}:En 0 env R [] R:=⟨rfl,(fun _ h=>nomatch h),(fun _ h=>nomatch h),fun _ _=>.nil,Nat.le_refl _,id⟩
theorem En.snoc{k:Nat}{env:Env}{R R1 R2:List T}{ps:List (Tm×T)}{tm:Tm}{t:T}(h:En k env R ps R1)(g:Gn Vn 1 1 1 env R1 tm t R2):En (k+1) env R (ps++[(tm,t)]) R2 :=
 ⟨by rw[List.length_append,h.l];rfl,fun p hp=>by
  rcases List.mem_append.mp hp with z|z
  ·exact h.nice p z
  ·rw[List.mem_singleton.mp z];exact g.nice,fun p hp=>by
  rcases List.mem_append.mp hp with z|z
  ·exact h.v p z
  ·rw[List.mem_singleton.mp z];exact g.v,fun D c=>by
  rw[List.map_append,List.map_append]
  exact(h.ev D c).snoc (g.ev D c),by have:=h.len;have:=g.len;omega,fun b=>g.rb (h.rb b)⟩
theorem BY{ps:List (Tm×T)}(h:∀p∈ps,bU 1 p.1):bU (ps.length+1) (.mk .row (ps.map (·.1))):=by
 refine⟨.mk rfl fun k hk=>?_,?_,.mk trivial fun k hk=>?_⟩
 ·obtain⟨p,hp,rfl⟩:=List.mem_map.mp hk;exact(h p hp).wf
 ·show Tm.sizes (ps.map (·.1))+1<=ps.length+1
  induction ps with
  |nil=>exact Nat.le_refl _
  |cons p r ih =>
   have:=ih (fun q hq=>h q (.tail _ hq))
   have a:=(h p (.head _)).sz
   simp only[List.map_cons,Tm.sizes,List.length_cons]
   omega
 ·obtain⟨p,hp,rfl⟩:=List.mem_map.mp hk;exact(h p hp).lo
theorem En.row{k:Nat}{env:Env}{R R':List T}{ps:List (Tm×T)}(h:En k env R ps R')(hk:k<=3):Gn Vr 3 4 2 env R (.mk .row (ps.map (·.1))) (bD (ps.map (·.2))) R':=by
 have N:=BY h.nice
 have hl:=h.l
 refine⟨N.le (by omega),.row (by rw[List.length_map];omega) (fun t ht=>by obtain⟨p,hp,rfl⟩:=List.mem_map.mp ht;exact h.v p hp),fun D c=>?_,Nat.le_trans h.len (by omega),h.rb⟩
 exact .fin (Hz N (by omega) (by rw[List.length_map];omega)) (by rw[BA];exact h.ev D c) .row
noncomputable def JK(p:Tm×T):T:=.t [enc p.1,p.2]
section
variable {P:Program}{w:World}{K:PySem.W.Frag}{mg:Str->Option Value}{base:Heap}{C:Addr}
variable {gT gU gG gN:Addr}{tfd ufd gfd nfd:FuncData}
theorem ff:Nm ["_law_feed_here","_law_state","_law_form","_law_some"] (af fK):=by decide +kernel
theorem vA:Lm ["_law_feed_here","_law_state","_law_form","_law_some"] (af fK):=by decide +kernel
theorem pY:aM ["_law_feed_here","_law_state","_law_form","_law_some"] ["_law_feed_here","_law_state"] (af fK):=⟨rfl,rfl,rfl,by decide +kernel,rfl,by decide +kernel,by decide +kernel⟩
theorem vB{f:Addr}{cdv:Value}{A:Around}{outer:List PySem.Env}{s:Shared}{H0:Hp}{E:XK}(TK:bG P w K mg base "_law_take" 1 ["_law_feed_here","_law_many"] dJ gT tfd)(LN:bG P w K mg base "_law_num" 3 ["_law_feed_here","_law_state"] (cG (fun _=>Vn) 1 1 1 K) gN nfd)(z_range:mg "range"=none)(z_tuple:mg "tuple"=none)(hr:cT 3 (A.deeper (PyProof.Rows.envOfC "_law_row" (af fK) s.heap.objs.size f cdv)))
  {D:L2.Ends}{H:Hp}{f2 d ln lr:Addr}{xs:List Str}{n:Nat}{tn fm:Int}{env:Env}{R:List T}{a0 a1 a2:T}{x3:Option V}(hs:Ask K H f2 d ln lr xs n tn env R a0 a1 a2) (hn:n+3<=12) (hR:R.length+3<=60)
  (k:∀(H':Hp) (v:V) (tm:Tm) (t:T) (R':List T) (n':Nat),Cg f2 d lr H H'->Ask K H' f2 d ln lr xs n' tn env R' a0 a1 a2->n'<=n+3->Gn Vr 3 4 2 env R tm t R'->Rp K H' (.t [enc tm,t]) v->D.rt v H') :
  kh (ji dX P w K mg base ["_law_feed_here","_law_state","_law_form","_law_some"] "_law_row" (af fK) f cdv A outer s H0 E).tX ((bz fK).drop 2) D [some (.ref f2),some (.ref d),some (.int fm),x3] H:=by
 refine gb ((Z4 (Zh (Zl (va ff 2) ak) (Zd (Zm (Z6 (Z1 (Z6 (Z1 aq (Z1 (Zc ay (Zc ay (Zj (va ff 1)) ak) ak) aj))) (Z1 (Zc ay (Zc ay (Zj (va ff 1)) ak) ak) aj)))))) (Z4 (@uI _ _ _ _ _ _ _ _ _ _ _ _ _ _ _ (af fK) ["_law_feed_here","_law_state","_law_form","_law_some"] ["_law_k"] [0,1] rfl rfl rfl (by decide +kernel) (@jh _ _ _ _ _ _ (by show _=_;kernel_rfl) z_range (Z1 (Zc aA (@b8 _ _ _ _ (Z1 ak (Z1 ak (cE ak (Zb ak))))) (Z0 TK (cE (va ff 0) (Zb ak)))) aj) (by rfl)) (fun _ _ _ _=>(Za (i:=0) (show(["_law_k","_law_feed_here","_law_state"]:List Str).Nodup by decide +kernel))) (fun _ _ _ _=>cN) (fun _ _ _ _=>(Z0 LN (Z1 (va (show Nm ["_law_k","_law_feed_here","_law_state"] _ by show _=_;kernel_rfl) 1) (Zb (va (show Nm ["_law_k","_law_feed_here","_law_state"] _ by show _=_;kernel_rfl) 2))))) (ga pY.nd vA 3) (by kernel_rfl) (by intro _;rfl)) (Zd (Zm (Z6 (Z1 (Z6 (Z1 aq (Z1 (Z9 bH z_tuple PyProof.Rows.boot_tuple (Z1 (@dR _ _ _ _ _ _ _ _ _ _ _ (af fK) ["_law_feed_here","_law_state","_law_form","_law_some"] ["_law_term","_law_thing"] [] rfl rfl rfl (by decide +kernel) (lN (va ff 3)) (fun _ _ _ _=>(Zf (2) (Ze (Za (i:=0) (show(["_law_term","_law_thing"]:List Str).Nodup by decide +kernel)) (aQ (Za (i:=1) (show(["_law_term","_law_thing"]:List Str).Nodup by decide +kernel)) bh)))) (fun _ _ _ _=>cN) (fun _ _ _ _=>(va (show Nm ["_law_term","_law_thing"] _ by show _=_;kernel_rfl) 0)) (by intro _;rfl)) aj)) aj))) (Z1 (Z6 (Z1 aq (Z1 (Z9 bH z_tuple PyProof.Rows.boot_tuple (Z1 (@dR _ _ _ _ _ _ _ _ _ _ _ (af fK) ["_law_feed_here","_law_state","_law_form","_law_some"] ["_law_term","_law_thing"] [] rfl rfl rfl (by decide +kernel) (lN (va ff 3)) (fun _ _ _ _=>(Zf (2) (Ze (Za (i:=0) (show(["_law_term","_law_thing"]:List Str).Nodup by decide +kernel)) (aQ (Za (i:=1) (show(["_law_term","_law_thing"]:List Str).Nodup by decide +kernel)) bh)))) (fun _ _ _ _=>cN) (fun _ _ _ _=>(va (show Nm ["_law_term","_law_thing"] _ by show _=_;kernel_rfl) 1)) (by intro _;rfl)) aj)) aj))) aj)))))))) ?_
 try dsimp only[bY]
 have hfF:=hs.st.hf
 have e1:env[1]?=some (wf xs 6,a1):=by rw[hs.e.e];rfl
 fail "R"
 refine bX (fun c=>?_) (fun c=>?_)
 ·clear c
  (try refine Cut.go (by assumption) ?_);refine pW (K:=K) hfF (aV (ao (aV (ao jf (ao (xB (i:=1) hs.st rfl e1) aL))) (ao (xC (i:=1) hs.st rfl e1) aL))) ?_;rintro H9 v9 _ x9 ⟨_,⟨_,_,⟨_,⟨_,_,rfl,⟨_,_,rfl,rfl,rfl⟩,rfl⟩,rfl⟩,⟨_,_,rfl,rfl,rfl⟩,rfl⟩,rfl⟩ r9
  exact k _ _ (name (wf xs 6)) _ R n (Cg.ext x9) {hs with st:=hs.st.ext x9} (by omega) ((tN (m:=3) (hs.w.ok 6) (hs.e.lk hs.w).2.1 hs.e.v1).le (by omega) (by omega) (by omega)) (by rw[eU];exact r9)
 ·clear c
  fail "R"
  intro p1 hp1
  have s1:=ae hp1 (.lst [.int 0,.int 1,.int 2,.int 3])
  have hs1:Ask K (upd H p1 (.lst [.int 0,.int 1,.int 2,.int 3])) f2 d ln lr xs n tn env R a0 a1 a2:={hs with st:=hs.st.same s1}
  have e2:upd H p1 (.lst [.int 0,.int 1,.int 2,.int 3]) p1=some (.lst [.int 0,.int 1,.int 2,.int 3]):=ah
  have np:p1≠f2:=fun z=>by obtain⟨p,q,e⟩:=hfF;rw[←z,hp1]at e;cases e
  generalize upd H p1 (.lst [.int 0,.int 1,.int 2,.int 3])=H1 at s1 hs1 e2⊢
  have hf1:=hs1.st.hf
  fail "R"
  intro y H2 y0 y4 x2
  have e3:=x2.1 p1 _ np e2
  have ix:fR [V.int 0,V.int 1,V.int 2,V.int 3] y=some (.int y):=by
   obtain rfl|rfl|rfl|rfl:y=0\/y=1\/y=2\/y=3:=by omega
   ·rfl
   ·rfl
   ·rfl
   ·rfl
  have hs2:Ask K H2 f2 d ln lr xs n tn env R a0 a1 a2:={hs1 with st:=hs1.st.ext x2}
  have cc:Cg f2 d lr H H2:=(Cg.same s1).trans (Cg.ext x2)
  clear hs1 s1 e2 hf1 hs hp1 x2
  fail "R"
  obtain⟨m,rfl⟩:∃m:Nat,y=(m:Int):=⟨y.toNat,by omega⟩
  have hm3:m<=3:=by omega
  rw[Int.toNat_natCast]
  refine jC (n:=m) (fun i σ us Hc=>(∃x,σ=[x,some (.ref f2),some (.ref d)])/\∃(n':Nat) (R':List T) (ps:List (Tm×T)),Cg f2 d lr H Hc/\Ask K Hc f2 d ln lr xs n' tn env R' a0 a1 a2/\n'<=n+i/\En i env R ps R'/\bB K Hc (ps.map JK) us) ⟨⟨_,rfl⟩,n,R,[],cc,hs2,by omega,.nil,.nil⟩ ?_ (small (by omega)) ?_ ?_
  ·rintro i σ us Hc _ ⟨_,n',R',ps,_,_,_,hp,r⟩
   rw[r.length,List.length_map,hp.l];exact Nat.le_refl _
  ·rintro i σ us Hc hi ⟨⟨x,rfl⟩,n',R',ps,ci,hsi,hni,hp,r⟩
   have hl:=hp.len
   have b1:n'+1<=12:=by omega
   have b2:R'.length+1<=60:=by omega
   fail "R"
   intro H5 v tm t R5 n5 c5 hs5 hn5 g5 r5
   exact⟨⟨_,rfl⟩,n5,R5,ps++[(tm,t)],ci.trans c5,hs5,by omega,hp.snoc g5,by rw[List.map_append];exact(r.kt (hsi.st.kt c5)).snoc r5⟩
  rintro σ us Hc ⟨_,n',R',ps,ci,hsi,hni,hp,r⟩ q3 hq3
  have lps:ps.length=us.length:=by have:=r.length;rw[List.length_map]at this;exact this.symm
  have lus:us.length<=3:=by have:=hp.l;omega
  have s3:=ae hq3 (.lst us)
  have e4:upd Hc q3 (.lst us) q3=some (.lst us):=ah
  have rsA:=r.same s3
  have hs3:Ask K (upd Hc q3 (.lst us)) f2 d ln lr xs n' tn env R' a0 a1 a2:={hsi with st:=hsi.st.same s3}
  have c3:=ci.trans (Cg.same s3)
  generalize upd Hc q3 (.lst us)=H3 at s3 e4 rsA hs3 c3⊢
  clear r hsi ci cc hs2
  fail "R"
  refine ku (xs:=us) (fun i σ ws Hc=>(∃x y,σ=[x,y])/\br H3 Hc/\bB K Hc ((ps.take i).map (fun p=>enc p.1)) ws) ⟨⟨_,_,rfl⟩,br.refl _,.nil⟩ ?_ (small (by omega)) ?_ ?_ ?_
  ·rintro i σ ws Hc hi ⟨_,_,r⟩
   rw[r.length,List.length_map,List.length_take];omega
  ·rintro i σ ws Hc hi ⟨_,sm,_⟩
   exact cR.of (sm _ _ e4)
  ·rintro i x σ ws Hc hx ⟨⟨x0,y0,rfl⟩,sm,r⟩
   obtain⟨t9,et,rt⟩:=bB.get' rsA hx
   rw[List.getElem?_map]at et
   obtain⟨pp,hp,rfl⟩:=Option.map_eq_some_iff.mp et
   obtain⟨a9,v1,v2,rfl,sq9,r1,r2⟩:=(show Rp K _ (.t [enc pp.1,pp.2]) x from rt).t2
   have sq9':=sq9.kt (Kt.same sm)
   have hil:i<ps.length:=(List.getElem?_eq_some_iff.mp hp).1
   have ep:ps[i]=pp:=(List.getElem?_eq_some_iff.mp hp).2
   fail "R"
   rw[List.take_succ_eq_append_getElem hil,List.map_append,ep]
   exact r.snoc (r1.same sm)
  rintro σ wsA Hc ⟨_,smA,rwA⟩ lA hlA
  rw[←lps,List.take_length]at rwA
  have sA:=smA.trans (ae hlA (.lst wsA))
  have eA:upd Hc lA (.lst wsA) lA=some (.lst wsA):=ah
  have rwA':=rwA.same (ae hlA (.lst wsA))
  fail "R"
  refine .inl ⟨cR.of eA,fun l2 hl2=>?_⟩
  have sB:=sA.trans (ae hl2 (.tup wsA))
  have rB:Rp K (upd (upd Hc lA (.lst wsA)) l2 (.tup wsA)) (.t (ps.map (fun p=>enc p.1))) (.ref l2):=Rp.new (K:=K) hl2 rwA'
  fail "R"
  intro l3 hl3
  have sC:=sB.trans (ae hl3 (.tup [.str "row",.ref l2]))
  have rC:Rp K (upd (upd (upd Hc lA (.lst wsA)) l2 (.tup wsA)) l3 (.tup [.str "row",.ref l2])) (enc (.mk .row (ps.map (·.1)))) (.ref l3):=by
   rw[Ej,List.map_map]
   exact Rp.new (K:=K) hl3 (.cons .s (.one rB))
  have e5:=sC _ _ e4
  have rsB:=rsA.same sC
  generalize upd (upd (upd Hc lA (.lst wsA)) l2 (.tup wsA)) l3 (.tup [.str "row",.ref l2])=H5 at sC rC e5 rsB⊢
  clear sA eA rwA' sB rB hl2 hl3 smA rwA hlA
  fail "R"
  refine ku (xs:=us) (fun i σ ws Hc=>(∃x y,σ=[x,y])/\br H5 Hc/\bB K Hc ((ps.take i).map (fun p=>p.2)) ws) ⟨⟨_,_,rfl⟩,br.refl _,.nil⟩ ?_ (small (by omega)) ?_ ?_ ?_
  ·rintro i σ ws Hc hi ⟨_,_,r⟩
   rw[r.length,List.length_map,List.length_take];omega
  ·rintro i σ ws Hc hi ⟨_,sm,_⟩
   exact cR.of (sm _ _ e5)
  ·rintro i x σ ws Hc hx ⟨⟨x0,y0,rfl⟩,sm,r⟩
   obtain⟨t9,et,rt⟩:=bB.get' rsB hx
   rw[List.getElem?_map]at et
   obtain⟨pp,hp,rfl⟩:=Option.map_eq_some_iff.mp et
   obtain⟨a9,v1,v2,rfl,sq9,r1,r2⟩:=(show Rp K _ (.t [enc pp.1,pp.2]) x from rt).t2
   have sq9':=sq9.kt (Kt.same sm)
   have hil:i<ps.length:=(List.getElem?_eq_some_iff.mp hp).1
   have ep:ps[i]=pp:=(List.getElem?_eq_some_iff.mp hp).2
   fail "R"
   rw[List.take_succ_eq_append_getElem hil,List.map_append,ep]
   exact r.snoc (r2.same sm)
  rintro σ wsB Hc ⟨_,smB,rwB⟩ lB hlB
  rw[←lps,List.take_length]at rwB
  have sD:=smB.trans (ae hlB (.lst wsB))
  have eB:upd Hc lB (.lst wsB) lB=some (.lst wsB):=ah
  have rwB':=rwB.same (ae hlB (.lst wsB))
  fail "R"
  refine .inl ⟨cR.of eB,fun l4 hl4=>?_⟩
  have sE:=sD.trans (ae hl4 (.tup wsB))
  have rE:Rp K (upd (upd Hc lB (.lst wsB)) l4 (.tup wsB)) (.t (ps.map (fun p=>p.2))) (.ref l4):=Rp.new (K:=K) hl4 rwB'
  fail "R"
  intro l5 hl5
  have sF:=sE.trans (ae hl5 (.tup [.str "row",.ref l4]))
  have rF:Rp K (upd (upd (upd Hc lB (.lst wsB)) l4 (.tup wsB)) l5 (.tup [.str "row",.ref l4])) (bD (ps.map (·.2))) (.ref l5):=Rp.new (K:=K) hl5 (.cons .s (.one rE))
  fail "R"
  intro l6 hl6
  have sG:=sC.trans (sF.trans (ae hl6 (.tup [.ref l3,.ref l5])))
  exact k _ _ _ _ R' n' (c3.trans (Cg.same sG)) {hs3 with st:=hs3.st.same sG} (by omega) (hp.row hm3) (Rp.new (K:=K) hl6 (.cons (rC.same sF) (.one rF)))
theorem FJ{f:Addr}{fd:FuncData}(F:gJ K "_law_row" "_law_row" fK f fd)(TK:bG P w K mg base "_law_take" 1 ["_law_feed_here","_law_many"] dJ gT tfd)(GP:bG P w K mg base "_law_gap" 1 ["_law_state"] (rH K) gG gfd)(LN:bG P w K mg base "_law_num" 3 ["_law_feed_here","_law_state"] (cG (fun _=>Vn) 1 1 1 K) gN nfd)(z_range:mg "range"=none)(z_tuple:mg "tuple"=none) :
  bF P w K mg base dX 4 f fd ["_law_feed_here","_law_state"] (cG (fun _=>Vr) 3 4 2 K):=by
 refine F.ok pY (fun vs H Q E h=>?_) (fun cdv A outer s H vs Q E hr h=>?_)
 ·obtain⟨_,_,_,_,_,_,_,_,_,_,_,_,rfl,_⟩:=h
  rfl
 obtain⟨f2,d,ln,lr,xs,n,tn,env,R,a0,a1,a2,rfl,hs,hn,hR,k⟩:=h
 refine⟨_,(Z4 (Z2 pY.nd vA 2 (Z0 TK (cE (va ff 0) (Zb ak)))) (Z4 (Zh (PW.pt (@jx _ _ _ _ _ _ _ (Zl (va ff 2) ak) (@iN _ _ _ _ (Zn jP (Zj (va ff 1)) ak)))) (Zd (Zm (Z0 GP (Zb (va ff 1)))))) eR)),?_⟩
 try dsimp only[bY]
 have hf:=hs.st.hf
 fail "R"
 intro z H1 z0 z4 x1
 have hs1:Ask K H1 f2 d ln lr xs n tn env R a0 a1 a2:={hs with st:=hs.st.ext x1}
 have st1:=hs1.st
 obtain⟨gn,_,g3,_,_⟩:=st1.g
 fail "R"
 refine bX (fun c=>?_) (fun c=>?_)
 ·clear c
  fail "R"
  refine bX (fun c=>?_) (fun c=>?_)
  ·clear c
   have b1:=hs.t0
   have b2:=hs.t2
   fail "R"
   intro H' v y c' st' hy r
   exact k H' v (gap y) _ _ (n+1) ((Cg.ext x1).trans c') {hs with st:=st',n5:=by omega,rl:=by rw[List.length_append];simp;omega} (by omega) ((xD hs.w.ok hs.e hy (.left (by omega)) (m:=3) (by omega)).le (by omega) (by omega) (by omega)) r
  ·clear c
   fail "R"
   (try refine Cut.go (by assumption) ?_);exact vB TK LN z_range z_tuple hr hs1 hn hR fun H' v tm t R' n' c=>k H' v tm t R' n' ((Cg.ext x1).trans c)
 ·clear c
  fail "R"
  (try refine Cut.go (by assumption) ?_);exact vB TK LN z_range z_tuple hr hs1 hn hR fun H' v tm t R' n' c=>k H' v tm t R' n' ((Cg.ext x1).trans c)
end
section
variable {K:PySem.W.Frag}{f:Addr}{σ:L2.St}{H:Hp}
theorem Eo{j:Nat}{v:V}{x0 x1:T}(hf:bQ H f)(r:Rp K H (.t [x0,x1]) v)(e:σ[j]?=some (some v)):qy K f (qk (oS K) (iu j) (tC (.int 0))) σ H (·=x0):=fun H1 Q s k=>by
 obtain⟨a,u0,u1,rfl,sq,r0,r1⟩:=(r.kt (s.kt hf)).t2
 exact⟨_,e,a,_,0,u0,rfl,rfl,sq,rfl,k _ _ _ (Ext.refl s.2) rfl r0⟩
theorem Ep{j:Nat}{v:V}{x0 x1:T}(hf:bQ H f)(r:Rp K H (.t [x0,x1]) v)(e:σ[j]?=some (some v)):qy K f (qk (oS K) (iu j) (tC (.int 1))) σ H (·=x1):=fun H1 Q s k=>by
 obtain⟨a,u0,u1,rfl,sq,r0,r1⟩:=(r.kt (s.kt hf)).t2
 exact⟨_,e,a,_,1,u1,rfl,rfl,sq,rfl,k _ _ _ (Ext.refl s.2) rfl r1⟩
theorem BZ{j i:Nat}{l:Addr}{us:List V}{v:V}{x0 x1:T}(hf:bQ H f)(nl:l≠f)(hl:H l=some (.lst us))(g:us[i]?=some v)(r:Rp K H (.t [x0,x1]) v)(e:σ[j]?=some (some (.ref l))):qy K f (qk (oS K) (qk (vX K) (iu j) (tC (.int (i:Int)))) (tC (.int 0))) σ H (·=x0):=fun H1 Q s k=>by
 obtain⟨a,u0,u1,rfl,sq,r0,r1⟩:=(r.kt (s.kt hf)).t2
 exact⟨_,e,l,us,i,_,rfl,rfl,cR.of (s.1 l _ nl hl),aN g,a,_,0,u0,rfl,rfl,sq,rfl,k _ _ _ (Ext.refl s.2) rfl r0⟩
theorem B0{j i:Nat}{l:Addr}{us:List V}{v:V}{x0 x1:T}(hf:bQ H f)(nl:l≠f)(hl:H l=some (.lst us))(g:us[i]?=some v)(r:Rp K H (.t [x0,x1]) v)(e:σ[j]?=some (some (.ref l))):qy K f (qk (oS K) (qk (vX K) (iu j) (tC (.int (i:Int)))) (tC (.int 1))) σ H (·=x1):=fun H1 Q s k=>by
 obtain⟨a,u0,u1,rfl,sq,r0,r1⟩:=(r.kt (s.kt hf)).t2
 exact⟨_,e,l,us,i,_,rfl,rfl,cR.of (s.1 l _ nl hl),aN g,a,_,1,u1,rfl,rfl,sq,rfl,k _ _ _ (Ext.refl s.2) rfl r1⟩
end
theorem DF{w:Nat->Str}{env:Env}{R:List T}(hw:yw w):Gn (Vt w) 4 6 3 env R (.mk (.tag (w 2)) []) (jF (w 2) []) R:=by
 have N:bU 1 (.mk (.tag (w 2)) []):=jR (hd:=.tag (w 2)) rfl (hw 2)
 exact⟨N.le (by decide),.t2,fun D c=>Js (h:=2) (Ek N (by decide) (by simp)) xo .tag,by omega,id⟩
theorem DG{w:Nat->Str}{env:Env}{R R1 R2:List T}{k1 k2:Tm}{t1 t2:T}(hw:yw w)(g1:Gn Vn 1 1 1 env R k1 t1 R1)(g2:Gn Vr 3 4 2 env R1 k2 t2 R2):Gn (Vt w) 4 6 3 env R (.mk (.tag (w 1)) [k1,k2]) (jF (w 1) [t1,t2]) R2:=by
 have N:bU (1+4+1) (.mk (.tag (w 1)) [k1,k2]):=nH (hd:=.tag (w 1)) rfl (hw 1) g1.nice g2.nice
 exact⟨N,.t1 g1.v g2.v,fun D c=>Cy (h:=2) (Ek N (by decide) (by simp)) xo ((g1.ev D c).le (by decide)) (g2.ev D c) .tag,by have:=g1.len;have:=g2.len;omega,fun b=>g2.rb (g1.rb b)⟩
section
variable {P:Program}{w:World}{K:PySem.W.Frag}{mg:Str->Option Value}{base:Heap}{C:Addr}
variable {gT gU gG gN gR:Addr}{tfd ufd gfd nfd rfd:FuncData}
theorem bI:Nm ["_law_feed_here","_law_state","_law_form","_law_w","_law_some"] (af iS):=by decide +kernel
theorem pZ:Lm ["_law_feed_here","_law_state","_law_form","_law_w","_law_some"] (af iS):=by decide +kernel
theorem mO:aM ["_law_feed_here","_law_state","_law_form","_law_w","_law_some"] ["_law_feed_here","_law_state"] (af iS):=⟨rfl,rfl,rfl,by decide +kernel,rfl,by decide +kernel,by decide +kernel⟩
theorem vC{f:Addr}{cdv:Value}{A:Around}{outer:List PySem.Env}{s:Shared}{H0:Hp}{E:XK}(LN:bG P w K mg base "_law_num" 3 ["_law_feed_here","_law_state"] (cG (fun _=>Vn) 1 1 1 K) gN nfd)(LR:bG P w K mg base "_law_row" 4 ["_law_feed_here","_law_state"] (cG (fun _=>Vr) 3 4 2 K) gR rfd)(hr:cT 4 (A.deeper (PyProof.Rows.envOfC "_law_tag" (af iS) s.heap.objs.size f cdv)))
  {D:L2.Ends}{H:Hp}{f2 d ln lr:Addr}{xs:List Str}{n:Nat}{tn fm:Int}{env:Env}{R:List T}{a0 a1 a2:T}{x4:Option V}(hs:Ask K H f2 d ln lr xs n tn env R a0 a1 a2) (hn:n+4<=12) (hR:R.length+4<=60)
  (k:∀(H':Hp) (v:V) (tm:Tm) (t:T) (R':List T) (n':Nat),Cg f2 d lr H H'->Ask K H' f2 d ln lr xs n' tn env R' a0 a1 a2->n'<=n+4->Gn (Vt (wf xs)) 4 6 3 env R tm t R'->Rp K H' (.t [enc tm,t]) v->D.rt v H') :
  kh (ji dX P w K mg base ["_law_feed_here","_law_state","_law_form","_law_w","_law_some"] "_law_tag" (af iS) f cdv A outer s H0 E).tX ((bz iS).drop 3) D [some (.ref f2),some (.ref d),some (.int fm),some (.ref ln),x4] H:=by
 refine gb ((Z4 (Zh (Zl (va bI 2) ak) (Zd (Zm (Z6 (Z1 (Z6 (Z1 aq (Z1 (Zc ay (Zc ay (Zj (va bI 1)) ak) ak) aj))) (Z1 (Zc ay (Zc ay (Zj (va bI 1)) ak) ak) aj)))))) (Z4 (Zh (Zl (va bI 2) ak) (Zd (Zm (Z6 (Z1 (Z6 (Z1 aq (Z1 (Z3 aA (va bI 3)) (Zb (bV aj))))) (Z1 (Z6 (Z1 aq (Z1 (Z3 aA (va bI 3)) (Zb (bV aj))))) aj)))))) (Z4 (Z2 mO.nd pZ 4 (@b8 _ _ _ _ (Z1 (Z0 LN (Z1 (va bI 0) (Zb (va bI 1)))) (Z1 (Z0 LR (Z1 (va bI 0) (Zb (va bI 1)))) aj)))) (Zd (Zm (Z6 (Z1 (Z6 (Z1 aq (Z1 (Z3 aA (va bI 3)) (Z1 (Z6 (Z1 (Zc ay (Z3 aA (va bI 4)) ak) (Z1 (Zc ay (Z3 aA (va bI 4)) ak) aj))) aj)))) (Z1 (Z6 (Z1 aq (Z1 (Z3 aA (va bI 3)) (Z1 (Z6 (Z1 (Zc ay (Z3 aA (va bI 4)) ak) (Z1 (Zc ay (Z3 aA (va bI 4)) ak) aj))) aj)))) aj))))))))) ?_
 have hfF:=hs.st.hf
 have hnF:=hs.st.hn
 have lx:=hs.lx
 have e2:env[2]?=some (wf xs 7,a2):=by rw[hs.e.e];rfl
 fail "R"
 refine bX (fun c=>?_) (fun c=>?_)
 ·clear c
  (try refine Cut.go (by assumption) ?_);refine pW hfF (aV (ao (aV (ao jf (ao (xB (i:=2) hs.st rfl e2) aL))) (ao (xC (i:=2) hs.st rfl e2) aL))) ?_;rintro H9 v9 _ x9 ⟨_,⟨_,_,⟨_,⟨_,_,rfl,⟨_,_,rfl,rfl,rfl⟩,rfl⟩,rfl⟩,⟨_,_,rfl,rfl,rfl⟩,rfl⟩,rfl⟩ r9
  exact k _ _ (name (wf xs 7)) _ R n (Cg.ext x9) {hs with st:=hs.st.ext x9} (by omega) ((tN (m:=4) (hs.w.ok 7) (hs.e.lk hs.w).2.2 hs.e.v2).le (by omega) (by omega) (by omega)) (by rw[eU];exact r9)
 clear c
 fail "R"
 refine bX (fun c=>?_) (fun c=>?_)
 ·clear c
  (try refine Cut.go (by assumption) ?_);refine pW hfF (aV (ao (aV (ao jf (ao (Zo (i:=2)) (ao (aV aL) aL)))) (ao (aV (ao jf (ao (Zo (i:=2)) (ao (aV aL) aL)))) aL))) ?_;rintro H9 v9 _ x9 ⟨_,⟨_,_,⟨_,⟨_,_,rfl,⟨_,_,rfl,⟨_,_,⟨_,rfl,rfl⟩,rfl,rfl⟩,rfl⟩,rfl⟩,rfl⟩,⟨_,_,⟨_,⟨_,_,rfl,⟨_,_,rfl,⟨_,_,⟨_,rfl,rfl⟩,rfl,rfl⟩,rfl⟩,rfl⟩,rfl⟩,rfl,rfl⟩,rfl⟩,rfl⟩ r9
  exact k _ _ (.mk (.tag (wf xs 2)) []) _ R n (Cg.ext x9) {hs with st:=hs.st.ext x9} (by omega) (DF hs.w.ok) (by rw[Br];exact r9)
 clear c
 have b1:n+1<=12:=by omega
 have b2:R.length+1<=60:=by omega
 fail "R"
 intro H1 v1 k1 t1 R1 n1 c1 hs1 hn1 g1 r1
 have l1:=g1.len
 have b3:n1+3<=12:=by omega
 have b4:R1.length+3<=60:=by omega
 fail "R"
 intro H2 v2 k2 t2 R2 n2 c2 hs2 hn2 g2 r2
 have r1':=r1.kt (hs1.st.kt c2)
 fail "R"
 intro q hq
 have s3:=ae hq (.lst [v1,v2])
 have r1a:=r1'.same s3
 have r2a:=r2.same s3
 have e3:upd H2 q (.lst [v1,v2]) q=some (.lst [v1,v2]):=ah
 have hs3:Ask K (upd H2 q (.lst [v1,v2])) f2 d ln lr xs n2 tn env R2 a0 a1 a2:={hs2 with st:=hs2.st.same s3}
 have nq:q≠f2:=fun z=>by obtain⟨p,q',e⟩:=hs2.st.hf;rw[←z,hq]at e;cases e
 have cc:=(c1.trans c2).trans (Cg.same s3)
 generalize upd H2 q (.lst [v1,v2])=H3 at s3 r1a r2a e3 hs3 cc⊢
 replace hfF:=hs3.st.hf
 replace hnF:=hs3.st.hn
 (try refine Cut.go (by assumption) ?_);refine pW hfF (aV (ao (aV (ao jf (ao (Zo (i:=1)) (ao (aV (ao (BZ (i:=0) hfF nq e3 rfl r1a rfl) (ao (BZ (i:=1) hfF nq e3 rfl r2a rfl) aL))) aL)))) (ao (aV (ao jf (ao (Zo (i:=1)) (ao (aV (ao (B0 (i:=0) hfF nq e3 rfl r1a rfl) (ao (B0 (i:=1) hfF nq e3 rfl r2a rfl) aL))) aL)))) aL))) ?_;rintro H9 v9 _ x9 ⟨_,⟨_,_,⟨_,⟨_,_,rfl,⟨_,_,rfl,⟨_,_,⟨_,⟨_,_,rfl,⟨_,_,rfl,rfl,rfl⟩,rfl⟩,rfl⟩,rfl,rfl⟩,rfl⟩,rfl⟩,rfl⟩,⟨_,_,⟨_,⟨_,_,rfl,⟨_,_,rfl,⟨_,_,⟨_,⟨_,_,rfl,⟨_,_,rfl,rfl,rfl⟩,rfl⟩,rfl⟩,rfl,rfl⟩,rfl⟩,rfl⟩,rfl⟩,rfl,rfl⟩,rfl⟩,rfl⟩ r9
 exact k _ _ (.mk (.tag (wf xs 1)) [k1,k2]) _ R2 n2 (cc.trans (Cg.ext x9)) {hs3 with st:=hs3.st.ext x9} (by omega) (DG hs.w.ok g1 g2) (by rw[Br];exact r9)
theorem FL{f:Addr}{fd:FuncData}(F:gJ K "_law_tag" "_law_tag" iS f fd)(TK:bG P w K mg base "_law_take" 1 ["_law_feed_here","_law_many"] dJ gT tfd)(GP:bG P w K mg base "_law_gap" 1 ["_law_state"] (rH K) gG gfd)(LN:bG P w K mg base "_law_num" 3 ["_law_feed_here","_law_state"] (cG (fun _=>Vn) 1 1 1 K) gN nfd)(LR:bG P w K mg base "_law_row" 4 ["_law_feed_here","_law_state"] (cG (fun _=>Vr) 3 4 2 K) gR rfd) :
  bF P w K mg base dX 5 f fd ["_law_feed_here","_law_state"] (cG Vt 4 6 3 K):=by
 refine F.ok mO (fun vs H Q E h=>?_) (fun cdv A outer s H vs Q E hr h=>?_)
 ·obtain⟨_,_,_,_,_,_,_,_,_,_,_,_,rfl,_⟩:=h
  rfl
 obtain⟨f2,d,ln,lr,xs,n,tn,env,R,a0,a1,a2,rfl,hs,hn,hR,k⟩:=h
 refine⟨_,(Z4 (Z2 mO.nd pZ 2 (Z0 TK (cE (va bI 0) (Zb ak)))) (Z4 (Z2 mO.nd pZ 3 (Zj (va bI 1))) (Z4 (Zh (PW.pt (@jx _ _ _ _ _ _ _ (Zl (va bI 2) ak) (@iN _ _ _ _ (Zn jP (Zj (va bI 1)) ak)))) (Zd (Zm (Z0 GP (Zb (va bI 1)))))) eR))),?_⟩
 have hf:=hs.st.hf
 fail "R"
 intro z H1 z0 z4 x1
 have hs1:Ask K H1 f2 d ln lr xs n tn env R a0 a1 a2:={hs with st:=hs.st.ext x1}
 have st1:=hs1.st
 obtain⟨gn,_,g3,_,_⟩:=st1.g
 fail "R"
 refine bX (fun c=>?_) (fun c=>?_)
 ·clear c
  fail "R"
  refine bX (fun c=>?_) (fun c=>?_)
  ·clear c
   have b1:=hs.t0
   have b2:=hs.t2
   fail "R"
   intro H' v y c' st' hy r
   exact k H' v (gap y) _ _ (n+1) ((Cg.ext x1).trans c') {hs with st:=st',n5:=by omega,rl:=by rw[List.length_append];simp;omega} (by omega) ((xD hs.w.ok hs.e hy (.left (by omega)) (m:=4) (by omega)).le (by omega) (by omega) (by omega)) r
  ·clear c
   fail "R"
   exact vC LN LR hr hs1 hn hR fun H' v tm t R' n' c=>k H' v tm t R' n' ((Cg.ext x1).trans c)
 ·clear c
  fail "R"
  exact vC LN LR hr hs1 hn hR fun H' v tm t R' n' c=>k H' v tm t R' n' ((Cg.ext x1).trans c)
end
end G27
namespace L2
open PySem
theorem Ca{X:Cx}{pos:Pos}{k1 k2 k3 k4 k5 k6 v1 v2 v3 v4 v5 v6:Expr}{t1 t2 t3 t4 t5 t6 s1 s2 s3 s4 s5 s6:TE}(a1:PE X k1 t1)(b1:PE X v1 s1)(a2:PE X k2 t2)(b2:PE X v2 s2)(a3:PE X k3 t3)(b3:PE X v3 s3)(a4:PE X k4 t4)(b4:PE X v4 s4)(a5:PE X k5 t5)(b5:PE X v5 s5)(a6:PE X k6 t6)(b6:PE X v6 s6) :
  PE X (.Dict [some k1,some k2,some k3,some k4,some k5,some k6] [v1,v2,v3,v4,v5,v6] pos) (Az [(t1,s1),(t2,s2),(t3,s3),(t4,s4),(t5,s5),(t6,s6)]) :=
 xU (eV a1 b1 (eV a2 b2 (eV a3 b3 (eV a4 b4 (eV a5 b5 (eV a6 b6 xT)))))) rfl rfl (List.cons_ne_nil _ _) (by show 6<=15;decide)
end L2
namespace G27
open PySem L2
noncomputable def lJ(K:PySem.W.Frag):Sp:=fun vs H Q _=>∃(f d ln lr:Addr) (xs:List Str) (n:Nat) (tn:Int) (env:Env) (R:List T) (r:T) (v:V),vs=[.ref d,v]/\jJ K H f d ln lr xs n tn env R/\R.length<=100/\Rp K H r v /\
 ∀(H':Hp) (u:V),Cg f d lr H H'->jJ K H' f d ln lr xs n tn env (R++[r])->Rp K H' (aG R.length) u->Q u H'
structure Dn(w:Nat->Str) (env:Env) (R:List T) (tm:Tm) (o:Option T) (c:Nat) (R':List T):Prop where
 nice:bU 20 tm
 ok:∀t,o=some t->Sz 1000 10 t/\∀D,tY D (w 8)=some ([w 6,w 3],enc (gap 0))->Bs D 8 tm env ⟨R,0⟩ (.ok t ⟨R',c⟩)
 bad:o=none->∀D,∃s',Bs D 8 tm env ⟨R,0⟩ (.bad s')/\s'.many<=100/\s'.rows.length<=100
 c:c<=10
 len:R'.length<=R.length+8
 rb:RB R->RB R'
noncomputable def nY(K:PySem.W.Frag)(H:Hp):Option T->V->Prop
 |some t,v=>Rp K H t v
 |none,v=>v=.eW
noncomputable def eM(K:PySem.W.Frag)(more:List V->Prop):Sp:=fun vs H Q _=>∃(f d ln lr:Addr) (xs:List Str) (n:Nat) (tn:Int) (env:Env) (R:List T) (a0 a1 a2:T) (ms:List V),vs=.ref f::.ref d::ms/\more ms/\Ask K H f d ln lr xs n tn env R a0 a1 a2/\n+6<=12/\R.length+8<=50 /\
 ∀(H':Hp) (p:Addr) (vt vo:V) (tm:Tm) (o:Option T) (c:Nat) (R':List T) (n':Nat) (env':Env),Cg f d lr H H'->jJ K H' f d ln lr xs n' tn env' R'->Dn (wf xs) env R tm o c R'->H' p=some (.tup [vt,vo,.int c])->Rp K H' (enc tm) vt->nY K H' o vo->Q (.ref p) H'
section
variable {P:Program}{w:World}{K:PySem.W.Frag}{mg:Str->Option Value}{base:Heap}{C:Addr}
variable {gT gU gG gN gR gW:Addr}{tfd ufd gfd nfd rfd wfd:FuncData}
theorem jL:Nm ["_law_state","_law_row_here"] (af iT):=by decide +kernel
theorem tO:aM ["_law_state","_law_row_here"] ["_law_state","_law_row_here"] (af iT):=⟨rfl,rfl,rfl,by decide +kernel,rfl,by decide +kernel,by decide +kernel⟩
theorem xE{f:Addr}{fd:FuncData}(F:gJ K "_law_written" "_law_written" iT f fd)(z_len:mg "len"=none):bF P w K mg base dX 1 f fd ["_law_state","_law_row_here"] (lJ K):=by
 refine F.ok tO (fun vs H Q E h=>?_) (fun cdv A outer s H vs Q E hr h=>?_)
 ·obtain⟨_,_,_,_,_,_,_,_,_,_,_,rfl,_⟩:=h
  rfl
 obtain⟨f2,d,ln,lr,xs,n,tn,env,R,r,v,rfl,hs,hR,rv0,k⟩:=h
 refine⟨_,(Z4 (Zk (Z8 (Zj (va jL 0)) (Zb (va jL 1)))) (Zd (Zm (Z6 (Z1 aq (Z1 (Zp iY (Zg bC (Z1 (Zj (va jL 0)) aj)) ak) aj)))))),?_⟩
 try dsimp only[bY]
 obtain⟨_,g2,_,_,_⟩:=hs.g
 obtain⟨rv,er,rs⟩:=hs.rr
 have lrv:=rs.length
 have lr2:rv.length<sizeLine:=bu (by omega)
 obtain⟨hs3,c3,k3⟩:=hs.addr er rs rv0
 obtain⟨_,g2'',_,_,_⟩:=hs3.g
 have er3:upd H lr (.lst (rv++[v])) lr=some (.lst (rv++[v])):=ah
 have hl4:cR K (upd H lr (.lst (rv++[v]))) lr (rv++[v])\/bT K (upd H lr (.lst (rv++[v]))) lr (rv++[v]):=.inl (cR.of er3)
 have lz:(((rv++[v]).length:Nat):Int) - 1=((R.length:Nat):Int):=by rw[List.length_append];simp;omega
 fail "R"
 intro q3 hq3
 have e9:(fun i j:Int=>V.int (i-j)) (((rv++[v]).length:Nat):Int) 1=.int (R.length:Int):=by rw[←lz]
 rw[e9]
 have s5:=ae hq3 (.tup [.str "left",.int (R.length:Int)])
 exact k _ _ (c3.trans (Cg.same s5)) (hs3.same s5) (Rp.new (K:=K) hq3 (.cons .s (.one .i)))
end
noncomputable def qc(sg:Str)(a b:T):T:=.t [.s "op",.s sg,a,b]
theorem Er{sg:Str}{a b:T}(h:cP sg)(x:Sz 50 1 a)(y:Sz 50 1 b):Sz 300 3 (qc sg a b):=by
 obtain⟨k1,k2⟩:=zP "op" (by decide +kernel)
 have:=x.w;have:=y.w;have:=x.d;have:=y.d;have:=h.1
 exact⟨⟨k1,h.2,x.ok,y.ok,trivial⟩,by simp only[qc,tW,gX];omega,by fail "D"⟩
section
variable {wn:Nat->Str}{env:Env}{R R1 R2:List T}{k1 k2:Tm}{t1 t2:T}{sg:Str}
theorem tP(hs:sg∈qW)(g1:Gn Vn 1 1 1 env R k1 t1 R1)(g2:Gn Vn 1 1 1 env R1 k2 t2 R2):bU 3 (.mk (.op sg) [k1,k2]):=nH (hd:=.op sg) rfl (yr hs) g1.nice g2.nice
theorem FN(hs:sg∈qW)(e:sg=":")(g1:Gn Vn 1 1 1 env R k1 t1 R1)(g2:Gn Vn 1 1 1 env R1 k2 t2 R2)(e2:t2=aZ 0)(hR:R.length<=60):Dn wn env R (.mk (.op sg) [k1,k2]) none 0 R2:=by
 have N:=tP hs g1 g2
 have l1:=g1.len;have l2:=g2.len
 subst e2 e
 exact⟨N.le (by decide),fun t z=>(by cases z),fun _ D=>⟨⟨R2,0⟩,Cy (h:=7) (Dr N (by decide)) vh ((g1.ev D 0).le (by decide)) ((g2.ev D 0).le (by decide)) .op0,(show 0<=100 by decide),by show R2.length<=100;omega⟩,by decide,by omega,fun b=>g2.rb (g1.rb b)⟩
theorem FO(hs:sg∈qW)(g1:Gn Vn 1 1 1 env R k1 t1 R1)(g2:Gn Vn 1 1 1 env R1 k2 t2 R2)(hl:(∃i,t1=aG i)\/∃i,t2=aG i)(h0:sg=":"->t2≠aZ 0)(hR:R.length<=60):Dn wn env R (.mk (.op sg) [k1,k2]) (some (aG R2.length)) 0 (R2++[qc sg t1 t2]):=by
 have N:=tP hs g1 g2
 have l1:=g1.len;have l2:=g2.len
 have sz:=Er (yr hs) g1.v.sz g2.v.sz
 refine⟨N.le (by decide),fun t z=>?_,fun z=>(by cases z),by decide,by rw[List.length_append];simp;omega,fun b=>(g2.rb (g1.rb b)).snoc (sz.le (by decide) (by decide))⟩
 injection z with z
 subst z
 refine⟨(Vn.left (k:=R2.length) (by omega)).sz.le (by decide) (by decide),fun D _=>Cy (h:=7) (Dr N (by decide)) vh ((g1.ev D 0).le (by decide)) ((g2.ev D 0).le (by decide)) ?_⟩
 cases g1.v with
 |left _=>exact .opL g2.v.nl h0
 |num _ =>
  rcases hl with⟨i,e⟩|⟨i,rfl⟩
  ·simp[aZ,aG]at e;exact absurd e.1 (by decide +kernel)
  ·exact .opR
theorem FP{x y:Int}(hs:sg∈qW)(g1:Gn Vn 1 1 1 env R k1 (aZ x) R1)(g2:Gn Vn 1 1 1 env R1 k2 (aZ y) R2)(hx:Nb x)(hy:Nb y)(h0:sg=":"->y≠0)(hR:R.length<=60):Dn wn env R (.mk (.op sg) [k1,k2]) (some (aZ (lF sg x y))) 1 R2:=by
 have N:=tP hs g1 g2
 have l1:=g1.len;have l2:=g2.len
 refine⟨N.le (by decide),fun t z=>?_,fun z=>(by cases z),by decide,by omega,fun b=>g2.rb (g1.rb b)⟩
 injection z with z
 subst z
 exact⟨(Vn.num (Fg hx hy h0)).sz.le (by decide) (by decide),fun D _=>Cy (h:=7) (Dr N (by decide)) vh ((g1.ev D 0).le (by decide)) ((g2.ev D 0).le (by decide)) (.op hs hx hy h0)⟩
end
theorem JL(i:Int)(h0:0<=i)(h6:i<(7:Nat)):∃c,fR (Str.ofString "+-*:<=:").cps.toList i=some c/\(⟨#[c]⟩:Str)∈qW:=by
 obtain rfl|rfl|rfl|rfl|rfl|rfl|rfl:i=0\/i=1\/i=2\/i=3\/i=4\/i=5\/i=6:=by omega
 ·exact⟨43,by decide +kernel,by decide +kernel⟩
 ·exact⟨45,by decide +kernel,by decide +kernel⟩
 ·exact⟨42,by decide +kernel,by decide +kernel⟩
 ·exact⟨58,by decide +kernel,by decide +kernel⟩
 ·exact⟨60,by decide +kernel,by decide +kernel⟩
 ·exact⟨61,by decide +kernel,by decide +kernel⟩
 ·exact⟨58,by decide +kernel,by decide +kernel⟩
noncomputable def Es(x y q:Int):List (Key×V):=[(Sum.inr "+",.int (x+y)),(Sum.inr "-",.int (x-y)),(Sum.inr "*",.int (x*y)),(Sum.inr ":",.int (x-q*y)),(Sum.inr "<",.int (if decide (x<y)=true then 1 else 0)),(Sum.inr "=",.int (if decide (V.int x=V.int y)=true then 1 else 0))]
theorem HN(x y q:Int):d9 [] (Es x y q)=Es x y q:=by kernel_rfl
theorem sm_get{sg:Str}{x y:Int}(hs:sg∈qW)(hx:Nb x)(hy:Nb y)(h0:sg=":"->y≠0):∃r,dY (Es x y (x / if y>1 then y else 1)) (Sum.inr sg)=some (.int r)/\r % 1000000=lF sg x y:=by
 have hy1:=hy.1;have hy2:=hy.2;have hx1:=hx.1;have hx2:=hx.2
 have hs':sg="+"\/sg="-"\/sg="*"\/sg=":"\/sg="<"\/sg="=":=by simpa[qW]using hs
 rcases hs' with rfl|rfl|rfl|rfl|rfl|rfl
 ·exact⟨x+y,by kernel_rfl,by unfold lF;rw[if_pos rfl]⟩
 ·exact⟨x-y,by kernel_rfl,by unfold lF;rw[if_neg (by decide +kernel),if_pos rfl]⟩
 ·exact⟨x*y,by kernel_rfl,by unfold lF;rw[if_neg (by decide +kernel),if_neg (by decide +kernel),if_pos rfl]⟩
 ·refine⟨x - (x / if y>1 then y else 1)*y,by kernel_rfl,?_⟩
  have hy0:=h0 rfl
  have eo:lF ":" x y=x % y:=by
   unfold lF
   rw[if_neg (by decide +kernel),if_neg (by decide +kernel),if_neg (by decide +kernel),if_pos rfl]
  rw[eo,show(if y>1 then y else 1)=y by split<;>omega]
  have e:x-x / y*y=x % y:=by rw[Int.emod_def,Int.mul_comm]
  rw[e]
  have h1:=Int.emod_nonneg x hy0
  have h2:=Int.emod_lt_of_pos x (show 0<y by omega)
  exact Int.emod_eq_of_lt h1 (by omega)
 ·refine⟨if decide (x<y)=true then 1 else 0,by kernel_rfl,?_⟩
  have e:lF "<" x y=if x<y then 1 else 0:=by
   unfold lF
   rw[if_neg (by decide +kernel),if_neg (by decide +kernel),if_neg (by decide +kernel),if_neg (by decide +kernel),if_pos rfl]
  rw[e]
  by_cases h:x<y
  ·rw[if_pos (decide_eq_true h),if_pos h];rfl
  ·rw[if_neg (by simpa using h),if_neg h];rfl
 ·refine⟨if decide (V.int x=V.int y)=true then 1 else 0,by kernel_rfl,?_⟩
  have e:lF "=" x y=if x=y then 1 else 0:=by
   unfold lF
   rw[if_neg (by decide +kernel),if_neg (by decide +kernel),if_neg (by decide +kernel),if_neg (by decide +kernel),if_neg (by decide +kernel)]
  rw[e]
  by_cases h:x=y
  ·rw[if_pos (decide_eq_true (by rw[h])),if_pos h];rfl
  ·rw[if_neg (fun z=>h (by have:=of_decide_eq_true z;injection this)),if_neg h];rfl
section
variable {P:Program}{w:World}{K:PySem.W.Frag}{mg:Str->Option Value}{base:Heap}{C:Addr}
variable {gT gU gG gN gR gW:Addr}{tfd ufd gfd nfd rfd wfd:FuncData}
theorem aS:Nm ["_law_feed_here","_law_state","_law_sign","_law_one","_law_other","_law_a","_law_b","_law_term","_law_x","_law_y","_law_sums"] (af fL):=by decide +kernel
theorem tQ:Lm ["_law_feed_here","_law_state","_law_sign","_law_one","_law_other","_law_a","_law_b","_law_term","_law_x","_law_y","_law_sums"] (af fL):=by decide +kernel
theorem jM:aM ["_law_feed_here","_law_state","_law_sign","_law_one","_law_other","_law_a","_law_b","_law_term","_law_x","_law_y","_law_sums"] ["_law_feed_here","_law_state"] (af fL):=⟨rfl,rfl,rfl,by decide +kernel,rfl,by decide +kernel,by decide +kernel⟩
theorem DH{f:Addr}{cdv:Value}{A:Around}{outer:List PySem.Env}{s:Shared}{H0:Hp}{E:XK}(z_int:mg "int"=none)(z_max:mg "max"=none)(hr:cT 4 (A.deeper (PyProof.Rows.envOfC "_law_op" (af fL) s.heap.objs.size f cdv)))
  {D:L2.Ends}{H:Hp}{sg:Str}{x y:Int}{ua ub vt:V}{x0 x1 x3 x4 x8 x9 x10:Option V}(hs:sg∈qW) (hx:Nb x) (hy:Nb y) (h0:sg=":"->y≠0) (ra:Rp K H (aZ x) ua) (rb:Rp K H (aZ y) ub)
  (k:∀(H':Hp) (p:Addr) (vo:V),br H H'->H' p=some (.tup [vt,vo,.int 1])->Rp K H' (aZ (lF sg x y)) vo->D.rt (.ref p) H') :
  kh (ji dX P w K mg base ["_law_feed_here","_law_state","_law_sign","_law_one","_law_other","_law_a","_law_b","_law_term","_law_x","_law_y","_law_sums"] "_law_op" (af fL) f cdv A outer s H0 E).tX ((bz fL).drop 6) D [x0,x1,some (.str sg),x3,x4,some ua,some ub,some vt,x8,x9,x10] H:=by
 refine gb ((Z4 (@kY _ _ (8) (9) _ _ _ _ _ _ _ _ _ _ _ rfl jM.nd rfl rfl (by decide) rfl rfl (Z1 (Z3 ay (va aS 5)) (Z1 (Z3 ay (va aS 6)) aj)) (by rfl) (by rfl)) (Z4 (Z2 jM.nd tQ 10 (@Ca _ _ _ _ _ _ _ _ _ _ _ _ _ _ _ _ _ _ _ _ _ _ _ _ _ _ aq (bK eT (va aS 8) (va aS 9)) aq (bK iY (va aS 8) (va aS 9)) aq (bK fU (va aS 8) (va aS 9)) aq (Zp iY (va aS 8) (Zp fU (Zp rQ (va aS 8) (@gu _ _ _ _ _ _ _ _ _ (yP rfl) (by show _=_;kernel_rfl) z_max PyProof.Rows.boot_max (Z1 ak (Zb (va aS 9))) (by decide) (by decide) (by rfl) (by rfl))) (va aS 9))) aq (Z9 iq z_int PyProof.Rows.boot_int (Z1 (gZ jP (va aS 8) (va aS 9) (cV _)) aj)) aq (Z9 iq z_int PyProof.Rows.boot_int (Z1 (gZ gQ (va aS 8) (va aS 9) (cV _)) aj)))) (Zd (Zm (Z6 (Z1 (va aS 7) (Z1 (Z6 (Z1 aq (Z1 (Zp fg (kq (lX hr) (va aS 10) (va aS 2) (fun _ _=>rfl)) ak) aj))) (Zb ak))))))))) ?_
 try dsimp only[bY]
 obtain⟨qa,_,u1,rfl,sqa,_,ra1⟩:=ra.t2
 obtain rfl:=ra1.dj
 obtain⟨qb,_,u2,rfl,sqb,_,rb1⟩:=rb.t2
 obtain rfl:=rb1.dj
 fail "R"
 intro p hp
 have hd1:upd H p (.dK []) p=some (.dK []):=ah
 have q0:(if y>1 then y else 1)>0:=by split<;>omega
 have q1:(if y>1 then y else 1)≠0:=by split<;>omega
 have hx1:=hx.1;have hx2:=hx.2;have hy1:=hy.1;have hy2:=hy.2
 have p64:(2:Int) ^ 64=18446744073709551616:=by decide
 have cm:yO x y:=.inl ⟨by rw[p64];omega,by rw[p64];omega⟩
 have cd:ET x (if y>1 then y else 1):=⟨q0,by split<;>omega⟩
 have cm2:yO (x / if y>1 then y else 1) y:=.inr ⟨by rw[p64];omega,by rw[p64];omega⟩
 fail "R"
 refine .inr ⟨_,rfl,?_⟩
 fail "R"
 refine .inr ⟨_,rfl,?_⟩
 fail "R"
 ·exact(show _=(Es x y (x / if y>1 then y else 1)).map (fun kv=>(kV kv.1,kv.2))from rfl)
 refine⟨by show 6<=15;decide,?_⟩
 rw[HN]
 obtain⟨r,er,ro⟩:=sm_get hs hx hy h0
 have dk:=gv.k (k:=Sum.inr sg) (show upd (upd H p (.dK [])) p (.dK (Es x y (x / if y>1 then y else 1))) p=some (.dK (Es x y (x / if y>1 then y else 1)))from ah)
 rw[er]at dk
 have s1:br H (upd (upd H p (.dK [])) p (.dK (Es x y (x / if y>1 then y else 1)))):=fun b u e=>by rw[au (aF e hp)];exact ae hp _ b u e
 generalize upd (upd H p (.dK [])) p (.dK (Es x y (x / if y>1 then y else 1)))=H1 at dk s1⊢
 clear cm cd cm2 q0 q1 hd1 hp ra rb
 fail "R"
 intro q2 hq2
 have e9:(fun i j:Int=>V.int (i % j)) r 1000000=.int (lF sg x y):=by rw[←ro]
 rw[e9]
 have r2:Rp K (upd H1 q2 (.tup [.str "num",.int (lF sg x y)])) (aZ (lF sg x y)) (.ref q2):=Rp.new (K:=K) hq2 (.cons .s (.one .i))
 fail "R"
 intro q3 hq3
 exact k _ q3 (.ref q2) (s1.trans ((ae hq2 _).trans (ae hq3 _))) ah (r2.same (ae hq3 _))
end
theorem Vn.cases'{K:PySem.W.Frag}{H:Hp}{t:T}{v:V}(h:Vn t)(r:Rp K H t v):(∃x a,Nb x/\t=aZ x/\v=.ref a/\bT K H a [.str "num",.int x])\/∃(i:Nat) (a:Addr),t=aG i/\v=.ref a/\bT K H a [.str "left",.int i]:=by
 cases h with
 |@num x hx =>
  obtain⟨a,u0,u1,rfl,sq,r0,r1⟩:=r.t2
  obtain rfl:=r0.aD
  obtain rfl:=r1.dj
  exact .inl ⟨x,a,hx,rfl,rfl,sq⟩
 |@left k hk =>
  obtain⟨a,u0,u1,rfl,sq,r0,r1⟩:=r.t2
  obtain rfl:=r0.aD
  obtain rfl:=r1.dj
  exact .inr ⟨k,a,rfl,rfl,sq⟩
theorem Vn.head{K:PySem.W.Frag}{H:Hp}{t:T}{v:V}(h:Vn t)(r:Rp K H t v):∃(a:Addr) (us:List V) (b:Bool),v=.ref a/\bT K H a (.str (if b then "left" else "num")::us)/\(b=true->∃i,t=aG i)/\(b=false->∃x,Nb x/\t=aZ x):=by
 rcases h.cases' r with⟨x,a,hx,rfl,rfl,sq⟩|⟨i,a,rfl,rfl,sq⟩
 ·exact⟨a,_,false,rfl,sq,fun z=>(by cases z),fun _=>⟨x,hx,rfl⟩⟩
 ·exact⟨a,_,true,rfl,sq,fun _=>⟨i,rfl⟩,fun z=>(by cases z)⟩
section
variable {P:Program}{w:World}{K:PySem.W.Frag}{mg:Str->Option Value}{base:Heap}{C:Addr}
variable {gT gU gG gN gR gW:Addr}{tfd ufd gfd nfd rfd wfd:FuncData}
theorem Cb{f:Addr}{cdv:Value}{A:Around}{outer:List PySem.Env}{s:Shared}{H0:Hp}{E:XK}(WR:bG P w K mg base "_law_written" 1 ["_law_state","_law_row_here"] (lJ K) gW wfd)(z_int:mg "int"=none)(z_max:mg "max"=none)(hr:cT 4 (A.deeper (PyProof.Rows.envOfC "_law_op" (af fL) s.heap.objs.size f cdv)))
  {D:L2.Ends}{H:Hp}{f2 d ln lr:Addr}{xs:List Str}{n:Nat}{tn:Int}{env:Env}{R R1 R2:List T}{a0 a1 a2:T}{sg:Str}{k1 k2:Tm}{t1 t2:T}{ua ub vt:V}{x3 x4 x8 x9 x10:Option V}(hsg:sg∈qW) (hs:Ask K H f2 d ln lr xs n tn env R2 a0 a1 a2) (g1:Gn Vn 1 1 1 env R k1 t1 R1) (g2:Gn Vn 1 1 1 env R1 k2 t2 R2) (hR:R.length+8<=50) (ra:Rp K H t1 ua) (rb:Rp K H t2 ub) (rt:Rp K H (enc (.mk (.op sg) [k1,k2])) vt) (h0:sg=":"->t2≠aZ 0)
  (k:∀(H':Hp) (p:Addr) (vo:V) (o:Option T) (c:Nat) (R':List T),Cg f2 d lr H H'->jJ K H' f2 d ln lr xs n tn env R'->Dn (wf xs) env R (.mk (.op sg) [k1,k2]) o c R'->H' p=some (.tup [vt,vo,.int c])->Rp K H' (enc (.mk (.op sg) [k1,k2])) vt->nY K H' o vo->D.rt (.ref p) H') :
  kh (ji dX P w K mg base ["_law_feed_here","_law_state","_law_sign","_law_one","_law_other","_law_a","_law_b","_law_term","_law_x","_law_y","_law_sums"] "_law_op" (af fL) f cdv A outer s H0 E).tX ((bz fL).drop 5) D [some (.ref f2),some (.ref d),some (.str sg),x3,x4,some ua,some ub,some vt,x8,x9,x10] H:=by
 refine gb ((Z4 (Zh (@cM _ _ _ _ _ _ _ _ mW aq (Z6 (Z1 (Z3 ay (va aS 5)) (Z1 (Z3 ay (va aS 6)) aj))) (by with_unfolding_all rfl)) (Zd (Zm (Z6 (Z1 (va aS 7) (Z1 (Z0 WR (Z1 (va aS 1) (Z1 (Z6 (Z1 aq (Z1 (va aS 2) (Z1 (va aS 5) (Zb (va aS 6)))))) aj))) (Zb ak))))))) eR)) ?_
 try dsimp only[bY]
 have l1:=g1.len;have l2:=g2.len
 obtain⟨pa,usa,ba,rfl,sqa,ta1,ta2⟩:=g1.v.head ra
 obtain⟨pb,usb,bb,rfl,sqb,tb1,tb2⟩:=g2.v.head rb
 have ia:fR (V.str (if ba=true then "left" else "num")::usa) 0=some (.str (if ba=true then "left" else "num")):=aN (j:=0) rfl
 have ib:fR (V.str (if bb=true then "left" else "num")::usb) 0=some (.str (if bb=true then "left" else "num")):=aN (j:=0) rfl
 fail "R"
 intro q hq
 have s1:=ae hq (.tup [.str (if ba=true then "left" else "num"),.str (if bb=true then "left" else "num")])
 have sq1:cR K (upd H q (.tup [.str (if ba=true then "left" else "num"),.str (if bb=true then "left" else "num")])) q [.str (if ba=true then "left" else "num"),.str (if bb=true then "left" else "num")]\/bT K (upd H q (.tup [.str (if ba=true then "left" else "num"),.str (if bb=true then "left" else "num")])) q [.str (if ba=true then "left" else "num"),.str (if bb=true then "left" else "num")]:=.inr (bT.of ah)
 refine⟨q,_,rfl,sq1,rfl,rfl,_,rfl,?_⟩
 have hs1:Ask K (upd H q (.tup [.str (if ba=true then "left" else "num"),.str (if bb=true then "left" else "num")])) f2 d ln lr xs n tn env R2 a0 a1 a2:={hs with st:=hs.st.same s1}
 have ra1:=ra.same s1
 have rb1:=rb.same s1
 have rt1:=rt.same s1
 have inE:Gm (.str "left") [.str (if ba=true then "left" else "num"),.str (if bb=true then "left" else "num")]=(ba||bb):=by
  cases ba<;>cases bb<;>decide +kernel
 rw[inE]
 generalize upd H q (.tup [.str (if ba=true then "left" else "num"),.str (if bb=true then "left" else "num")])=H1 at s1 hs1 ra1 rb1 rt1⊢
 clear sq1 hs ra rb rt sqa sqb hq inE
 have st1:=hs1.st
 refine bX (fun c=>?_) (fun c=>?_)
 ·have hl:(∃i,t1=aG i)\/∃i,t2=aG i:=by
   cases ba with
   |true=>exact .inl (ta1 rfl)
   |false=>cases bb with
    |true=>exact .inr (tb1 rfl)
    |false=>cases c
  clear c
  fail "R"
  intro q2 hq2
  have s2:=ae hq2 (.tup [.str "op",.str sg,.ref pa,.ref pb])
  have r2:Rp K (upd H1 q2 (.tup [.str "op",.str sg,.ref pa,.ref pb])) (qc sg t1 t2) (.ref q2):=Rp.new (K:=K) hq2 (.cons .s (.cons .s (.cons ra1 (.one rb1))))
  have st2:=st1.same s2
  have rt2:=rt1.same s2
  generalize upd H1 q2 (.tup [.str "op",.str sg,.ref pa,.ref pb])=H2 at s2 r2 st2 rt2⊢
  have b1:R2.length<=100:=by omega
  fail "R"
  intro H3 u c3 st3 r3
  have rt3:=rt2.kt (st2.kt c3)
  fail "R"
  intro q4 hq4
  have s4:=ae hq4 (.tup [vt,u,.int 0])
  exact k _ q4 u (some (aG R2.length)) 0 (R2++[qc sg t1 t2]) ((Cg.same (s1.trans s2)).trans (c3.trans (Cg.same s4))) (st3.same s4) (FO hsg g1 g2 hl h0 (by omega)) ah (rt3.same s4) (r3.same s4)
 ·have hb:ba=false/\bb=false:=by cases ba<;>cases bb<;>simp_all
  obtain⟨x,hx,rfl⟩:=ta2 hb.1
  obtain⟨y,hy,rfl⟩:=tb2 hb.2
  clear c
  fail "R"
  have h0':sg=":"->y≠0:=fun e z=>h0 e (by rw[z])
  (try refine Cut.go (by assumption) ?_);refine DH z_int z_max hr hsg hx hy h0' ra1 rb1 fun H' p vo sF e r=>?_
  exact k H' p vo (some (aZ (lF sg x y))) 1 R2 (Cg.same (s1.trans sF)) (st1.same sF) (FP hsg g1 g2 hx hy h0' (by omega)) e (rt1.same sF) r
theorem FQ{f:Addr}{cdv:Value}{A:Around}{outer:List PySem.Env}{s:Shared}{H0:Hp}{E:XK}(WR:bG P w K mg base "_law_written" 1 ["_law_state","_law_row_here"] (lJ K) gW wfd)(z_int:mg "int"=none)(z_max:mg "max"=none)(hr:cT 4 (A.deeper (PyProof.Rows.envOfC "_law_op" (af fL) s.heap.objs.size f cdv)))
  {D:L2.Ends}{H:Hp}{f2 d ln lr:Addr}{xs:List Str}{n:Nat}{tn:Int}{env:Env}{R R1 R2:List T}{a0 a1 a2:T}{sg:Str}{k1 k2:Tm}{t1 t2:T}{ua ub vt:V}{x3 x4 x8 x9 x10:Option V}(hsg:sg∈qW) (hs:Ask K H f2 d ln lr xs n tn env R2 a0 a1 a2) (g1:Gn Vn 1 1 1 env R k1 t1 R1) (g2:Gn Vn 1 1 1 env R1 k2 t2 R2) (hR:R.length+8<=50) (ra:Rp K H t1 ua) (rb:Rp K H t2 ub) (rt:Rp K H (enc (.mk (.op sg) [k1,k2])) vt)
  (k:∀(H':Hp) (p:Addr) (vo:V) (o:Option T) (c:Nat) (R':List T),Cg f2 d lr H H'->jJ K H' f2 d ln lr xs n tn env R'->Dn (wf xs) env R (.mk (.op sg) [k1,k2]) o c R'->H' p=some (.tup [vt,vo,.int c])->Rp K H' (enc (.mk (.op sg) [k1,k2])) vt->nY K H' o vo->D.rt (.ref p) H') :
  kh (ji dX P w K mg base ["_law_feed_here","_law_state","_law_sign","_law_one","_law_other","_law_a","_law_b","_law_term","_law_x","_law_y","_law_sums"] "_law_op" (af fL) f cdv A outer s H0 E).tX ((bz fL).drop 4) D [some (.ref f2),some (.ref d),some (.str sg),x3,x4,some ua,some ub,some vt,x8,x9,x10] H:=by
 refine gb ((Z4 (Zh (PW.pt (@jx _ _ _ _ _ _ _ (Zl (va aS 2) aq) (@iN _ _ _ _ (Zn (wu hr.AH) (va aS 6) (Z6 (cE aq (Zb ak))))))) (Zd (Zm (Z6 (Z1 (va aS 7) (cE oH (Zb ak))))))) eR)) ?_
 try dsimp only[bY]
 have l1:=g1.len;have l2:=g2.len
 fail "R"
 refine bX (fun c=>?_) (fun c=>?_)
 ·have e:sg=":":=by have:=of_decide_eq_true c;injection this
  clear c
  fail "R"
  intro q hq
  have s1:=ae hq (.tup [.str "num",.int 0])
  have r1:Rp K (upd H q (.tup [.str "num",.int 0])) (aZ 0) (.ref q):=Rp.new (K:=K) hq (.cons .s (.one .i))
  have rb1:=rb.same s1
  have hs1:Ask K (upd H q (.tup [.str "num",.int 0])) f2 d ln lr xs n tn env R2 a0 a1 a2:={hs with st:=hs.st.same s1}
  have dp:t2.dep<=150:=by have:=g2.v.sz.d;omega
  refine⟨_,_,rb1,r1,dp,_,rfl,?_⟩
  have ra1:=ra.same s1
  have rt1:=rt.same s1
  generalize upd H q (.tup [.str "num",.int 0])=H1 at s1 r1 rb1 hs1 ra1 rt1⊢
  refine bX (fun c=>?_) (fun c=>?_)
  ·have e2:t2=aZ 0:=of_decide_eq_true c
   clear c
   fail "R"
   intro q4 hq4
   have s4:=ae hq4 (.tup [vt,.eW,.int 0])
   exact k _ q4 .eW none 0 R2 (Cg.same (s1.trans s4)) (hs1.st.same s4) (FN hsg e g1 g2 e2 (by omega)) ah (rt1.same s4) rfl
  ·have e2:t2≠aZ 0:=fun z=>c (decide_eq_true z)
   clear c
   fail "R"
   (try refine Cut.go (by assumption) ?_);exact Cb WR z_int z_max hr hsg hs1 g1 g2 hR ra1 rb1 rt1 (fun _=>e2) fun H' p vo o c R' cg=>k H' p vo o c R' ((Cg.same s1).trans cg)
 ·have e:sg≠":":=fun z=>c (decide_eq_true (by rw[z]))
  clear c
  fail "R"
  (try refine Cut.go (by assumption) ?_);exact Cb WR z_int z_max hr hsg hs g1 g2 hR ra rb rt (fun z=>absurd z e) k
theorem HP{f:Addr}{fd:FuncData}(F:gJ K "_law_op" "_law_op" fL f fd)(TK:bG P w K mg base "_law_take" 1 ["_law_feed_here","_law_many"] dJ gT tfd)(LN:bG P w K mg base "_law_num" 3 ["_law_feed_here","_law_state"] (cG (fun _=>Vn) 1 1 1 K) gN nfd)(WR:bG P w K mg base "_law_written" 1 ["_law_state","_law_row_here"] (lJ K) gW wfd)(z_int:mg "int"=none)(z_max:mg "max"=none):bF P w K mg base dX 5 f fd ["_law_feed_here","_law_state"] (eM K (·=[])):=by
 refine F.ok jM (fun vs H Q E h=>?_) (fun cdv A outer s H vs Q E hr h=>?_)
 ·obtain⟨_,_,_,_,_,_,_,_,_,_,_,_,_,rfl,rfl,_⟩:=h
  rfl
 obtain⟨f2,d,ln,lr,xs,n,tn,env,R,a0,a1,a2,_,rfl,rfl,hs,hn,hR,k⟩:=h
 refine⟨_,(Z4 (Z2 jM.nd tQ 2 (Zc rY aq (Z0 TK (cE (va aS 0) (Zb ak))))) (Z4 (@kY _ _ (3) (4) _ _ _ _ _ _ _ _ _ _ _ rfl jM.nd rfl rfl (by decide) rfl rfl (Z1 (Z0 LN (Z1 (va aS 0) (Zb (va aS 1)))) (Z1 (Z0 LN (Z1 (va aS 0) (Zb (va aS 1)))) aj)) (by rfl) (by rfl)) (Z4 (@kY _ _ (5) (6) _ _ _ _ _ _ _ _ _ _ _ rfl jM.nd rfl rfl (by decide) rfl rfl (Z1 (Z3 ay (va aS 3)) (Z1 (Z3 ay (va aS 4)) aj)) (by rfl) (by rfl)) (Z4 (Z2 jM.nd tQ 7 (Z6 (Z1 aq (Z1 (va aS 2) (Z1 (Z3 ay (va aS 3)) (Z1 (Z3 ay (va aS 4)) aj)))))) eR)))),?_⟩
 try dsimp only[bY]
 have hfF:=hs.st.hf
 (try refine Cut.go (by assumption) ?_);refine jK (K:=K) hfF (yy (m:=7) (P:=(·∈qW)) rfl (by omega) (by omega) (by decide +kernel) JL) ?_;rintro H9 t9 _ x9 ⟨sg,hsg,rfl⟩ rt9
 obtain rfl:=rt9.aD
 have hs1:Ask K H9 f2 d ln lr xs n tn env R a0 a1 a2:={hs with st:=hs.st.ext x9}
 have b1:n+1<=12:=by omega
 have b2:R.length+1<=60:=by omega
 fail "R"
 intro H1 v1 k1 t1 R1 n1 c1 hs2 hn1 g1 r1
 have l1:=g1.len
 have b3:n1+1<=12:=by omega
 have b4:R1.length+1<=60:=by omega
 fail "R"
 intro H2 v2 k2 t2 R2 n2 c2 hs3 hn2 g2 r2
 have l2:=g2.len
 have r1':=r1.kt (hs2.st.kt c2)
 replace hfF:=hs3.st.hf
 refine⟨_,_,rfl,?_⟩
 (try refine Cut.go (by assumption) ?_);refine FF (K:=K) hfF (ao (Ep hfF r1' rfl) (ao (Ep hfF r2 rfl) aL)) ?_;rintro H9 u9 w9 _ _ x9 rfl rfl ru9 rw9
 have r1a:=r1'.kt (x9.kt hfF)
 have r2a:=r2.kt (x9.kt hfF)
 have hs4:Ask K _ f2 d ln lr xs n2 tn env R2 a0 a1 a2:={hs3 with st:=hs3.st.ext x9}
 replace hfF:=hs4.st.hf
 have cc:Cg f2 d lr H H9:=((Cg.ext ‹_›).trans (c1.trans c2)).trans (Cg.ext x9)
 clear x9
 (try refine Cut.go (by assumption) ?_);refine jK (K:=K) hfF (aV (ao jf (ao (xA hfF (show Rp K _ (.s sg) (.str sg)from .s) rfl) (ao (Eo hfF r1a rfl) (ao (Eo hfF r2a rfl) aL))))) ?_;rintro H9 t9 _ x9 ⟨_,⟨_,_,rfl,⟨_,_,rfl,⟨_,_,rfl,⟨_,_,rfl,rfl,rfl⟩,rfl⟩,rfl⟩,rfl⟩,rfl⟩ rt9
 have kt9:=x9.kt hfF
 have hs5:Ask K _ f2 d ln lr xs n2 tn env R2 a0 a1 a2:={hs4 with st:=hs4.st.ext x9}
 (try refine Cut.go (by assumption) ?_);exact FQ WR z_int z_max hr hsg hs5 g1 g2 hR (ru9.kt kt9) (rw9.kt kt9) (by rw[zI];exact rt9) fun H' p vo o c R' cg st=>k H' p _ vo _ o c R' n2 env ((cc.trans (Cg.ext x9)).trans cg) st
end
noncomputable def FT(w:Str)(t:T):T:=.t [.s w,t]
noncomputable def IA(w:Str)(a t:T):T:=.t [.s w,a,t]
theorem FU{w:Str}{t:T}(h:cP w)(x:Sz 300 3 t):Sz 400 5 (FT w t):=by
 have:=x.w;have:=x.d;have:=h.1
 exact⟨⟨h.2,x.ok,trivial⟩,by simp only[FT,tW,gX];omega,by fail "D"⟩
theorem FW{w:Str}{a t:T}(h:cP w)(y:Sz 50 1 a)(x:Sz 300 3 t):Sz 500 5 (IA w a t):=by
 have:=x.w;have:=x.d;have:=h.1;have:=y.w;have:=y.d
 exact⟨⟨h.2,y.ok,x.ok,trivial⟩,by simp only[IA,tW,gX];omega,by fail "D"⟩
theorem Cc{ts:List T}(hl:ts.length<=6)(h:∀t∈ts,Vn t):Sz 500 3 (bD ts):=by
 obtain⟨a,b⟩:=zP "row" (by decide +kernel)
 obtain⟨b1,b2,b3⟩:=Iz (fun t ht=>(h t ht).sz)
 have:ts.length*51<=6*51:=Nat.mul_le_mul_right 51 hl
 exact⟨⟨a,b1,trivial⟩,by simp only[bD,tW,gX];omega,by fail "D"⟩
section
variable {wn:Nat->Str}{env:Env}{R R1 R2:List T}{k1 k2:Tm}{t1 t2:T}
theorem FY{hd:Hd}{wd:Str}(N:bU 5 (.mk hd [k2]))(o:ik (.mk hd [k2]))(ek:cO (.mk hd [k2])=[k2])(hw:cP wd)(g2:Gn Vr 3 4 2 env R k2 t2 R2)(hR:R.length<=60)(f:∀D,dN D (Bs D 7) env (.mk hd [k2]) [t2] ⟨R2,0⟩ (wrote ⟨R2,0⟩ (FT wd t2))):Dn wn env R (.mk hd [k2]) (some (aG R2.length)) 0 (R2++[FT wd t2]):=by
 have l2:=g2.len
 refine⟨N.le (by decide),fun t z=>?_,fun z=>(by cases z),by decide,by rw[List.length_append];simp;omega,fun b=>(g2.rb b).snoc ((FU hw g2.v.sz).le (by decide) (by decide))⟩
 injection z with z
 subst z
 exact⟨(Vn.left (k:=R2.length) (by omega)).sz.le (by decide) (by decide),fun D _=>zK (h:=7) o ek ((g2.ev D 0).le (by decide)) (f D)⟩
theorem FZ{hd:Hd}{t:T}(N:bU 5 (.mk hd [k2]))(o:ik (.mk hd [k2]))(ek:cO (.mk hd [k2])=[k2])(g2:Gn Vr 3 4 2 env R k2 t2 R2)(ht:Sz 1000 10 t)(f:∀D,dN D (Bs D 7) env (.mk hd [k2]) [t2] ⟨R2,0⟩ (.ok t ⟨R2,1⟩)):Dn wn env R (.mk hd [k2]) (some t) 1 R2:=by
 have l2:=g2.len
 refine⟨N.le (by decide),fun t' z=>?_,fun z=>(by cases z),by decide,by omega,g2.rb⟩
 injection z with z
 subst z
 exact⟨ht,fun D _=>zK (h:=7) o ek ((g2.ev D 0).le (by decide)) (f D)⟩
theorem HQ{hd:Hd}(N:bU 5 (.mk hd [k2]))(o:ik (.mk hd [k2]))(ek:cO (.mk hd [k2])=[k2])(g2:Gn Vr 3 4 2 env R k2 t2 R2)(hR:R.length<=60)(f:∀D,dN D (Bs D 7) env (.mk hd [k2]) [t2] ⟨R2,0⟩ (.bad ⟨R2,0⟩)):Dn wn env R (.mk hd [k2]) none 0 R2:=by
 have l2:=g2.len
 exact⟨N.le (by decide),fun t' z=>(by cases z),fun _ D=>⟨⟨R2,0⟩,zK (h:=7) o ek ((g2.ev D 0).le (by decide)) (f D),(show 0<=100 by decide),by show R2.length<=100;omega⟩,by decide,by omega,g2.rb⟩
theorem HR(g1:Gn Vn 1 1 1 env R k1 t1 R1)(g2:Gn Vr 3 4 2 env R1 k2 t2 R2)(hR:R.length<=60)(hl:∃i,t2=aG i):Dn wn env R (.mk .more [k1,k2]) (some (aG R2.length)) 0 (R2++[IA "more" t1 t2]):=by
 have l1:=g1.len;have l2:=g2.len
 have N:bU (1+4+1) (.mk .more [k1,k2]):=nH (hd:=.more) rfl trivial g1.nice g2.nice
 refine⟨N.le (by decide),fun t z=>?_,fun z=>(by cases z),by decide,by rw[List.length_append];simp;omega,fun b=>(g2.rb (g1.rb b)).snoc ((FW (eS (by decide +kernel)) g1.v.sz g2.v.sz).le (by decide) (by decide))⟩
 injection z with z
 subst z
 obtain⟨i,rfl⟩:=hl
 exact⟨(Vn.left (k:=R2.length) (by omega)).sz.le (by decide) (by decide),fun D _=>Cy (h:=7) (BH N (by decide)) tG ((g1.ev D 0).le (by decide)) ((g2.ev D 0).le (by decide)) .moreL⟩
theorem HS{ts:List T}(g1:Gn Vn 1 1 1 env R k1 t1 R1)(g2:Gn Vr 3 4 2 env R1 k2 (bD ts) R2)(hl:ts.length<=4)(hv:∀t∈ts,Vn t):Dn wn env R (.mk .more [k1,k2]) (some (bD (t1::ts))) 1 R2:=by
 have l1:=g1.len;have l2:=g2.len
 have N:bU (1+4+1) (.mk .more [k1,k2]):=nH (hd:=.more) rfl trivial g1.nice g2.nice
 refine⟨N.le (by decide),fun t z=>?_,fun z=>(by cases z),by decide,by omega,fun b=>g2.rb (g1.rb b)⟩
 injection z with z
 subst z
 exact⟨(Cc (ts:=t1::ts) (by simp;omega) (fun t ht=>by rcases List.mem_cons.mp ht with rfl|ht;exact g1.v;exact hv t ht)).le (by decide) (by decide),fun D _=>Cy (h:=7) (BH N (by decide)) tG ((g1.ev D 0).le (by decide)) ((g2.ev D 0).le (by decide)) (.more (by omega))⟩
end
theorem Vr.head{K:PySem.W.Frag}{H:Hp}{t:T}{v:V}(h:Vr t)(r:Rp K H t v):(∃(i:Nat) (a:Addr) (us:List V),t=aG i/\v=.ref a/\bT K H a (.str "left"::us))\/∃(ts:List T) (a q:Addr) (us:List V),ts.length<=4/\(∀t∈ts,Vn t)/\t=bD ts/\v=.ref a/\bT K H a [.str "row",.ref q]/\bT K H q us/\bB K H ts us:=by
 cases h with
 |@row ts hl hv =>
  obtain⟨a,u0,u1,rfl,sq,r0,r1⟩:=r.t2
  obtain rfl:=r0.aD
  obtain⟨q,us,rfl,sq2,rs⟩:=r1.bj
  exact .inr ⟨ts,a,q,us,hl,hv,rfl,rfl,sq,sq2,rs⟩
 |@left k hk =>
  obtain⟨a,u0,u1,rfl,sq,r0,r1⟩:=r.t2
  obtain rfl:=r0.aD
  exact .inl ⟨k,a,_,rfl,rfl,sq⟩
noncomputable def Gv:List Str:=["more","first","others","long"]
section
variable {P:Program}{w:World}{K:PySem.W.Frag}{mg:Str->Option Value}{base:Heap}{C:Addr}
variable {gT gU gG gN gR gW:Addr}{tfd ufd gfd nfd rfd wfd:FuncData}
theorem az:Nm ["_law_feed_here","_law_state","_law_word","_law_a","_law_b","_law_term","_law_row_here","_law_things"] (af dm):=by decide +kernel
theorem cQ:Lm ["_law_feed_here","_law_state","_law_word","_law_a","_law_b","_law_term","_law_row_here","_law_things"] (af dm):=by decide +kernel
theorem cy:aM ["_law_feed_here","_law_state","_law_word","_law_a","_law_b","_law_term","_law_row_here","_law_things"] ["_law_feed_here","_law_state","_law_word"] (af dm):=⟨rfl,rfl,rfl,by decide +kernel,rfl,by decide +kernel,by decide +kernel⟩
theorem mQ{f:Addr}{cdv:Value}{A:Around}{outer:List PySem.Env}{s:Shared}{H0:Hp}{E:XK}(WR:bG P w K mg base "_law_written" 1 ["_law_state","_law_row_here"] (lJ K) gW wfd)(z_int:mg "int"=none)(z_len:mg "len"=none)(hr:cT 4 (A.deeper (PyProof.Rows.envOfC "_law_of_rows" (af dm) s.heap.objs.size f cdv)))
  {D:L2.Ends}{H:Hp}{f2 d ln lr:Addr}{xs:List Str}{n:Nat}{tn:Int}{env:Env}{R R2:List T}{wd:Str}{tm k1 k2:Tm}{t1 t2 rt:T}{ua ub vt vr:V}{x7:Option V}(hwd:wd∈Gv) (st:jJ K H f2 d ln lr xs n tn env R2) (hR:R2.length<=100) (hv:Vr t2) (ra:wd="more"->Rp K H (.t [enc k1,t1]) ua) (rb:Rp K H (.t [enc k2,t2]) ub) (rm:Rp K H (enc tm) vt) (rr:Rp K H rt vr)
  (dL:(∃i,t2=aG i)->Dn (wf xs) env R tm (some (aG R2.length)) 0 (R2++[rt])) (dM:wd="more"->∀ts,t2=bD ts->Dn (wf xs) env R tm (some (bD (t1::ts))) 1 R2) (dG:wd="long"->∀ts,t2=bD ts->Dn (wf xs) env R tm (some (aZ ts.length)) 1 R2) (dB:(wd="first"\/wd="others")->t2=bD []->Dn (wf xs) env R tm none 0 R2)
  (dF:wd="first"->∀t ts,t2=bD (t::ts)->Dn (wf xs) env R tm (some t) 1 R2) (dO:wd="others"->∀t ts,t2=bD (t::ts)->Dn (wf xs) env R tm (some (bD ts)) 1 R2)
  (k:∀(H':Hp) (p:Addr) (vo:V) (o:Option T) (c:Nat) (R':List T),Cg f2 d lr H H'->jJ K H' f2 d ln lr xs n tn env R'->Dn (wf xs) env R tm o c R'->H' p=some (.tup [vt,vo,.int c])->Rp K H' (enc tm) vt->nY K H' o vo->D.rt (.ref p) H') :
  kh (ji dX P w K mg base ["_law_feed_here","_law_state","_law_word","_law_a","_law_b","_law_term","_law_row_here","_law_things"] "_law_of_rows" (af dm) f cdv A outer s H0 E).tX ((bz dm).drop 6) D [some (.ref f2),some (.ref d),some (.str wd),some ua,some ub,some vt,some vr,x7] H:=by
 refine gb ((Z4 (Zh (Zn gQ (Zc ay (Z3 ay (va az 4)) ak) aq) (Zd (Zm (Z6 (Z1 (va az 5) (Z1 (Z0 WR (Z1 (va az 1) (Zb (va az 6)))) (Zb ak))))))) (Z4 (Z2 cy.nd cQ 7 (Zc ay (Z3 ay (va az 4)) ak)) (Z4 (Zh (Zl (va az 2) aq) (Zd (Zm (Z6 (Z1 (va az 5) (Z1 (Z6 (Z1 aq (Z1 (Zp jt (Z6 (Z1 (Z3 ay (va az 3)) aj)) (va az 7)) aj))) (Zb ak))))))) (Z4 (Zh (Zl (va az 2) aq) (Zd (Zm (Z6 (Z1 (va az 5) (Z1 (Z6 (Z1 aq (Z1 (Zg bC (Zb (va az 7))) aj))) (Zb ak))))))) (Z4 (Zh (Zn gQ (Zg bC (Zb (va az 7))) ak) (Zd (Zm (Z6 (Z1 (va az 5) (cE oH (Zb ak))))))) (Zd (Zm (Z6 (Z1 (va az 5) (Z1 (Zc aA (@b8 _ _ _ _ (Z1 (Z3 ay (va az 7)) (Z1 (Z6 (Z1 aq (Z1 (iC Am (va az 7) (fF ak) hU) aj))) aj))) (Z9 iq z_int PyProof.Rows.boot_int (Z1 (gZ gQ (va az 2) aq (cV _)) aj))) (Zb ak)))))))))))) ?_
 try dsimp only[bY]
 obtain⟨pb,u0,u1,rfl,sqb,_,r1⟩:=rb.t2
 rcases hv.head r1 with⟨i,a,us,rfl,rfl,sq1⟩|⟨ts,a,q,us,hl,hvs,rfl,rfl,sq1,sq2,rs⟩
 ·have ia:fR (V.str "left"::us) 0=some (.str "left"):=aN (j:=0) rfl
  fail "R"
  intro H3 u c3 st3 r3
  have rm3:=rm.kt (st.kt c3)
  fail "R"
  intro q4 hq4
  have s4:=ae hq4 (.tup [vt,u,.int 0])
  exact k _ q4 u (some (aG R2.length)) 0 (R2++[rt]) (c3.trans (Cg.same s4)) (st3.same s4) (dL ⟨i,rfl⟩) ah (rm3.same s4) (r3.same s4)
 ·have ls:=rs.length
  have lz:us.length<=sizeLine:=small (by omega)
  fail "R"
  refine bX (fun c=>?_) (fun c=>?_)
  ·have e:wd="more":=by have:=of_decide_eq_true c;injection this
   clear c
   obtain⟨pa,v0,v1,rfl,sqa,_,ra1⟩:=(ra e).t2
   fail "R"
   intro q1 hq1
   have s1:=ae hq1 (.tup [v1])
   have sq2':=sq2.kt (Kt.same s1)
   have sq3:bT K (upd H q1 (.tup [v1])) q1 [v1]:=bT.of ah
   have rs1:=rs.same s1
   have ra2:=ra1.same s1
   generalize upd H q1 (.tup [v1])=H1 at s1 sq2' sq3 rs1 ra2⊢
   have lz2:[v1].length+us.length<=sizeLine:=small (by simp;omega)
   fail "R"
   intro p H' s2 sq4
   have r4:Rp K H' (.t (t1::ts)) (.ref p):=Rp.t sq4 (.cons (ra2.same s2) (rs1.same s2))
   fail "R"
   intro q5 hq5
   have r5:Rp K (upd H' q5 (.tup [.str "row",.ref p])) (bD (t1::ts)) (.ref q5):=Rp.new (K:=K) hq5 (.cons .s (.one r4))
   fail "R"
   intro q6 hq6
   have sF:=s1.trans (s2.trans ((ae hq5 _).trans (ae hq6 (.tup [vt,.ref q5,.int 1]))))
   exact k _ q6 (.ref q5) (some (bD (t1::ts))) 1 R2 (Cg.same sF) (st.same sF) (dM e ts rfl) ah (rm.same sF) (r5.same (ae hq6 _))
  have n1:wd≠"more":=fun z=>c (decide_eq_true (by rw[z]))
  clear c
  fail "R"
  refine bX (fun c=>?_) (fun c=>?_)
  ·have e:wd="long":=by have:=of_decide_eq_true c;injection this
   clear c
   have hq':cR K H q us\/bT K H q us:=.inr sq2
   fail "R"
   intro q5 hq5
   rw[ls]
   have r5:Rp K (upd H q5 (.tup [.str "num",.int (ts.length:Int)])) (aZ ts.length) (.ref q5):=Rp.new (K:=K) hq5 (.cons .s (.one .i))
   fail "R"
   intro q6 hq6
   have sF:=(ae hq5 (.tup [.str "num",.int (ts.length:Int)])).trans (ae hq6 (.tup [vt,.ref q5,.int 1]))
   exact k _ q6 (.ref q5) (some (aZ ts.length)) 1 R2 (Cg.same sF) (st.same sF) (dG e ts rfl) ah (rm.same sF) (r5.same (ae hq6 _))
  have n2:wd≠"long":=fun z=>c (decide_eq_true (by rw[z]))
  clear c
  have hfo:wd="first"\/wd="others":=by
   have:wd="more"\/wd="first"\/wd="others"\/wd="long":=by simpa[Gv]using hwd
   rcases this with h|h|h|h
   ·exact absurd h n1
   ·exact .inl h
   ·exact .inr h
   ·exact absurd h n2
  have hq':cR K H q us\/bT K H q us:=.inr sq2
  fail "R"
  refine bX (fun c=>?_) (fun c=>?_)
  ·have e0:ts=[]:=by
    have:=of_decide_eq_true c
    injection this with this
    exact List.eq_nil_of_length_eq_zero (by omega)
   clear c
   fail "R"
   intro q6 hq6
   have sF:=ae hq6 (.tup [vt,.eW,.int 0])
   exact k _ q6 .eW none 0 R2 (Cg.same sF) (st.same sF) (dB hfo (by rw[e0])) ah (rm.same sF) rfl
  cases ts with
  |nil=>exact absurd (decide_eq_true (by rw[ls];rfl)) c
  |cons t ts =>
   obtain⟨v,us,rfl,rv,rs⟩:=rs.inv
   clear c
   have i0:fR (v::us) 0=some v:=aN (j:=0) rfl
   have ns:¬(HT.fE (v::us).length 0 (some 1)=0/\HT.fE (v::us).length (v::us).length none=(v::us).length):=fun⟨h,_⟩=>by
    rw[show(some (1:Int))=some ((1:Nat):Int)from rfl,HT.rV]at h
    simp at h
   fail "R"
   intro p1 hp1
   have ec:jV (v::us) (some 1) none=us:=by
    unfold jV
    rw[show(some (1:Int))=some ((1:Nat):Int)from rfl,HT.rV,HT.ur]
    simp
   rw[ec]
   have s1:=ae hp1 (.tup us)
   have r1':Rp K (upd H p1 (.tup us)) (.t ts) (.ref p1):=Rp.new (K:=K) hp1 rs
   fail "R"
   intro p2 hp2
   have r2:Rp K (upd (upd H p1 (.tup us)) p2 (.tup [.str "row",.ref p1])) (bD ts) (.ref p2):=Rp.new (K:=K) hp2 (.cons .s (.one r1'))
   have s2:=s1.trans (ae hp2 (.tup [.str "row",.ref p1]))
   generalize upd (upd H p1 (.tup us)) p2 (.tup [.str "row",.ref p1])=H2 at r2 s2⊢
   fail "R"
   intro p3 hp3
   have e3:upd H2 p3 (.lst [v,.ref p2]) p3=some (.lst [v,.ref p2]):=ah
   have s3:=s2.trans (ae hp3 (.lst [v,.ref p2]))
   have r3:=r2.same (ae hp3 (.lst [v,.ref p2]))
   generalize upd H2 p3 (.lst [v,.ref p2])=H3 at e3 s3 r3⊢
   fail "R"
   refine .inr ⟨_,rfl,?_⟩
   rcases hfo with rfl|rfl
   ·have ix:fR [v,V.ref p2] (if decide (V.str "first"=V.str "others")=true then 1 else 0)=some v:=by
     rw[if_neg (by decide +kernel)];exact aN (j:=0) rfl
    fail "R"
    intro q6 hq6
    have sF:=s3.trans (ae hq6 (.tup [vt,v,.int 1]))
    exact k _ q6 v (some t) 1 R2 (Cg.same sF) (st.same sF) (dF rfl t ts rfl) ah (rm.same sF) (rv.same sF)
   ·have ix:fR [v,V.ref p2] (if decide (V.str "others"=V.str "others")=true then 1 else 0)=some (.ref p2):=by
     rw[if_pos (by decide +kernel)];exact aN (j:=1) rfl
    fail "R"
    intro q6 hq6
    have sF:=s3.trans (ae hq6 (.tup [vt,.ref p2,.int 1]))
    exact k _ q6 (.ref p2) (some (bD ts)) 1 R2 (Cg.same sF) (st.same sF) (dO rfl t ts rfl) ah (rm.same sF) (r3.same (ae hq6 _))
end
theorem qd{ts:List T}(h:Vr (bD ts)):ts.length<=4/\∀t∈ts,Vn t:=by
 generalize e:bD ts=t at h
 cases h with
 |row hl hv =>
  simp[bD]at e
  subst e
  exact⟨hl,hv⟩
 |left _=>simp[bD,aG]at e
section
variable {P:Program}{w:World}{K:PySem.W.Frag}{mg:Str->Option Value}{base:Heap}{C:Addr}
variable {gT gU gG gN gR gW:Addr}{tfd ufd gfd nfd rfd wfd:FuncData}
theorem xF{f:Addr}{fd:FuncData}(F:gJ K "_law_of_rows" "_law_of_rows" dm f fd)(LN:bG P w K mg base "_law_num" 3 ["_law_feed_here","_law_state"] (cG (fun _=>Vn) 1 1 1 K) gN nfd)(LR:bG P w K mg base "_law_row" 4 ["_law_feed_here","_law_state"] (cG (fun _=>Vr) 3 4 2 K) gR rfd)(WR:bG P w K mg base "_law_written" 1 ["_law_state","_law_row_here"] (lJ K) gW wfd)(z_int:mg "int"=none)(z_len:mg "len"=none):bF P w K mg base dX 5 f fd ["_law_feed_here","_law_state","_law_word"] (eM K (fun ms=>∃wd∈Gv,ms=[.str wd])):=by
 refine F.ok cy (fun vs H Q E h=>?_) (fun cdv A outer s H vs Q E hr h=>?_)
 ·obtain⟨_,_,_,_,_,_,_,_,_,_,_,_,_,rfl,⟨_,_,rfl⟩,_⟩:=h
  rfl
 obtain⟨f2,d,ln,lr,xs,n,tn,env,R,a0,a1,a2,_,rfl,⟨wd,hwd,rfl⟩,hs,hn,hR,k⟩:=h
 refine⟨_,(Z4 (sa cy.nd cQ 3 oH) (Z4 (Zh (Zl (va az 2) aq) (Zd (Z2 cy.nd cQ 3 (Z0 LN (Z1 (va az 0) (Zb (va az 1))))))) (Z4 (Z2 cy.nd cQ 4 (Z0 LR (Z1 (va az 0) (Zb (va az 1))))) (Z4 (Z2 cy.nd cQ 5 (Z6 (Z1 (va az 2) (Z1 (Z3 ay (va az 4)) aj)))) (Z4 (Z2 cy.nd cQ 6 (Z6 (Z1 (va az 2) (Z1 (Z3 ay (va az 4)) aj)))) (Z4 (Zh (Zl (va az 2) aq) (Z4 (Z2 cy.nd cQ 5 (Z6 (Z1 (va az 2) (Z1 (Z3 ay (va az 3)) (Z1 (Z3 ay (va az 4)) aj))))) (Zd (Z2 cy.nd cQ 6 (Z6 (Z1 (va az 2) (Z1 (Z3 ay (va az 3)) (Z1 (Z3 ay (va az 4)) aj)))))))) eR)))))),?_⟩
 try dsimp only[bY]
 have b1:n+1<=12:=by omega
 have b2:R.length+1<=60:=by omega
 by_cases hm:wd="more"
 ·subst hm
  fail "R"
  intro H1 v1 k1 t1 R1 n1 c1 hs1 hn1 g1 r1
  have l1:=g1.len
  have b3:n1+3<=12:=by omega
  have b4:R1.length+3<=60:=by omega
  fail "R"
  intro H2 v2 k2 t2 R2 n2 c2 hs2 hn2 g2 r2
  have l2:=g2.len
  have r1':=r1.kt (hs1.st.kt c2)
  obtain⟨pa,ua0,ua1,rfl,sqa,ra0,ra1⟩:=r1'.t2
  obtain⟨pb,ub0,ub1,rfl,sqb,rb0,rb1⟩:=r2.t2
  fail "R"
  intro p1 hp1
  have sqb1:=sqb.kt (Kt.same (ae hp1 (.tup [.str "more",ub0])))
  have sqa1:=sqa.kt (Kt.same (ae hp1 (.tup [.str "more",ub0])))
  have s1:=ae hp1 (.tup [.str "more",ub0])
  generalize upd H2 p1 (.tup [.str "more",ub0])=H3 at sqb1 sqa1 s1⊢
  fail "R"
  intro p2 hp2
  have sqb2:=sqb1.kt (Kt.same (ae hp2 (.tup [.str "more",ub1])))
  have sqa2:=sqa1.kt (Kt.same (ae hp2 (.tup [.str "more",ub1])))
  have s2:=s1.trans (ae hp2 (.tup [.str "more",ub1]))
  generalize upd H3 p2 (.tup [.str "more",ub1])=H4 at sqb2 sqa2 s2⊢
  fail "R"
  intro p3 hp3
  have sqb3:=sqb2.kt (Kt.same (ae hp3 (.tup [.str "more",ua0,ub0])))
  have sqa3:=sqa2.kt (Kt.same (ae hp3 (.tup [.str "more",ua0,ub0])))
  have s3:=s2.trans (ae hp3 (.tup [.str "more",ua0,ub0]))
  have r3:Rp K (upd H4 p3 (.tup [.str "more",ua0,ub0])) (enc (.mk .more [k1,k2])) (.ref p3):=by rw[xh];exact Rp.new (K:=K) hp3 (.cons .s (.cons (ra0.same s2) (.one (rb0.same s2))))
  generalize upd H4 p3 (.tup [.str "more",ua0,ub0])=H5 at sqb3 sqa3 s3 r3⊢
  fail "R"
  intro p4 hp4
  have s4:=s3.trans (ae hp4 (.tup [.str "more",ua1,ub1]))
  have r4:Rp K (upd H5 p4 (.tup [.str "more",ua1,ub1])) (IA "more" t1 t2) (.ref p4):=Rp.new (K:=K) hp4 (.cons .s (.cons (ra1.same s3) (.one (rb1.same s3))))
  have r3':=r3.same (ae hp4 (.tup [.str "more",ua1,ub1]))
  (try refine Cut.go (by assumption) ?_);refine mQ (R:=R) (R2:=R2) (k1:=k1) (t1:=t1) (tm:=.mk .more [k1,k2]) WR z_int z_len hr hwd (hs2.st.same s4) (by omega) g2.v (fun _=>r1'.same s4) (r2.same s4) r3' r4 (fun h=>HR g1 g2 (by omega) h) (fun _ ts e=>?_) (fun z=>absurd z (by decide +kernel)) (fun z=>?_) (fun z=>absurd z (by decide +kernel)) (fun z=>absurd z (by decide +kernel)) fun H' p vo o c R' cg st=>k H' p _ vo _ o c R' n2 env ((c1.trans c2).trans ((Cg.same s4).trans cg)) st
  ·subst e
   exact HS g1 g2 (qd g2.v).1 (qd g2.v).2
  ·rcases z with z|z<;>exact absurd z (by decide +kernel)
 ·have h3:wd="first"\/wd="others"\/wd="long":=by
   have:wd="more"\/wd="first"\/wd="others"\/wd="long":=by simpa[Gv]using hwd
   rcases this with h|h
   ·exact absurd h hm
   ·exact h
  have b3:n+3<=12:=by omega
  have b4:R.length+3<=60:=by omega
  rcases h3 with h|h|h
  ·subst h
   clear hm
   fail "R"
   intro H2 v2 k2 t2 R2 n2 c2 hs2 hn2 g2 r2
   have l2:=g2.len
   obtain⟨pb,ub0,ub1,rfl,sqb,rb0,rb1⟩:=r2.t2
   have N:bU (4+1) (.mk .first [k2]):=BD (hd:=.first) rfl trivial g2.nice
   have kw:cP ("first":Str):=eS (by decide +kernel)
   fail "R"
   intro p1 hp1
   have sqb1:=sqb.kt (Kt.same (ae hp1 (.tup [.str "first",ub0])))
   have s1:=ae hp1 (.tup [.str "first",ub0])
   have r3:Rp K (upd H2 p1 (.tup [.str "first",ub0])) (enc (.mk .first [k2])) (.ref p1):=by rw[ou];exact Rp.new (K:=K) hp1 (.cons .s (.one rb0))
   generalize upd H2 p1 (.tup [.str "first",ub0])=H3 at sqb1 s1 r3⊢
   fail "R"
   intro p2 hp2
   have s2:=s1.trans (ae hp2 (.tup [.str "first",ub1]))
   have r4:Rp K (upd H3 p2 (.tup [.str "first",ub1])) (FT "first" t2) (.ref p2):=Rp.new (K:=K) hp2 (.cons .s (.one (rb1.same s1)))
   have r3':=r3.same (ae hp2 (.tup [.str "first",ub1]))
   generalize upd H3 p2 (.tup [.str "first",ub1])=H4 at s2 r4 r3' ⊢
   fail "R"
   (try refine Cut.go (by assumption) ?_);refine mQ (R:=R) (R2:=R2) (k1:=num 0) (t1:=.n) (tm:=.mk .first [k2]) WR z_int z_len hr hwd (hs2.st.same s2) (by omega) g2.v (fun z=>absurd z (by decide +kernel)) (r2.same s2) r3' r4 (fun h=>FY N (tJ N (by decide)) mJ kw g2 (by omega) fun D=>?_) (fun z=>absurd z (by decide +kernel)) (fun z=>absurd z (by decide +kernel)) (fun _ e=>?_) (fun _ t ts e=>?_) (fun z=>absurd z (by decide +kernel)) fun H' p vo o c R' cg st=>k H' p _ vo _ o c R' n2 env (c2.trans ((Cg.same s2).trans cg)) st
   ·obtain⟨i,rfl⟩:=h;exact .firstL
   ·subst e;exact HQ N (tJ N (by decide)) mJ g2 (by omega) fun D=>.first0
   ·subst e
    have hv:=qd g2.v
    exact FZ N (tJ N (by decide)) mJ g2 ((hv.2 t (.head _)).sz.le (by decide) (by decide)) fun D=>.first (by have:=hv.1;simp at this;omega)
  ·subst h
   clear hm
   fail "R"
   intro H2 v2 k2 t2 R2 n2 c2 hs2 hn2 g2 r2
   have l2:=g2.len
   obtain⟨pb,ub0,ub1,rfl,sqb,rb0,rb1⟩:=r2.t2
   have N:bU (4+1) (.mk .others [k2]):=BD (hd:=.others) rfl trivial g2.nice
   have kw:cP ("others":Str):=eS (by decide +kernel)
   fail "R"
   intro p1 hp1
   have sqb1:=sqb.kt (Kt.same (ae hp1 (.tup [.str "others",ub0])))
   have s1:=ae hp1 (.tup [.str "others",ub0])
   have r3:Rp K (upd H2 p1 (.tup [.str "others",ub0])) (enc (.mk .others [k2])) (.ref p1):=by rw[mH];exact Rp.new (K:=K) hp1 (.cons .s (.one rb0))
   generalize upd H2 p1 (.tup [.str "others",ub0])=H3 at sqb1 s1 r3⊢
   fail "R"
   intro p2 hp2
   have s2:=s1.trans (ae hp2 (.tup [.str "others",ub1]))
   have r4:Rp K (upd H3 p2 (.tup [.str "others",ub1])) (FT "others" t2) (.ref p2):=Rp.new (K:=K) hp2 (.cons .s (.one (rb1.same s1)))
   have r3':=r3.same (ae hp2 (.tup [.str "others",ub1]))
   generalize upd H3 p2 (.tup [.str "others",ub1])=H4 at s2 r4 r3' ⊢
   fail "R"
   (try refine Cut.go (by assumption) ?_);refine mQ (R:=R) (R2:=R2) (k1:=num 0) (t1:=.n) (tm:=.mk .others [k2]) WR z_int z_len hr hwd (hs2.st.same s2) (by omega) g2.v (fun z=>absurd z (by decide +kernel)) (r2.same s2) r3' r4 (fun h=>FY N (pV N (by decide)) kH kw g2 (by omega) fun D=>?_) (fun z=>absurd z (by decide +kernel)) (fun z=>absurd z (by decide +kernel)) (fun _ e=>?_) (fun z=>absurd z (by decide +kernel)) (fun _ t ts e=>?_) fun H' p vo o c R' cg st=>k H' p _ vo _ o c R' n2 env (c2.trans ((Cg.same s2).trans cg)) st
   ·obtain⟨i,rfl⟩:=h;exact .othersL
   ·subst e;exact HQ N (pV N (by decide)) kH g2 (by omega) fun D=>.others0
   ·subst e
    have hv:=qd g2.v
    exact FZ N (pV N (by decide)) kH g2 ((Cc (by have:=hv.1;simp at this;omega) (fun x hx=>hv.2 x (.tail _ hx))).le (by decide) (by decide)) fun D=>.others (by have:=hv.1;simp at this;omega)
  ·subst h
   clear hm
   fail "R"
   intro H2 v2 k2 t2 R2 n2 c2 hs2 hn2 g2 r2
   have l2:=g2.len
   obtain⟨pb,ub0,ub1,rfl,sqb,rb0,rb1⟩:=r2.t2
   have N:bU (4+1) (.mk .long [k2]):=BD (hd:=.long) rfl trivial g2.nice
   have kw:cP ("long":Str):=eS (by decide +kernel)
   fail "R"
   intro p1 hp1
   have sqb1:=sqb.kt (Kt.same (ae hp1 (.tup [.str "long",ub0])))
   have s1:=ae hp1 (.tup [.str "long",ub0])
   have r3:Rp K (upd H2 p1 (.tup [.str "long",ub0])) (enc (.mk .long [k2])) (.ref p1):=by rw[xm];exact Rp.new (K:=K) hp1 (.cons .s (.one rb0))
   generalize upd H2 p1 (.tup [.str "long",ub0])=H3 at sqb1 s1 r3⊢
   fail "R"
   intro p2 hp2
   have s2:=s1.trans (ae hp2 (.tup [.str "long",ub1]))
   have r4:Rp K (upd H3 p2 (.tup [.str "long",ub1])) (FT "long" t2) (.ref p2):=Rp.new (K:=K) hp2 (.cons .s (.one (rb1.same s1)))
   have r3':=r3.same (ae hp2 (.tup [.str "long",ub1]))
   generalize upd H3 p2 (.tup [.str "long",ub1])=H4 at s2 r4 r3' ⊢
   fail "R"
   (try refine Cut.go (by assumption) ?_);refine mQ (R:=R) (R2:=R2) (k1:=num 0) (t1:=.n) (tm:=.mk .long [k2]) WR z_int z_len hr hwd (hs2.st.same s2) (by omega) g2.v (fun z=>absurd z (by decide +kernel)) (r2.same s2) r3' r4 (fun h=>FY N (BG N (by decide)) tH kw g2 (by omega) fun D=>?_) (fun z=>absurd z (by decide +kernel)) (fun _ ts e=>?_) (fun z=>by rcases z with z|z<;>exact absurd z (by decide +kernel)) (fun z=>absurd z (by decide +kernel)) (fun z=>absurd z (by decide +kernel)) fun H' p vo o c R' cg st=>k H' p _ vo _ o c R' n2 env (c2.trans ((Cg.same s2).trans cg)) st
   ·obtain⟨i,rfl⟩:=h;exact .longL
   ·subst e
    have hv:=qd g2.v
    exact FZ N (BG N (by decide)) tH g2 ((Vn.num (x:=(ts.length:Int)) ⟨by omega,by omega⟩).sz.le (by decide) (by decide)) fun D=>.long (by omega)
end
noncomputable def Gw(w:Nat->Str):T:=.t [.s (w 1),.t [.s (w 3),.s (w 4)],.t [.s "name",.s (w 3)]]
noncomputable def F0(w:Nat->Str)(m:Int):T:=.t [.s (w 2),.t [],aZ m]
noncomputable def rJ(w:Nat->Str)(sw:Bool)(m:Int):T:=if sw then .t [F0 w m,Gw w]else .t [Gw w,F0 w m]
noncomputable def yz(w:Nat->Str)(sw:Bool):List (Str×List Str):=if sw then [(w 2,[]),(w 1,[w 3,w 4])]else [(w 1,[w 3,w 4]),(w 2,[])]
noncomputable def vD(w:Nat->Str)(sw:Bool)(k:Tm)(m:Int):Tm:=if sw then .mk (.mat (yz w true)) [k,num m,name (w 3)]else .mk (.mat (yz w false)) [k,name (w 3),num m]
theorem Cd(w:Nat->Str)(sw:Bool)(k:Tm)(m:Int):enc (vD w sw k m)=.t [.s "match",enc k,rJ w sw m]:=by
 cases sw with
 |true=>show enc (.mk (.mat (yz w true)) [k,num m,name (w 3)])=_;rw[vf];simp only[List.map_cons,List.map_nil,e_num,eU];rfl
 |false=>show enc (.mk (.mat (yz w false)) [k,name (w 3),num m])=_;rw[vf];simp only[List.map_cons,List.map_nil,e_num,eU];rfl
noncomputable def qe(w:Nat->Str)(sw:Bool)(t:T)(m:Int)(env:Env):T:=.t [.s "match",t,rJ w sw m,dh env]
theorem DI{w:Nat->Str}{sw:Bool}{m:Int}(hw:yw w)(hm:Nb m):Sz 500 5 (rJ w sw m):=by
 obtain⟨k1,k2⟩:=zP "name" (by decide +kernel)
 obtain⟨k3,k4⟩:=zP "num" (by decide +kernel)
 have:=(hw 1).1;have:=(hw 2).1;have:=(hw 3).1;have:=(hw 4).1
 have oA:zV (Gw w):=⟨(hw 1).2,⟨(hw 3).2,(hw 4).2,trivial⟩,⟨k1,(hw 3).2,trivial⟩,trivial⟩
 have oB:zV (F0 w m):=⟨(hw 2).2,trivial,⟨k3,Fv hm,trivial⟩,trivial⟩
 cases sw with
 |true=>exact⟨⟨oB,oA,trivial⟩,by simp only[rJ,Gw,F0,aZ,if_pos,tW,gX];omega,by fail "D"⟩
 |false=>exact⟨⟨oA,oB,trivial⟩,by simp only[rJ,Gw,F0,aZ,Bool.false_eq_true,if_false,tW,gX];omega,by fail "D"⟩
theorem Ga{w:Nat->Str}{sw:Bool}{t:T}{m:Int}{env:Env}(hw:yw w)(hm:Nb m)(ht:Sz 500 5 t)(ha:Sz 1200 8 (dh env)):Sz 3000 12 (qe w sw t m env):=by
 obtain⟨k1,k2⟩:=zP "match" (by decide +kernel)
 have a:=DI (sw:=sw) hw hm
 have:=a.w;have:=a.d;have:=ht.w;have:=ht.d;have:=ha.w;have:=ha.d
 exact⟨⟨k1,ht.ok,a.ok,ha.ok,trivial⟩,by simp only[qe,tW,gX];omega,by fail "D"⟩
section
variable {wn:Nat->Str}{env:Env}{R R2:List T}{k:Tm}{t:T}{m:Int}{sw:Bool}{a0 a1 a2:T}
theorem qf(hw:yw wn)(hm:Nb m)(g:Gn (Vt wn) 4 6 3 env R k t R2):bU 9 (vD wn sw k m):=by
 have nn:bU 1 (name (wn 3)):=jR (hd:=.name (wn 3)) rfl (hw 3)
 cases sw with
 |true =>
  refine(yq (hd:=.mat (yz wn true)) rfl (fun a ha=>?_) g.nice (kc hm) nn).le (by decide)
  simp only[yz,if_pos,List.mem_cons,List.not_mem_nil,or_false]at ha
  rcases ha with rfl|rfl<;>simp[hw 1,hw 2,hw 3,hw 4]
 |false =>
  refine(yq (hd:=.mat (yz wn false)) rfl (fun a ha=>?_) g.nice nn (kc hm)).le (by decide)
  simp only[yz,Bool.false_eq_true,if_false,List.mem_cons,List.not_mem_nil,or_false]at ha
  rcases ha with rfl|rfl<;>simp[hw 1,hw 2,hw 3,hw 4]
theorem DJ(hw:WN wn)(he:E3 wn env a0 a1 a2)(hm:Nb m)(g:Gn (Vt wn) 4 6 3 env R k t R2)(hR:R.length<=60)(hl:∃i,t=aG i):Dn wn env R (vD wn sw k m) (some (aG R2.length)) 0 (R2++[qe wn sw t m env]):=by
 have l2:=g.len
 have N:=qf (sw:=sw) hw.ok hm g
 refine⟨N.le (by decide),fun t' z=>?_,fun z=>(by cases z),by decide,by rw[List.length_append];simp;omega,fun b=>(g.rb b).snoc ((Ga hw.ok hm (g.v.sz (hw.ok 1) (hw.ok 2)) (he.ar hw.ok)).le (by decide) (by decide))⟩
 injection z with z
 subst z
 obtain⟨i,rfl⟩:=hl
 refine⟨(Vn.left (k:=R2.length) (by omega)).sz.le (by decide) (by decide),fun D _=>?_⟩
 cases sw with
 |true =>
  refine zK (h:=7) (rG N (by decide)) lI ((g.ev D 0).le (by decide)) ?_
  have:=dN.matL (D:=D) (R:=Bs D 7) (env:=env) (arms:=yz wn true) (a:=k) (ks:=[num m,name (wn 3)]) (k:=i) (s:=⟨R2,0⟩)
  simp only[List.map_cons,List.map_nil,e_num,eU]at this
  exact this
 |false =>
  refine zK (h:=7) (rG N (by decide)) lI ((g.ev D 0).le (by decide)) ?_
  have:=dN.matL (D:=D) (R:=Bs D 7) (env:=env) (arms:=yz wn false) (a:=k) (ks:=[name (wn 3),num m]) (k:=i) (s:=⟨R2,0⟩)
  simp only[List.map_cons,List.map_nil,e_num,eU]at this
  exact this
theorem yC(h12:wn 1≠wn 2)(a b:T):wL [(wn 1,[wn 3,wn 4],a),(wn 2,[],b)] (wn 1)=some ([wn 3,wn 4],a)/\wL [(wn 1,[wn 3,wn 4],a),(wn 2,[],b)] (wn 2)=some ([],b)/\wL [(wn 2,[],b),(wn 1,[wn 3,wn 4],a)] (wn 1)=some ([wn 3,wn 4],a)/\wL [(wn 2,[],b),(wn 1,[wn 3,wn 4],a)] (wn 2)=some ([],b):=by
 simp[wL,h12,Ne.symm h12]
theorem DK{x y:T}(hw:WN wn)(he:E3 wn env a0 a1 a2)(hm:Nb m)(g:Gn (Vt wn) 4 6 3 env R k (jF (wn 1) [x,y]) R2)(hx:Vn x):Dn wn env R (vD wn sw k m) (some x) 1 R2:=by
 have l2:=g.len
 have N:=qf (sw:=sw) hw.ok hm g
 have h12:=hw.ne 1 2 (by decide) (by decide) (by decide)
 have h34:=hw.ne 3 4 (by decide) (by decide) (by decide)
 have el:env.length<=900:=by rw[he.e];simp
 refine⟨N.le (by decide),fun t' z=>?_,fun z=>(by cases z),by decide,by omega,g.rb⟩
 injection z with z
 subst z
 refine⟨hx.sz.le (by decide) (by decide),fun D _=>?_⟩
 cases sw with
 |true=>exact zK (h:=7) (rG N (by decide)) lI ((g.ev D 0).le (by decide)) (.mat (b:=name (wn 3)) (ns:=[wn 3,wn 4]) rfl (by simp[yz]) (yC h12 _ _).2.2.1 rfl el (by simp) (.name (xw h34)))
 |false=>exact zK (h:=7) (rG N (by decide)) lI ((g.ev D 0).le (by decide)) (.mat (b:=name (wn 3)) (ns:=[wn 3,wn 4]) rfl (by simp[yz]) (yC h12 _ _).1 rfl el (by simp) (.name (xw h34)))
theorem DL(hw:WN wn)(he:E3 wn env a0 a1 a2)(hm:Nb m)(g:Gn (Vt wn) 4 6 3 env R k (jF (wn 2) []) R2):Dn wn env R (vD wn sw k m) (some (aZ m)) 1 R2:=by
 have l2:=g.len
 have N:=qf (sw:=sw) hw.ok hm g
 have h12:=hw.ne 1 2 (by decide) (by decide) (by decide)
 have el:env.length<=900:=by rw[he.e];simp
 refine⟨N.le (by decide),fun t' z=>?_,fun z=>(by cases z),by decide,by omega,g.rb⟩
 injection z with z
 subst z
 refine⟨(Vn.num hm).sz.le (by decide) (by decide),fun D _=>?_⟩
 cases sw with
 |true=>exact zK (h:=7) (rG N (by decide)) lI ((g.ev D 0).le (by decide)) (.mat (b:=num m) (ns:=[]) rfl (by simp[yz]) (yC h12 _ _).2.2.2 rfl el (by simp) .num)
 |false=>exact zK (h:=7) (rG N (by decide)) lI ((g.ev D 0).le (by decide)) (.mat (b:=num m) (ns:=[]) rfl (by simp[yz]) (yC h12 _ _).2.1 rfl el (by simp) .num)
end
theorem Vt.head{wn:Nat->Str}{K:PySem.W.Frag}{H:Hp}{t:T}{v:V}(h:Vt wn t)(r:Rp K H t v):(∃(i:Nat) (a:Addr) (us:List V),t=aG i/\v=.ref a/\bT K H a (.str "left"::us))\/(∃(x y:T) (a q:Addr) (vx vy:V),Vn x/\t=jF (wn 1) [x,y]/\v=.ref a/\bT K H a [.str "tag",.str (wn 1),.ref q]/\bT K H q [vx,vy]/\Rp K H x vx)\/∃(a q:Addr),t=jF (wn 2) []/\v=.ref a/\bT K H a [.str "tag",.str (wn 2),.ref q]/\bT K H q []:=by
 cases h with
 |@t1 x y hx hy =>
  obtain⟨a,u0,u1,u2,rfl,sq,r0,r1,r2⟩:=r.t3
  obtain rfl:=r0.aD
  obtain rfl:=r1.aD
  obtain⟨q,vx,vy,rfl,sq2,rx,ry⟩:=r2.t2
  exact .inr (.inl ⟨x,y,a,q,vx,vy,hx,rfl,rfl,sq,sq2,rx⟩)
 |t2 =>
  obtain⟨a,u0,u1,u2,rfl,sq,r0,r1,r2⟩:=r.t3
  obtain rfl:=r0.aD
  obtain rfl:=r1.aD
  obtain⟨q,us,rfl,sq2,rs⟩:=r2.bj
  obtain rfl:=rs.cZ
  exact .inr (.inr ⟨a,q,rfl,rfl,sq,sq2⟩)
 |@left k hk =>
  obtain⟨a,u0,u1,rfl,sq,r0,r1⟩:=r.t2
  obtain rfl:=r0.aD
  exact .inl ⟨k,a,_,rfl,rfl,sq⟩
section
variable {P:Program}{w:World}{K:PySem.W.Frag}{mg:Str->Option Value}{base:Heap}{C:Addr}
variable {gT gU gG gN gR gW gA:Addr}{tfd ufd gfd nfd rfd wfd afd:FuncData}
theorem aP:Nm ["_law_feed_here","_law_state","_law_w","_law_term","_law_a","_law_some","_law_last","_law_arms"] (af fu):=by decide +kernel
theorem gf:Lm ["_law_feed_here","_law_state","_law_w","_law_term","_law_a","_law_some","_law_last","_law_arms"] (af fu):=by decide +kernel
theorem fq:aM ["_law_feed_here","_law_state","_law_w","_law_term","_law_a","_law_some","_law_last","_law_arms"] ["_law_feed_here","_law_state"] (af fu):=⟨rfl,rfl,rfl,by decide +kernel,rfl,by decide +kernel,by decide +kernel⟩
theorem rK{f:Addr}{cdv:Value}{A:Around}{outer:List PySem.Env}{s:Shared}{H0:Hp}{E:XK}(WR:bG P w K mg base "_law_written" 1 ["_law_state","_law_row_here"] (lJ K) gW wfd)(z_int:mg "int"=none)(hr:cT 5 (A.deeper (PyProof.Rows.envOfC "_law_match" (af fu) s.heap.objs.size f cdv)))
  {D:L2.Ends}{H:Hp}{f2 d ln lr:Addr}{xs:List Str}{n:Nat}{tn:Int}{env:Env}{R R2:List T}{a0 a1 a2:T}{kt:Tm}{t:T}{m:Int}{sw:Bool}{ua ut us ul um:V}(hs:Ask K H f2 d ln lr xs n tn env R2 a0 a1 a2) (hR:R.length+8<=50) (hm:Nb m) (g:Gn (Vt (wf xs)) 4 6 3 env R kt t R2) (ra:Rp K H t ua) (rt:Rp K H (enc kt) ut) (rl:Rp K H (F0 (wf xs) m) ul) (rm:Rp K H (rJ (wf xs) sw m) um)
  (k:∀(H':Hp) (p:Addr) (vt vo:V) (o:Option T) (c:Nat) (R':List T),Cg f2 d lr H H'->jJ K H' f2 d ln lr xs n tn env R'->Dn (wf xs) env R (vD (wf xs) sw kt m) o c R'->H' p=some (.tup [vt,vo,.int c])->Rp K H' (enc (vD (wf xs) sw kt m)) vt->nY K H' o vo->D.rt (.ref p) H') :
  kh (ji dX P w K mg base ["_law_feed_here","_law_state","_law_w","_law_term","_law_a","_law_some","_law_last","_law_arms"] "_law_match" (af fu) f cdv A outer s H0 E).tX ((bz fu).drop 5) D [some (.ref f2),some (.ref d),some (.ref ln),some ut,some ua,some us,some ul,some um] H:=by
 refine gb ((Z4 (Zh (Zn gQ (Z3 ay (va aP 4)) aq) (Zd (Zm (Z6 (Z1 (Z6 (Z1 aq (Z1 (va aP 3) (Zb (va aP 7))))) (Z1 (Z0 WR (Z1 (va aP 1) (Z1 (Z6 (Z1 aq (Z1 (va aP 4) (Z1 (va aP 7) (Z1 (Zj (va aP 1)) aj))))) aj))) (Zb ak))))))) (Zd (Zm (Z6 (Z1 (Z6 (Z1 aq (Z1 (va aP 3) (Zb (va aP 7))))) (Z1 (Zc aA (@b8 _ _ _ _ (Z1 (Z3 ay (va aP 6)) (Z1 (Zc ay (Zp jt (Z3 ay (va aP 4)) (Z6 (Z1 (Z3 ay (va aP 6)) aj))) ak) aj))) (Z9 iq z_int PyProof.Rows.boot_int (Z1 (@gZ _ _ _ _ _ _ _ _ gQ (Z3 ay (va aP 4)) (Z3 aA (va aP 2)) (cV _)) aj))) (Zb ak)))))))) ?_
 try dsimp only[bY]
 have l2:=g.len
 have lx:=hs.lx
 have mt:∀{H1:Hp}{q:Addr},H1 q=none->br H H1->Rp K (upd H1 q (.tup [.str "match",ut,um])) (enc (vD (wf xs) sw kt m)) (.ref q):=fun{H1 q} hq sm=>by
  rw[Cd]
  exact Rp.new (K:=K) hq (.cons .s (.cons (rt.same sm) (.one (rm.same sm))))
 rcases g.v.head ra with⟨i,a,us',rfl,rfl,sq1⟩|⟨x,y,a,q,vx,vy,hx,rfl,rfl,sq1,sq2,rx⟩|⟨a,q,rfl,rfl,sq1,sq2⟩
 ·have ia:fR (V.str "left"::us') 0=some (.str "left"):=aN (j:=0) rfl
  fail "R"
  intro q1 hq1
  have s1:=ae hq1 (.tup [.str "match",ut,um])
  have r1:=mt hq1 (br.refl _)
  have st1:=hs.st.same s1
  obtain⟨_,_,_,_,av,ga,rav⟩:=st1.g
  have ra1:=ra.same s1
  have rm1:=rm.same s1
  generalize upd H q1 (.tup [.str "match",ut,um])=H1 at s1 r1 st1 ga rav ra1 rm1⊢
  fail "R"
  intro q2 hq2
  have s2:=ae hq2 (.tup [.str "match",.ref a,um,av])
  have r2:Rp K (upd H1 q2 (.tup [.str "match",.ref a,um,av])) (qe (wf xs) sw (aG i) m env) (.ref q2):=Rp.new (K:=K) hq2 (.cons .s (.cons ra1 (.cons rm1 (.one rav))))
  have st2:=st1.same s2
  have r1':=r1.same s2
  generalize upd H1 q2 (.tup [.str "match",.ref a,um,av])=H2 at s2 r2 st2 r1' ⊢
  have b1:R2.length<=100:=by omega
  fail "R"
  intro H3 u c3 st3 r3
  have r13:=r1'.kt (st2.kt c3)
  fail "R"
  intro q4 hq4
  have s4:=ae hq4 (.tup [.ref q1,u,.int 0])
  exact k _ q4 (.ref q1) u (some (aG R2.length)) 0 (R2++[qe (wf xs) sw (aG i) m env]) ((Cg.same (s1.trans s2)).trans (c3.trans (Cg.same s4))) (st3.same s4) (DJ hs.w hs.e hm g (by omega) ⟨i,rfl⟩) ah (r13.same s4) (r3.same s4)
 ·have i1:fR (xs.map V.str) 1=some (.str (wf xs 1)):=aN (j:=1) (by rw[List.getElem?_map,fk (by omega)];rfl)
  obtain⟨pl,_,_,ul2,rfl,sql,_,_,rl2⟩:=(show Rp K H (.t [.s (wf xs 2),.t [],aZ m]) ul from rl).t3
  fail "R"
  intro q1 hq1
  have s1:=ae hq1 (.tup [.str "match",ut,um])
  have r1:=mt hq1 (br.refl _)
  have sql1:=sql.kt (Kt.same s1)
  have sq11:=sq1.kt (Kt.same s1)
  have sq21:=sq2.kt (Kt.same s1)
  have hn1:=s1 _ _ hs.st.hn
  generalize upd H q1 (.tup [.str "match",ut,um])=H1 at s1 r1 sql1 sq11 sq21 hn1⊢
  fail "R"
  intro q2 hq2
  have s2:=s1.trans (ae hq2 (.tup [ul2]))
  have sq22:=sq21.kt (Kt.same (ae hq2 (.tup [ul2])))
  have sq12:=sq11.kt (Kt.same (ae hq2 (.tup [ul2])))
  have hn2:=ae hq2 (.tup [ul2]) _ _ hn1
  have sq32:bT K (upd H1 q2 (.tup [ul2])) q2 [ul2]:=bT.of ah
  have r12:=r1.same (ae hq2 (.tup [ul2]))
  generalize upd H1 q2 (.tup [ul2])=H2 at s2 sq22 sq12 hn2 sq32 r12⊢
  have lz:([vx,vy]:List V).length+[ul2].length<=sizeLine:=small (by simp)
  fail "R"
  intro p3 H3 s3 sq33
  have ix3:fR ([vx,vy]++[ul2]) 0=some vx:=aN (j:=0) rfl
  have sq13:=sq12.kt (Kt.same s3)
  have hn3:=s3 _ _ hn2
  fail "R"
  intro q4 hq4
  have e4:upd H3 q4 (.lst [ul2,vx]) q4=some (.lst [ul2,vx]):=ah
  have sq14:=sq13.kt (Kt.same (ae hq4 (.lst [ul2,vx])))
  have hn4:=ae hq4 (.lst [ul2,vx]) _ _ hn3
  have s4:=s2.trans (s3.trans (ae hq4 (.lst [ul2,vx])))
  have r14:=r12.same (s3.trans (ae hq4 (.lst [ul2,vx])))
  generalize upd H3 q4 (.lst [ul2,vx])=H4 at e4 sq14 hn4 s4 r14⊢
  fail "R"
  refine .inr ⟨_,rfl,?_⟩
  have ix:fR [ul2,vx] (if decide (V.str (wf xs 1)=V.str (wf xs 1))=true then 1 else 0)=some vx:=by
   rw[if_pos (decide_eq_true rfl)];exact aN (j:=1) rfl
  fail "R"
  intro q6 hq6
  have sF:=s4.trans (ae hq6 (.tup [.ref q1,vx,.int 1]))
  exact k _ q6 (.ref q1) vx (some x) 1 R2 (Cg.same sF) (hs.st.same sF) (DK hs.w hs.e hm g hx) ah (r14.same (ae hq6 _)) (rx.same sF)
 ·have i1:fR (xs.map V.str) 1=some (.str (wf xs 1)):=aN (j:=1) (by rw[List.getElem?_map,fk (by omega)];rfl)
  obtain⟨pl,_,_,ul2,rfl,sql,_,_,rl2⟩:=(show Rp K H (.t [.s (wf xs 2),.t [],aZ m]) ul from rl).t3
  fail "R"
  intro q1 hq1
  have s1:=ae hq1 (.tup [.str "match",ut,um])
  have r1:=mt hq1 (br.refl _)
  have sql1:=sql.kt (Kt.same s1)
  have sq11:=sq1.kt (Kt.same s1)
  have sq21:=sq2.kt (Kt.same s1)
  have hn1:=s1 _ _ hs.st.hn
  generalize upd H q1 (.tup [.str "match",ut,um])=H1 at s1 r1 sql1 sq11 sq21 hn1⊢
  fail "R"
  intro q2 hq2
  have s2:=s1.trans (ae hq2 (.tup [ul2]))
  have sq22:=sq21.kt (Kt.same (ae hq2 (.tup [ul2])))
  have sq12:=sq11.kt (Kt.same (ae hq2 (.tup [ul2])))
  have hn2:=ae hq2 (.tup [ul2]) _ _ hn1
  have sq32:bT K (upd H1 q2 (.tup [ul2])) q2 [ul2]:=bT.of ah
  have r12:=r1.same (ae hq2 (.tup [ul2]))
  generalize upd H1 q2 (.tup [ul2])=H2 at s2 sq22 sq12 hn2 sq32 r12⊢
  have lz:([]:List V).length+[ul2].length<=sizeLine:=small (by simp)
  fail "R"
  intro p3 H3 s3 sq33
  have ix3:fR ([]++[ul2]) 0=some ul2:=aN (j:=0) rfl
  have sq13:=sq12.kt (Kt.same s3)
  have hn3:=s3 _ _ hn2
  fail "R"
  intro q4 hq4
  have e4:upd H3 q4 (.lst [ul2,ul2]) q4=some (.lst [ul2,ul2]):=ah
  have sq14:=sq13.kt (Kt.same (ae hq4 (.lst [ul2,ul2])))
  have hn4:=ae hq4 (.lst [ul2,ul2]) _ _ hn3
  have s4:=s2.trans (s3.trans (ae hq4 (.lst [ul2,ul2])))
  have r14:=r12.same (s3.trans (ae hq4 (.lst [ul2,ul2])))
  generalize upd H3 q4 (.lst [ul2,ul2])=H4 at e4 sq14 hn4 s4 r14⊢
  fail "R"
  refine .inr ⟨_,rfl,?_⟩
  have ix:fR [ul2,ul2] (if decide (V.str (wf xs 2)=V.str (wf xs 1))=true then 1 else 0)=some ul2:=by
   rw[if_neg (fun z=>hs.w.ne 2 1 (by decide) (by decide) (by decide) (by have:=of_decide_eq_true z;injection this))];exact aN (j:=0) rfl
  fail "R"
  intro q6 hq6
  have sF:=s4.trans (ae hq6 (.tup [.ref q1,ul2,.int 1]))
  exact k _ q6 (.ref q1) ul2 (some (aZ m)) 1 R2 (Cg.same sF) (hs.st.same sF) (DL hs.w hs.e hm g) ah (r14.same (ae hq6 _)) (rl2.same sF)
end
theorem kU{K:PySem.W.Frag}{i j:Nat}{v0 v1:V}{a:Addr}{σ:L2.St}{H:Hp}{Q:L2.St->Hp->Prop}(sq:bT K H a [v0,v1])(h:Q ((σ.set i (some v0)).set j (some v1)) H):uf K 2 (iB (dW i) (iB (dW j) vJ)) (.ref a) σ H Q:=⟨a,_,rfl,sq,rfl,by
 first|exact⟨_,_,rfl,_,_,rfl,rfl,h⟩|exact⟨_,_,rfl,_,_,rfl,h⟩⟩
section
variable {P:Program}{w:World}{K:PySem.W.Frag}{mg:Str->Option Value}{base:Heap}{C:Addr}
variable {gT gU gG gN gR gW gA:Addr}{tfd ufd gfd nfd rfd wfd afd:FuncData}
theorem Ce{f:Addr}{fd:FuncData}(F:gJ K "_law_match" "_law_match" fu f fd)(TK:bG P w K mg base "_law_take" 1 ["_law_feed_here","_law_many"] dJ gT tfd)(NU:bG P w K mg base "_law_number" 2 ["_law_feed_here"] jw gU ufd)(LT:bG P w K mg base "_law_tag" 5 ["_law_feed_here","_law_state"] (cG Vt 4 6 3 K) gA afd)(WR:bG P w K mg base "_law_written" 1 ["_law_state","_law_row_here"] (lJ K) gW wfd)(z_int:mg "int"=none):bF P w K mg base dX 6 f fd ["_law_feed_here","_law_state"] (eM K (·=[])):=by
 refine F.ok fq (fun vs H Q E h=>?_) (fun cdv A outer s H vs Q E hr h=>?_)
 ·obtain⟨_,_,_,_,_,_,_,_,_,_,_,_,_,rfl,rfl,_⟩:=h
  rfl
 obtain⟨f2,d,ln,lr,xs,n,tn,env,R,a0,a1,a2,_,rfl,rfl,hs,hn,hR,k⟩:=h
 refine⟨_,(Z4 (Z2 fq.nd gf 2 (Zj (va aP 1))) (Z4 (Zi (Z0 LT (Z1 (va aP 0) (Zb (va aP 1)))) (Zf (2) (Ze (ga fq.nd gf 3) (aQ (ga fq.nd gf 4) bh)))) (Z4 (Z2 fq.nd gf 5 (Z6 (Z1 (Z3 aA (va aP 2)) (Z1 (Z6 (Z1 (Z3 aA (va aP 2)) (Z1 (Z3 aA (va aP 2)) aj))) (Z1 (Z6 (Z1 aq (Z1 (Z3 aA (va aP 2)) aj))) aj))))) (Z4 (Z2 fq.nd gf 6 (Z6 (Z1 (Z3 aA (va aP 2)) (Z1 (bV aj) (Z1 (Z6 (Z1 aq (Z1 (Z0 NU (Zb (va aP 0))) aj))) aj))))) (Z4 (Z2 fq.nd gf 7 (Zc aA (@b8 _ _ _ _ (Z1 (Z6 (Z1 (va aP 5) (Zb (va aP 6)))) (Z1 (Z6 (Z1 (va aP 6) (Zb (va aP 5)))) aj))) (Z0 TK (cE (va aP 0) (Zb ak))))) eR))))),?_⟩
 try dsimp only[bY]
 obtain⟨g1,_,_,_,_⟩:=hs.st.g
 have b1:n+4<=12:=by omega
 have b2:R.length+4<=60:=by omega
 fail "R"
 intro H2 v2 kt t R2 n2 c2 hs2 hn2 g r2
 obtain⟨pb,ut,ua,rfl,sqb,rt,ra⟩:=r2.t2
 have lx:=hs.lx
 have hfF:=hs2.st.hf
 have hnF:=hs2.st.hn
 refine kU sqb ?_
 (try refine Cut.go (by assumption) ?_);refine jK (K:=K) hfF (aV (ao (Zo (i:=1)) (ao (aV (ao (Zo (i:=3)) (ao (Zo (i:=4)) aL))) (ao (aV (ao jf (ao (Zo (i:=3)) aL))) aL)))) ?_;rintro H9 t9 _ x9 ⟨_,⟨_,_,rfl,⟨_,_,⟨_,⟨_,_,rfl,⟨_,_,rfl,rfl,rfl⟩,rfl⟩,rfl⟩,⟨_,_,⟨_,⟨_,_,rfl,⟨_,_,rfl,rfl,rfl⟩,rfl⟩,rfl⟩,rfl,rfl⟩,rfl⟩,rfl⟩,rfl⟩ rt9
 have kt3:=x9.kt hfF
 have hs3:Ask K H9 f2 d ln lr xs n2 tn env R2 a0 a1 a2:={hs2 with st:=hs2.st.ext x9}
 have rt3:=rt.kt kt3
 have ra3:=ra.kt kt3
 have rs3:Rp K H9 (Gw (wf xs)) t9:=rt9
 have cc:Cg f2 d lr H H9:=c2.trans (Cg.ext x9)
 have i2:fR (xs.map V.str) 2=some (.str (wf xs 2)):=aN (j:=2) (by rw[List.getElem?_map,fk (by omega)];rfl)
 have hn3:=hs3.st.hn
 clear x9 kt3 rt ra sqb r2 hs2 rt9
 fail "R"
 intro p1 hp1
 have s1:=ae hp1 (.tup [])
 have r1:Rp K (upd H9 p1 (.tup [])) (.t []) (.ref p1):=Rp.new (K:=K) hp1 .nil
 have hs4:Ask K (upd H9 p1 (.tup [])) f2 d ln lr xs n2 tn env R2 a0 a1 a2:={hs3 with st:=hs3.st.same s1}
 have rt4:=rt3.same s1
 have ra4:=ra3.same s1
 have rs4:=rs3.same s1
 generalize upd H9 p1 (.tup [])=H4 at s1 r1 hs4 rt4 ra4 rs4⊢
 have hf4:=hs4.st.hf
 fail "R"
 intro m H5 m0 m1 x5
 have kt5:=x5.kt hf4
 have r15:=r1.kt kt5
 fail "R"
 intro p2 hp2
 have r2:Rp K (upd H5 p2 (.tup [.str "num",.int m])) (aZ m) (.ref p2):=Rp.new (K:=K) hp2 (.cons .s (.one .i))
 fail "R"
 intro p3 hp3
 have r3:Rp K (upd (upd H5 p2 (.tup [.str "num",.int m])) p3 (.tup [.str (wf xs 2),.ref p1,.ref p2])) (F0 (wf xs) m) (.ref p3):=Rp.new (K:=K) hp3 (.cons .s (.cons (r15.same (ae hp2 _)) (.one r2)))
 have s6:=(ae hp2 (.tup [.str "num",.int m])).trans (ae hp3 (.tup [.str (wf xs 2),.ref p1,.ref p2]))
 generalize upd (upd H5 p2 (.tup [.str "num",.int m])) p3 (.tup [.str (wf xs 2),.ref p1,.ref p2])=H6 at r3 s6⊢
 have hs6:Ask K H6 f2 d ln lr xs n2 tn env R2 a0 a1 a2:={hs4 with st:=(hs4.st.ext x5).same s6}
 have rt6:=(rt4.kt kt5).same s6
 have ra6:=(ra4.kt kt5).same s6
 have rs6:=(rs4.kt kt5).same s6
 have c6:Cg f2 d lr H H6:=(cc.trans (Cg.same s1)).trans ((Cg.ext x5).trans (Cg.same s6))
 clear rt4 ra4 rs4 rt3 ra3 rs3 r1 r15 r2 hp1 hp2 hp3 s1 s6 hs4 hs3 kt5 hf4 x5 cc
 replace hfF:=hs6.st.hf
 (try refine Cut.go (by assumption) ?_);refine jK (K:=K) hfF (vp (ao (aV (ao (xA hfF rs6 rfl) (ao (xA hfF r3 rfl) aL))) (ao (aV (ao (xA hfF r3 rfl) (ao (xA hfF rs6 rfl) aL))) aL)) rfl) ?_;rintro H9 t9 _ x9 (⟨_,⟨_,_,rfl,⟨_,_,rfl,rfl,rfl⟩,rfl⟩,rfl⟩|⟨_,⟨_,_,rfl,⟨_,_,rfl,rfl,rfl⟩,rfl⟩,rfl⟩) rt9
 ·have kt7:=x9.kt hfF
  (try refine Cut.go (by assumption) ?_);exact rK (sw:=false) WR z_int hr {hs6 with st:=hs6.st.ext x9} hR ⟨m0,m1⟩ g (ra6.kt kt7) (rt6.kt kt7) (r3.kt kt7) rt9 fun H' p vt vo o c R' cg st=>k H' p vt vo _ o c R' n2 env (c6.trans ((Cg.ext x9).trans cg)) st
 ·have kt7:=x9.kt hfF
  (try refine Cut.go (by assumption) ?_);exact rK (sw:=true) WR z_int hr {hs6 with st:=hs6.st.ext x9} hR ⟨m0,m1⟩ g (ra6.kt kt7) (rt6.kt kt7) (r3.kt kt7) rt9 fun H' p vt vo o c R' cg st=>k H' p vt vo _ o c R' n2 env (c6.trans ((Cg.ext x9).trans cg)) st
end
noncomputable def kB(w:Nat->Str)(sw:Bool)(m:Int):Tm:=if sw then name (w 5)else num m
noncomputable def kC(w:Nat->Str)(sw:Bool)(m:Int):Tm:=if sw then num m else name (w 5)
noncomputable def Gb(w:Nat->Str)(sw:Bool)(k:Tm)(m:Int):Tm:=.mk .ife [k,kB w sw m,kC w sw m]
noncomputable def vE(w:Nat->Str)(sw:Bool)(t:T)(m:Int)(env:Env):T:=.t [.s "if",t,enc (kB w sw m),enc (kC w sw m),dh env]
section
variable {wn:Nat->Str}{env:Env}{R R2:List T}{k:Tm}{t:T}{m:Int}{sw:Bool}{a0 a1 a2:T}
theorem Cf(hw:yw wn)(hm:Nb m):bU 1 (kB wn sw m)/\bU 1 (kC wn sw m):=by
 have nn:bU 1 (name (wn 5)):=jR (hd:=.name (wn 5)) rfl (hw 5)
 cases sw with
 |true=>exact⟨nn,kc hm⟩
 |false=>exact⟨kc hm,nn⟩
theorem tR{k:Tm}(N:bU 1 k):Sz 400 5 (enc k):=by
 have a:=HJ k N.wf N.lo
 have:=N.sz;have:=a.w;have:=a.d
 exact⟨a.ok,by omega,by omega⟩
theorem HU(hw:yw wn)(hm:Nb m)(ht:Sz 50 1 t)(ha:Sz 1200 8 (dh env)):Sz 3000 12 (vE wn sw t m env):=by
 obtain⟨k1,k2⟩:=zP "if" (by decide +kernel)
 obtain⟨nb,nc⟩:=Cf (sw:=sw) hw hm
 have b:=tR nb;have c:=tR nc
 have:=b.w;have:=b.d;have:=c.w;have:=c.d;have:=ht.w;have:=ht.d;have:=ha.w;have:=ha.d
 exact⟨⟨k1,ht.ok,b.ok,c.ok,ha.ok,trivial⟩,by simp only[vE,tW,gX];omega,by fail "D"⟩
theorem yD(hw:yw wn)(hm:Nb m)(g:Gn Vn 1 1 1 env R k t R2):bU 4 (Gb wn sw k m):=by
 obtain⟨nb,nc⟩:=Cf (sw:=sw) hw hm
 exact yq (hd:=.ife) rfl trivial g.nice nb nc
theorem Gd(hw:WN wn)(he:E3 wn env a0 a1 a2)(hm:Nb m)(g:Gn Vn 1 1 1 env R k t R2)(hR:R.length<=60)(hl:∃i,t=aG i):Dn wn env R (Gb wn sw k m) (some (aG R2.length)) 0 (R2++[vE wn sw t m env]):=by
 have l2:=g.len
 have N:=yD (sw:=sw) hw.ok hm g
 refine⟨N.le (by decide),fun t' z=>?_,fun z=>(by cases z),by decide,by rw[List.length_append];simp;omega,fun b=>(g.rb b).snoc ((HU hw.ok hm g.v.sz (he.ar hw.ok)).le (by decide) (by decide))⟩
 injection z with z
 subst z
 obtain⟨i,rfl⟩:=hl
 exact⟨(Vn.left (k:=R2.length) (by omega)).sz.le (by decide) (by decide),fun D _=>zK (h:=7) (El N (by decide)) xq ((g.ev D 0).le (by decide)) .ifL⟩
noncomputable def fQ(sw:Bool)(x m:Int)(a0:T):T:=if x=0 then(if sw then aZ m else a0)else(if sw then a0 else aZ m)
theorem yE{x:Int}(hw:WN wn)(he:E3 wn env a0 a1 a2)(hm:Nb m)(g:Gn Vn 1 1 1 env R k (aZ x) R2):Dn wn env R (Gb wn sw k m) (some (fQ sw x m a0)) 1 R2:=by
 have l2:=g.len
 have N:=yD (sw:=sw) hw.ok hm g
 have lk:=(he.lk hw).1
 refine⟨N.le (by decide),fun t' z=>?_,fun z=>(by cases z),by decide,by omega,g.rb⟩
 injection z with z
 subst z
 refine⟨?_,fun D _=>zK (h:=7) (El N (by decide)) xq ((g.ev D 0).le (by decide)) (.ife ?_)⟩
 ·have v0:=he.v0.sz.le (w':=1000) (d':=10) (by decide) (by decide)
  have vm:=(Vn.num hm).sz.le (w':=1000) (d':=10) (by decide) (by decide)
  unfold fQ
  cases sw<;>by_cases h:x=0<;>simp[h,v0,vm]
 ·unfold fQ
  cases sw<;>by_cases h:x=0<;>simp only[h,kB,kC,if_true,if_false,Bool.false_eq_true]<;>first|exact .num|exact .name lk
end
section
variable {P:Program}{w:World}{K:PySem.W.Frag}{mg:Str->Option Value}{base:Heap}{C:Addr}
variable {gT gU gG gN gR gW gA:Addr}{tfd ufd gfd nfd rfd wfd afd:FuncData}
theorem bJ:Nm ["_law_feed_here","_law_state","_law_term","_law_a","_law_b","_law_c","_law_goal"] (af j3):=by decide +kernel
theorem oG:Lm ["_law_feed_here","_law_state","_law_term","_law_a","_law_b","_law_c","_law_goal"] (af j3):=by decide +kernel
theorem jN:aM ["_law_feed_here","_law_state","_law_term","_law_a","_law_b","_law_c","_law_goal"] ["_law_feed_here","_law_state"] (af j3):=⟨rfl,rfl,rfl,by decide +kernel,rfl,by decide +kernel,by decide +kernel⟩
theorem Ci{f:Addr}{cdv:Value}{A:Around}{outer:List PySem.Env}{s:Shared}{H0:Hp}{E:XK}(WR:bG P w K mg base "_law_written" 1 ["_law_state","_law_row_here"] (lJ K) gW wfd)(z_int:mg "int"=none)(hr:cT 5 (A.deeper (PyProof.Rows.envOfC "_law_if" (af j3) s.heap.objs.size f cdv)))
  {D:L2.Ends}{H:Hp}{f2 d ln lr:Addr}{xs:List Str}{n:Nat}{tn:Int}{env:Env}{R R2:List T}{a0 a1 a2:T}{kt:Tm}{t:T}{m:Int}{sw:Bool}{ua ut ub uc:V}{x6:Option V}(hs:Ask K H f2 d ln lr xs n tn env R2 a0 a1 a2) (hR:R.length+8<=50) (hm:Nb m) (g:Gn Vn 1 1 1 env R kt t R2) (ra:Rp K H t ua) (rt:Rp K H (enc kt) ut) (rb:Rp K H (enc (kB (wf xs) sw m)) ub) (rc:Rp K H (enc (kC (wf xs) sw m)) uc)
  (k:∀(H':Hp) (p:Addr) (vt vo:V) (o:Option T) (c:Nat) (R':List T),Cg f2 d lr H H'->jJ K H' f2 d ln lr xs n tn env R'->Dn (wf xs) env R (Gb (wf xs) sw kt m) o c R'->H' p=some (.tup [vt,vo,.int c])->Rp K H' (enc (Gb (wf xs) sw kt m)) vt->nY K H' o vo->D.rt (.ref p) H') :
  kh (ji dX P w K mg base ["_law_feed_here","_law_state","_law_term","_law_a","_law_b","_law_c","_law_goal"] "_law_if" (af j3) f cdv A outer s H0 E).tX ((bz j3).drop 3) D [some (.ref f2),some (.ref d),some ut,some ua,some ub,some uc,x6] H:=by
 refine gb ((Z4 (Zh (Zn gQ (Z3 ay (va bJ 3)) aq) (Zd (Zm (Z6 (Z1 (Z6 (Z1 aq (Z1 (va bJ 2) (Z1 (va bJ 4) (Zb (va bJ 5)))))) (Z1 (Z0 WR (Z1 (va bJ 1) (Z1 (Z6 (Z1 aq (Z1 (va bJ 3) (Z1 (va bJ 4) (Z1 (va bJ 5) (Z1 (Zj (va bJ 1)) aj)))))) aj))) (Zb ak))))))) (Z4 (Z2 jN.nd oG 6 (Zc aA (@b8 _ _ _ _ (Z1 (va bJ 5) (Zb (va bJ 4)))) (Z9 iq z_int PyProof.Rows.boot_int (Z1 (@gZ _ _ _ _ _ _ _ _ D9 (Z3 ay (va bJ 3)) ak (cV _)) aj)))) (Z4 (Zh (Zn gQ (Z3 ay (va bJ 6)) aq) (Zd (Z2 jN.nd oG 6 (Zc ay (Zc ay (Zj (va bJ 1)) ak) ak)))) (Zd (Zm (Z6 (Z1 (Z6 (Z1 aq (Z1 (va bJ 2) (Z1 (va bJ 4) (Zb (va bJ 5)))))) (cE (va bJ 6) (Zb ak)))))))))) ?_
 try dsimp only[bY]
 have l2:=g.len
 have mt:∀{H1:Hp}{q:Addr},H1 q=none->br H H1->Rp K (upd H1 q (.tup [.str "if",ut,ub,uc])) (enc (Gb (wf xs) sw kt m)) (.ref q):=fun{H1 q} hq sm=>by
  unfold Gb
  rw[Bv]
  exact Rp.new (K:=K) hq (.cons .s (.cons (rt.same sm) (.cons (rb.same sm) (.one (rc.same sm)))))
 rcases g.v.cases' ra with⟨x,a,hx,rfl,rfl,sq1⟩|⟨i,a,rfl,rfl,sq1⟩
 ·fail "R"
  intro q1 hq1
  have e1:upd H q1 (.lst [uc,ub]) q1=some (.lst [uc,ub]):=ah
  have s1:=ae hq1 (.lst [uc,ub])
  have sq2:=sq1.kt (Kt.same s1)
  generalize upd H q1 (.lst [uc,ub])=H1 at s1 e1 sq2⊢
  fail "R"
  refine .inr ⟨_,rfl,?_⟩
  have st1:=hs.st.same s1
  obtain⟨_,_,_,_,av,ga,rav⟩:=st1.g
  obtain⟨a',q',us',v0,rfl,sqA,eA,sqB,rv0⟩:=tM (i:=0) (p:=(wf xs 5,a0)) rav (by rw[hs.e.e];rfl)
  have iA:fR us' 0=some (.ref q'):=aN (j:=0) eA
  by_cases hx0:x=0
  ·have ix:fR [uc,ub] (if(!decide (V.int x=V.int 0))=true then 1 else 0)=some uc:=by
    rw[decide_eq_true (by rw[hx0]),if_neg (by decide)];exact aN (j:=0) rfl
   cases sw with
   |true =>
    have gE:fQ true x m a0=aZ m:=by unfold fQ;rw[if_pos hx0,if_pos rfl]
    obtain⟨pg,_,_,e0,sqg,rg0,_⟩:=(show Rp K H1 (.t [.s "num",.i m]) uc from(by have:=rc.same s1;unfold kC at this;rw[if_pos rfl]at this;rw[e_num]at this;exact this)).t2
    have rg:Rp K H1 (aZ m) uc:=(by have:=rc.same s1;unfold kC at this;rw[if_pos rfl]at this;rw[e_num]at this;exact this)
    subst e0
    obtain rfl:=rg0.aD
    fail "R"
    intro q5 hq5
    have s5:=s1.trans (ae hq5 (.tup [.str "if",ut,ub,.ref pg]))
    have r5:=mt hq5 s1
    fail "R"
    intro q6 hq6
    have sF:=s5.trans (ae hq6 (.tup [.ref q5,.ref pg,.int 1]))
    exact k _ q6 (.ref q5) (.ref pg) (some (fQ true x m a0)) 1 R2 (Cg.same sF) (hs.st.same sF) (yE hs.w hs.e hm g) ah (r5.same (ae hq6 _)) (by show Rp K _ (fQ true x m a0) _;rw[gE];exact rg.same ((ae hq5 _).trans (ae hq6 _)))
   |false =>
    have gE:fQ false x m a0=a0:=by unfold fQ;rw[if_pos hx0,if_neg (by decide)]
    obtain⟨pg,_,_,e0,sqg,rg0,_⟩:=(show Rp K H1 (.t [.s "name",.s (wf xs 5)]) uc from(by have:=rc.same s1;unfold kC at this;rw[if_neg (by decide)]at this;rw[eU]at this;exact this)).t2
    subst e0
    obtain rfl:=rg0.aD
    fail "R"
    intro q5 hq5
    have s5:=s1.trans (ae hq5 (.tup [.str "if",ut,ub,.ref pg]))
    have r5:=mt hq5 s1
    fail "R"
    intro q6 hq6
    have sF:=s5.trans (ae hq6 (.tup [.ref q5,v0,.int 1]))
    exact k _ q6 (.ref q5) v0 (some (fQ false x m a0)) 1 R2 (Cg.same sF) (hs.st.same sF) (yE hs.w hs.e hm g) ah (r5.same (ae hq6 _)) (by show Rp K _ (fQ false x m a0) v0;rw[gE];exact rv0.same ((ae hq5 _).trans (ae hq6 _)))
  ·have ix:fR [uc,ub] (if(!decide (V.int x=V.int 0))=true then 1 else 0)=some ub:=by
    rw[decide_eq_false (fun z=>hx0 (by injection z)),if_pos (by decide)];exact aN (j:=1) rfl
   cases sw with
   |true =>
    have gE:fQ true x m a0=a0:=by unfold fQ;rw[if_neg hx0,if_pos rfl]
    obtain⟨pg,_,_,e0,sqg,rg0,_⟩:=(show Rp K H1 (.t [.s "name",.s (wf xs 5)]) ub from(by have:=rb.same s1;unfold kB at this;rw[if_pos rfl]at this;rw[eU]at this;exact this)).t2
    subst e0
    obtain rfl:=rg0.aD
    fail "R"
    intro q5 hq5
    have s5:=s1.trans (ae hq5 (.tup [.str "if",ut,.ref pg,uc]))
    have r5:=mt hq5 s1
    fail "R"
    intro q6 hq6
    have sF:=s5.trans (ae hq6 (.tup [.ref q5,v0,.int 1]))
    exact k _ q6 (.ref q5) v0 (some (fQ true x m a0)) 1 R2 (Cg.same sF) (hs.st.same sF) (yE hs.w hs.e hm g) ah (r5.same (ae hq6 _)) (by show Rp K _ (fQ true x m a0) v0;rw[gE];exact rv0.same ((ae hq5 _).trans (ae hq6 _)))
   |false =>
    have gE:fQ false x m a0=aZ m:=by unfold fQ;rw[if_neg hx0,if_neg (by decide)]
    obtain⟨pg,_,_,e0,sqg,rg0,_⟩:=(show Rp K H1 (.t [.s "num",.i m]) ub from(by have:=rb.same s1;unfold kB at this;rw[if_neg (by decide)]at this;rw[e_num]at this;exact this)).t2
    have rg:Rp K H1 (aZ m) ub:=(by have:=rb.same s1;unfold kB at this;rw[if_neg (by decide)]at this;rw[e_num]at this;exact this)
    subst e0
    obtain rfl:=rg0.aD
    fail "R"
    intro q5 hq5
    have s5:=s1.trans (ae hq5 (.tup [.str "if",ut,.ref pg,uc]))
    have r5:=mt hq5 s1
    fail "R"
    intro q6 hq6
    have sF:=s5.trans (ae hq6 (.tup [.ref q5,.ref pg,.int 1]))
    exact k _ q6 (.ref q5) (.ref pg) (some (fQ false x m a0)) 1 R2 (Cg.same sF) (hs.st.same sF) (yE hs.w hs.e hm g) ah (r5.same (ae hq6 _)) (by show Rp K _ (fQ false x m a0) _;rw[gE];exact rg.same ((ae hq5 _).trans (ae hq6 _)))
 ·fail "R"
  intro q1 hq1
  have s1:=ae hq1 (.tup [.str "if",ut,ub,uc])
  have r1:=mt hq1 (br.refl _)
  have st1:=hs.st.same s1
  obtain⟨_,_,_,_,av,ga,rav⟩:=st1.g
  have ra1:=ra.same s1
  have rb1:=rb.same s1
  have rc1:=rc.same s1
  generalize upd H q1 (.tup [.str "if",ut,ub,uc])=H1 at s1 r1 st1 ga rav ra1 rb1 rc1⊢
  fail "R"
  intro q2 hq2
  have s2:=ae hq2 (.tup [.str "if",.ref a,ub,uc,av])
  have r2:Rp K (upd H1 q2 (.tup [.str "if",.ref a,ub,uc,av])) (vE (wf xs) sw (aG i) m env) (.ref q2):=Rp.new (K:=K) hq2 (.cons .s (.cons ra1 (.cons rb1 (.cons rc1 (.one rav)))))
  have st2:=st1.same s2
  have r1':=r1.same s2
  generalize upd H1 q2 (.tup [.str "if",.ref a,ub,uc,av])=H2 at s2 r2 st2 r1' ⊢
  have b1:R2.length<=100:=by omega
  fail "R"
  intro H3 u c3 st3 r3
  have r13:=r1'.kt (st2.kt c3)
  fail "R"
  intro q4 hq4
  have s4:=ae hq4 (.tup [.ref q1,u,.int 0])
  exact k _ q4 (.ref q1) u (some (aG R2.length)) 0 (R2++[vE (wf xs) sw (aG i) m env]) ((Cg.same (s1.trans s2)).trans (c3.trans (Cg.same s4))) (st3.same s4) (Gd hs.w hs.e hm g (by omega) ⟨i,rfl⟩) ah (r13.same s4) (r3.same s4)
end
section
variable {P:Program}{w:World}{K:PySem.W.Frag}{mg:Str->Option Value}{base:Heap}{C:Addr}
variable {gT gU gG gN gR gW gA:Addr}{tfd ufd gfd nfd rfd wfd afd:FuncData}
theorem HV{f:Addr}{fd:FuncData}(F:gJ K "_law_if" "_law_if" j3 f fd)(TK:bG P w K mg base "_law_take" 1 ["_law_feed_here","_law_many"] dJ gT tfd)(NU:bG P w K mg base "_law_number" 2 ["_law_feed_here"] jw gU ufd)(LN:bG P w K mg base "_law_num" 3 ["_law_feed_here","_law_state"] (cG (fun _=>Vn) 1 1 1 K) gN nfd)(WR:bG P w K mg base "_law_written" 1 ["_law_state","_law_row_here"] (lJ K) gW wfd)(z_int:mg "int"=none):bF P w K mg base dX 6 f fd ["_law_feed_here","_law_state"] (eM K (·=[])):=by
 refine F.ok jN (fun vs H Q E h=>?_) (fun cdv A outer s H vs Q E hr h=>?_)
 ·obtain⟨_,_,_,_,_,_,_,_,_,_,_,_,_,rfl,rfl,_⟩:=h
  rfl
 obtain⟨f2,d,ln,lr,xs,n,tn,env,R,a0,a1,a2,_,rfl,rfl,hs,hn,hR,k⟩:=h
 refine⟨_,(Z4 (Zi (Z0 LN (Z1 (va bJ 0) (Zb (va bJ 1)))) (Zf (2) (Ze (ga jN.nd oG 2) (aQ (ga jN.nd oG 3) bh)))) (Z4 (@kY _ _ (4) (5) _ _ _ _ _ _ _ _ _ _ _ rfl jN.nd rfl rfl (by decide) rfl rfl (Z1 (Z6 (Z1 aq (Z1 (Z0 NU (Zb (va bJ 0))) aj))) (Z1 (Z6 (Z1 aq (Z1 (Zc ay (Zc ay (Zj (va bJ 1)) ak) ak) aj))) aj)) (by rfl) (by rfl)) (Z4 (Zh (Zn gQ (Z0 TK (cE (va bJ 0) (Zb ak))) ak) (Zd (@kY _ _ (4) (5) _ _ _ _ _ _ _ _ _ _ _ rfl jN.nd rfl rfl (by decide) rfl rfl (Z1 (va bJ 5) (Zb (va bJ 4))) (by rfl) (by rfl)))) eR))),?_⟩
 try dsimp only[bY]
 have b1:n+1<=12:=by omega
 have b2:R.length+1<=60:=by omega
 fail "R"
 intro H2 v2 kt t R2 n2 c2 hs2 hn2 g r2
 obtain⟨pb,ut,ua,rfl,sqb,rt,ra⟩:=r2.t2
 have hf2:=hs2.st.hf
 refine kU sqb ?_
 fail "R"
 intro m H3 m0 m1 x3
 have hs3:Ask K H3 f2 d ln lr xs n2 tn env R2 a0 a1 a2:={hs2 with st:=hs2.st.ext x3}
 have rt3:=rt.kt (x3.kt hf2)
 have ra3:=ra.kt (x3.kt hf2)
 fail "R"
 intro p1 hp1
 have s4:=ae hp1 (.tup [.str "num",.int m])
 have r4:Rp K (upd H3 p1 (.tup [.str "num",.int m])) (enc (num m)) (.ref p1):=by rw[e_num];exact Rp.new (K:=K) hp1 (.cons .s (.one .i))
 have hs4:Ask K (upd H3 p1 (.tup [.str "num",.int m])) f2 d ln lr xs n2 tn env R2 a0 a1 a2:={hs3 with st:=hs3.st.same s4}
 have rt4:=rt3.same s4
 have ra4:=ra3.same s4
 have c4:Cg f2 d lr H (upd H3 p1 (.tup [.str "num",.int m])):=c2.trans ((Cg.ext x3).trans (Cg.same s4))
 generalize upd H3 p1 (.tup [.str "num",.int m])=H4 at s4 r4 hs4 rt4 ra4 c4⊢
 obtain⟨_,_,_,_,av,ga,rav⟩:=hs4.st.g
 obtain⟨a',q',us',v0,rfl,sqA,eA,sqB,rv0⟩:=tM (i:=0) (p:=(wf xs 5,a0)) rav (by rw[hs.e.e];rfl)
 have iA:fR us' 0=some (.ref q'):=aN (j:=0) eA
 fail "R"
 intro p2 hp2
 have s5:=ae hp2 (.tup [.str "name",.str (wf xs 5)])
 have r5:Rp K (upd H4 p2 (.tup [.str "name",.str (wf xs 5)])) (enc (name (wf xs 5))) (.ref p2):=by rw[eU];exact Rp.new (K:=K) hp2 (.cons .s (.one .s))
 have r45:=r4.same s5
 have hs5:Ask K (upd H4 p2 (.tup [.str "name",.str (wf xs 5)])) f2 d ln lr xs n2 tn env R2 a0 a1 a2:={hs4 with st:=hs4.st.same s5}
 have rt5:=rt4.same s5
 have ra5:=ra4.same s5
 have c5:=c4.trans (Cg.same s5)
 generalize upd H4 p2 (.tup [.str "name",.str (wf xs 5)])=H5 at s5 r5 r45 hs5 rt5 ra5 c5⊢
 clear hs4 rt4 ra4 c4 rt3 ra3 hs3 r4 sqb r2 sqA sqB rav ga rv0 eA iA hp1 hp2 s4 s5 x3 hf2 rt ra hs2
 have hf5:=hs5.st.hf
 fail "R"
 intro y H6 y0 y2 x6
 have kt6:=x6.kt hf5
 have hs6:Ask K H6 f2 d ln lr xs n2 tn env R2 a0 a1 a2:={hs5 with st:=hs5.st.ext x6}
 have rt6:=rt5.kt kt6
 have ra6:=ra5.kt kt6
 have rn6:=r5.kt kt6
 have rm6:=r45.kt kt6
 have c6:=c5.trans (Cg.ext x6)
 fail "R"
 refine bX (fun c=>?_) (fun c=>?_)
 ·clear c
  fail "R"
  (try refine Cut.go (by assumption) ?_);exact Ci (sw:=true) WR z_int hr hs6 hR ⟨m0,m1⟩ g ra6 rt6 rn6 rm6 fun H' p vt vo o c R' cg st=>k H' p vt vo _ o c R' n2 env (c6.trans cg) st
 ·clear c
  fail "R"
  (try refine Cut.go (by assumption) ?_);exact Ci (sw:=false) WR z_int hr hs6 hR ⟨m0,m1⟩ g ra6 rt6 rm6 rn6 fun H' p vt vo o c R' cg st=>k H' p vt vo _ o c R' n2 env (c6.trans cg) st
end
theorem Cj{K:PySem.W.Frag}{H:Hp}{ts:List T}{us:List V}{u:V}(h:bB K H ts (us++[u])):∃ts' t,ts=ts'++[t]/\Rp K H t u:=by
 rcases List.eq_nil_or_concat ts with rfl|⟨ts',t,rfl⟩
 ·have:=h.cZ;simp at this
 ·have l:=h.length
  simp only[List.length_append,List.length_cons,List.length_nil,List.concat_eq_append]at l
  obtain⟨v,e,r⟩:=h.get (i:=ts'.length) (x:=t) (by simp)
  have e2:ts'.length=us.length:=by omega
  rw[e2,List.getElem?_append_right (Nat.le_refl _)]at e
  simp at e
  exact⟨ts',t,by simp,by rw[e];exact r⟩
noncomputable def fZ(x y:Str)(sw:Bool):Str:=if sw then x else y
noncomputable def foldM(x y:Str)(sw:Bool)(k1 k2:Tm):Tm:=.mk (.fold x y) [k1,k2,name (fZ x y sw)]
noncomputable def mR(x y:Str)(sw:Bool)(t1 t2:T)(env:Env):T:=fO t1 x y t2 (enc (name (fZ x y sw))) (dh env)
noncomputable def Ge(sw:Bool):List T->T->T
 | [],t=>t
 |u::us,t=>Ge sw us (if sw then u else t)
theorem HW:∀(ts:List T) (t:T),Ge false ts t=t
 | [],_=>rfl
 |_::us,t=>HW us t
theorem HX:∀(ts:List T) (u t:T),Ge true (ts++[u]) t=u
 | [],_,_=>rfl
 |_::us,u,_=>HX us u _
theorem HY{sw:Bool}:∀{ts:List T}{t:T},(∀u∈ts,Vn u)->Vn t->Vn (Ge sw ts t)
 | [],_,_,h=>h
 |u::us,t,h,g=>HY (ts:=us) (fun x hx=>h x (.tail _ hx)) (by cases sw;exact g;exact h u (.head _))
theorem Gf{env:Env}{x y:Str}{t u:T}(h:x≠y):qh (b9 env [x,y] [t,u]) y=some u:=by
 unfold b9
 rw[ow]
 simp[qh]
theorem vF{D:gH}{h:Nat}{x y:Str}{sw:Bool}{env:Env}(hxy:x≠y):∀(ts:List T) (t:T) (s:Sm),Bp (Bs D (h+1)) (name (fZ x y sw)) x y env ts t s (.ok (Ge sw ts t) ⟨s.rows,s.many+ts.length⟩)
 | [],t,s=>.done
 |u::us,t,s=>by
  have e:s.many+(u::us).length=s.up.many+us.length:=by simp[Sm.up];omega
  rw[e]
  exact .more (t1:=if sw then u else t) (.name (by cases sw;exact Gf hxy;exact xw hxy)) (vF hxy us _ s.up)
section
variable {wn:Nat->Str}{env:Env}{R R1 R2:List T}{k1 k2:Tm}{t1 t2:T}{x y:Str}{sw:Bool}{a0 a1 a2:T}
theorem DM(hx:cP x)(hy:cP y)(h1:Sz 300 3 t1)(h2:Sz 50 1 t2)(ha:Sz 1200 8 (dh env)):Sz 3000 12 (mR x y sw t1 t2 env):=by
 obtain⟨q1,q2⟩:=zP "fold" (by decide +kernel)
 have c:=tR (k:=name (fZ x y sw)) (jR (hd:=.name (fZ x y sw)) rfl (by cases sw;exact hy;exact hx))
 have:=h1.w;have:=h1.d;have:=c.w;have:=c.d;have:=h2.w;have:=h2.d;have:=ha.w;have:=ha.d;have:=hx.1;have:=hy.1
 exact⟨⟨q1,h1.ok,hx.2,hy.2,h2.ok,c.ok,ha.ok,trivial⟩,by simp only[mR,fO,tW,gX];omega,by fail "D"⟩
theorem rL(hx:cP x)(hy:cP y)(g1:Gn Vr 3 4 2 env R k1 t1 R1)(g2:Gn Vn 1 1 1 env R1 k2 t2 R2):bU 7 (foldM x y sw k1 k2) :=
 yq (hd:=.fold x y) rfl ⟨hx,hy⟩ g1.nice g2.nice (jR (hd:=.name (fZ x y sw)) rfl (by cases sw;exact hy;exact hx))
theorem Ck(hw:WN wn)(he:E3 wn env a0 a1 a2)(hx:cP x)(hy:cP y)(g1:Gn Vr 3 4 2 env R k1 t1 R1)(g2:Gn Vn 1 1 1 env R1 k2 t2 R2)(hR:R.length<=60)(hl:∃i,t1=aG i):Dn wn env R (foldM x y sw k1 k2) (some (aG R2.length)) 0 (R2++[mR x y sw t1 t2 env]):=by
 have l1:=g1.len;have l2:=g2.len
 have N:=rL (sw:=sw) hx hy g1 g2
 refine⟨N.le (by decide),fun t' z=>?_,fun z=>(by cases z),by decide,by rw[List.length_append];simp;omega,fun b=>(g2.rb (g1.rb b)).snoc ((DM hx hy g1.v.sz g2.v.sz (he.ar hw.ok)).le (by decide) (by decide))⟩
 injection z with z
 subst z
 obtain⟨i,rfl⟩:=hl
 exact⟨(Vn.left (k:=R2.length) (by omega)).sz.le (by decide) (by decide),fun D _=>Cy (h:=7) (BI N (by decide)) tF ((g1.ev D 0).le (by decide)) ((g2.ev D 0).le (by decide)) .foldL⟩
theorem DN{ts:List T}(he:E3 wn env a0 a1 a2)(hx:cP x)(hy:cP y)(hxy:x≠y)(g1:Gn Vr 3 4 2 env R k1 (bD ts) R1)(g2:Gn Vn 1 1 1 env R1 k2 t2 R2)(hl:ts.length<=4)(hv:∀t∈ts,Vn t):Dn wn env R (foldM x y sw k1 k2) (some (Ge sw ts t2)) ts.length R2:=by
 have l1:=g1.len;have l2:=g2.len
 have N:=rL (sw:=sw) hx hy g1 g2
 refine⟨N.le (by decide),fun t' z=>?_,fun z=>(by cases z),by omega,by omega,fun b=>g2.rb (g1.rb b)⟩
 injection z with z
 subst z
 refine⟨(HY hv g2.v).sz.le (by decide) (by decide),fun D _=>Cy (h:=7) (BI N (by decide)) tF ((g1.ev D 0).le (by decide)) ((g2.ev D 0).le (by decide)) (.fold (by omega) (by rw[he.e];exact(show 3<=900 by decide)) ?_)⟩
 have:=vF (D:=D) (h:=6) (sw:=sw) (env:=env) hxy ts t2 ⟨R2,0⟩
 simp only[Nat.zero_add]at this
 exact this
end
section
variable {P:Program}{w:World}{K:PySem.W.Frag}{mg:Str->Option Value}{base:Heap}{C:Addr}
variable {gT gU gG gN gR gW gA:Addr}{tfd ufd gfd nfd rfd wfd afd:FuncData}
theorem aK:Nm ["_law_feed_here","_law_state","_law_w","_law_rows","_law_a","_law_begin","_law_begun","_law_x","_law_y","_law_c","_law_term","_law_come"] (af gx):=by decide +kernel
theorem cY:Lm ["_law_feed_here","_law_state","_law_w","_law_rows","_law_a","_law_begin","_law_begun","_law_x","_law_y","_law_c","_law_term","_law_come"] (af gx):=by decide +kernel
theorem cI:aM ["_law_feed_here","_law_state","_law_w","_law_rows","_law_a","_law_begin","_law_begun","_law_x","_law_y","_law_c","_law_term","_law_come"] ["_law_feed_here","_law_state"] (af gx):=⟨rfl,rfl,rfl,by decide +kernel,rfl,by decide +kernel,by decide +kernel⟩
theorem Cm{f:Addr}{cdv:Value}{A:Around}{outer:List PySem.Env}{s:Shared}{H0:Hp}{E:XK}(WR:bG P w K mg base "_law_written" 1 ["_law_state","_law_row_here"] (lJ K) gW wfd)(z_len:mg "len"=none)(hr:cT 5 (A.deeper (PyProof.Rows.envOfC "_law_fold" (af gx) s.heap.objs.size f cdv)))
  {D:L2.Ends}{H:Hp}{f2 d ln lr:Addr}{xs:List Str}{n:Nat}{tn:Int}{env:Env}{R R1 R2:List T}{a0 a1 a2:T}{k1 k2:Tm}{t1 t2:T}{x y:Str}{sw:Bool}{u1 u2 ua ub uc ut:V}{x6:Option V}(hs:Ask K H f2 d ln lr xs n tn env R2 a0 a1 a2) (hR:R.length+8<=50) (hx:cP x) (hy:cP y) (hxy:x≠y) (g1:Gn Vr 3 4 2 env R k1 t1 R1) (g2:Gn Vn 1 1 1 env R1 k2 t2 R2) (ra:Rp K H t1 ua) (rb:Rp K H t2 ub) (rc:Rp K H (enc (name (fZ x y sw))) uc) (rt:Rp K H (enc (foldM x y sw k1 k2)) ut)
  (k:∀(H':Hp) (p:Addr) (vt vo:V) (o:Option T) (c:Nat) (R':List T),Cg f2 d lr H H'->jJ K H' f2 d ln lr xs n tn env R'->Dn (wf xs) env R (foldM x y sw k1 k2) o c R'->H' p=some (.tup [vt,vo,.int c])->Rp K H' (enc (foldM x y sw k1 k2)) vt->nY K H' o vo->D.rt (.ref p) H') :
  kh (ji dX P w K mg base ["_law_feed_here","_law_state","_law_w","_law_rows","_law_a","_law_begin","_law_begun","_law_x","_law_y","_law_c","_law_term","_law_come"] "_law_fold" (af gx) f cdv A outer s H0 E).tX ((bz gx).drop 6) D [some (.ref f2),some (.ref d),some (.ref ln),some u1,some ua,some u2,some ub,some (.str x),some (.str y),some uc,some ut,x6] H:=by
 refine gb ((Z4 (Zh (Zn gQ (Z3 ay (va aK 4)) aq) (Zd (Zm (Z6 (Z1 (va aK 10) (Z1 (Z0 WR (Z1 (va aK 1) (Z1 (Z6 (Z1 aq (Z1 (va aK 4) (Z1 (va aK 7) (Z1 (va aK 8) (Z1 (va aK 6) (Z1 (va aK 9) (Z1 (Zj (va aK 1)) aj)))))))) aj))) (Zb ak))))))) (Z4 (sa cI.nd cY 11 (va aK 6)) (Z4 (Zh (PW.pt (@jx _ _ _ _ _ _ _ (Zn ug (Zg bC (Z1 (Z3 ay (va aK 4)) aj)) ak) (@iN _ _ _ _ (Zn gQ (Z3 ay (va aK 9)) (va aK 7))))) (Zd (Z2 cI.nd cY 11 (Zc ay (Z3 ay (va aK 4)) (oK kZ ak))))) (Zd (Zm (Z6 (Z1 (va aK 10) (Z1 (va aK 11) (Z1 (Zg bC (Z1 (Z3 ay (va aK 4)) aj)) aj)))))))))) ?_
 try dsimp only[bY]
 have l1:=g1.len;have l2:=g2.len
 obtain⟨_,_,_,_,av,ga,rav⟩:=hs.st.g
 rcases g1.v.head ra with⟨i,a,us,rfl,rfl,sq1⟩|⟨ts,a,q,us,hl,hvs,rfl,rfl,sq1,sq2,rs⟩
 ·have ia:fR (V.str "left"::us) 0=some (.str "left"):=aN (j:=0) rfl
  fail "R"
  intro q2 hq2
  have s2:=ae hq2 (.tup [.str "fold",.ref a,.str x,.str y,ub,uc,av])
  have r2:Rp K (upd H q2 (.tup [.str "fold",.ref a,.str x,.str y,ub,uc,av])) (mR x y sw (aG i) t2 env) (.ref q2):=Rp.new (K:=K) hq2 (.cons .s (.cons ra (.cons .s (.cons .s (.cons rb (.cons rc (.one rav)))))))
  have st2:=hs.st.same s2
  have r1':=rt.same s2
  generalize upd H q2 (.tup [.str "fold",.ref a,.str x,.str y,ub,uc,av])=H2 at s2 r2 st2 r1' ⊢
  have b1:R2.length<=100:=by omega
  fail "R"
  intro H3 u c3 st3 r3
  have r13:=r1'.kt (st2.kt c3)
  fail "R"
  intro q4 hq4
  have s4:=ae hq4 (.tup [ut,u,.int 0])
  exact k _ q4 ut u (some (aG R2.length)) 0 (R2++[mR x y sw (aG i) t2 env]) ((Cg.same s2).trans (c3.trans (Cg.same s4))) (st3.same s4) (Ck hs.w hs.e hx hy g1 g2 (by omega) ⟨i,rfl⟩) ah (r13.same s4) (r3.same s4)
 ·have ls:=rs.length
  have lz:us.length<=sizeLine:=small (by omega)
  have hq':cR K H q us\/bT K H q us:=.inr sq2
  have dn:=DN (wn:=wf xs) (sw:=sw) hs.e hx hy hxy g1 g2 hl hvs
  obtain⟨pc,v0,v1,rfl,sqc,rc0,rc1⟩:=(show Rp K H (.t [.s "name",.s (fZ x y sw)]) uc from(by rw[eU]at rc;exact rc)).t2
  obtain rfl:=rc1.aD
  have fin:∀(vo:V),Rp K H (Ge sw ts t2) vo->∀q6,H q6=none->D.rt (.ref q6) (upd H q6 (.tup [ut,vo,.int (us.length:Int)])):=fun vo ro q6 hq6=>by
   have sF:=ae hq6 (.tup [ut,vo,.int (us.length:Int)])
   exact k _ q6 ut vo _ ts.length R2 (Cg.same sF) (hs.st.same sF) dn (by rw[ls];exact ah) (rt.same sF) (ro.same sF)
  rcases List.eq_nil_or_concat us with e0|⟨us',ul,e0⟩
  ·obtain rfl:ts=[]:=List.length_eq_zero_iff.mp (by rw[e0]at ls;simpa using ls.symm)
   fail "R"
   refine bX (fun c=>?_) (fun _=>?_)
   ·rw[e0]at c;simp at c
   fail "R"
   exact fin _ rb
  ·rw[List.concat_eq_append]at e0
   obtain⟨ts',tl,rfl,rl⟩:=Cj (by rw[e0]at rs;exact rs)
   have il:fR us (-1)=some ul:=by rw[e0];exact uu us' ul
   cases sw with
   |true =>
    have ez:fZ x y true=x:=rfl
    rw[ez]at sqc
    fail "R"
    refine bX (fun _=>?_) (fun c=>?_)
    ·fail "R"
     refine bX (fun _=>?_) (fun c=>absurd (by simp) c)
     fail "R"
     exact fin _ (by rw[HX];exact rl)
    ·rw[e0]at c;simp at c
   |false =>
    have ez:fZ x y false=y:=rfl
    rw[ez]at sqc
    fail "R"
    refine bX (fun _=>?_) (fun c=>?_)
    ·fail "R"
     refine bX (fun c=>?_) (fun _=>?_)
     ·exact absurd (by have:=of_decide_eq_true c;injection this with h;exact h.symm) hxy
     fail "R"
     exact fin _ (by rw[HW];exact rb)
    ·rw[e0]at c;simp at c
end
theorem DO{K:PySem.W.Frag}{f:Addr}{σ:L2.St}{H:Hp}{te:TE}{i j:Nat}{P:T->Prop}{D:L2.Ends}(hf:bQ H f)(h:qy K f te σ H P)(k:∀H2 v tr,Ext f H H2->P tr->Rp K H2 tr v->uf K 2 (iB (dW i) (iB (dW j) vJ)) v σ H2 D.nx):nK te (uf K 2 (iB (dW i) (iB (dW j) vJ))) D σ H:=h H _ (Ext.refl hf) k
section
variable {P:Program}{w:World}{K:PySem.W.Frag}{mg:Str->Option Value}{base:Heap}{C:Addr}
variable {gT gU gG gN gR gW gA:Addr}{tfd ufd gfd nfd rfd wfd afd:FuncData}
theorem DP{f:Addr}{fd:FuncData}(F:gJ K "_law_fold" "_law_fold" gx f fd)(TK:bG P w K mg base "_law_take" 1 ["_law_feed_here","_law_many"] dJ gT tfd)(LN:bG P w K mg base "_law_num" 3 ["_law_feed_here","_law_state"] (cG (fun _=>Vn) 1 1 1 K) gN nfd)(LR:bG P w K mg base "_law_row" 4 ["_law_feed_here","_law_state"] (cG (fun _=>Vr) 3 4 2 K) gR rfd)(WR:bG P w K mg base "_law_written" 1 ["_law_state","_law_row_here"] (lJ K) gW wfd)(z_len:mg "len"=none):bF P w K mg base dX 6 f fd ["_law_feed_here","_law_state"] (eM K (·=[])):=by
 refine F.ok cI (fun vs H Q E h=>?_) (fun cdv A outer s H vs Q E hr h=>?_)
 ·obtain⟨_,_,_,_,_,_,_,_,_,_,_,_,_,rfl,rfl,_⟩:=h
  rfl
 obtain⟨f2,d,ln,lr,xs,n,tn,env,R,a0,a1,a2,_,rfl,rfl,hs,hn,hR,k⟩:=h
 refine⟨_,(Z4 (Z2 cI.nd cY 2 (Zj (va aK 1))) (Z4 (Zi (Z0 LR (Z1 (va aK 0) (Zb (va aK 1)))) (Zf (2) (Ze (ga cI.nd cY 3) (aQ (ga cI.nd cY 4) bh)))) (Z4 (Zi (Z0 LN (Z1 (va aK 0) (Zb (va aK 1)))) (Zf (2) (Ze (ga cI.nd cY 5) (aQ (ga cI.nd cY 6) bh)))) (Z4 (Zi (Zc aA (@b8 _ _ _ _ (Z1 (Z6 (Z1 (Z3 aA (va aK 2)) (Z1 (Z3 aA (va aK 2)) aj))) (Z1 (Z6 (Z1 (Z3 aA (va aK 2)) (Z1 (Z3 aA (va aK 2)) aj))) (Z1 (Z6 (Z1 (Z3 aA (va aK 2)) (Z1 (Z3 aA (va aK 2)) aj))) aj)))) (Z0 TK (cE (va aK 0) (Zb ak)))) (Zf (2) (Ze (ga cI.nd cY 7) (aQ (ga cI.nd cY 8) bh)))) (Z4 (Z2 cI.nd cY 9 (Z6 (Z1 aq (Z1 (Zc aA (@b8 _ _ _ _ (Z1 (va aK 7) (Zb (va aK 8)))) (Z0 TK (cE (va aK 0) (Zb ak)))) aj)))) (Z4 (Z2 cI.nd cY 10 (Z6 (Z1 aq (Z1 (va aK 3) (Z1 (va aK 7) (Z1 (va aK 8) (Z1 (va aK 5) (Zb (va aK 9))))))))) eR)))))),?_⟩
 try dsimp only[bY]
 obtain⟨g1,_,_,_,_⟩:=hs.st.g
 have b1:n+3<=12:=by omega
 have b2:R.length+3<=60:=by omega
 fail "R"
 intro H2 v2 k1 t1 R1 n2 c2 hs2 hn2 g1 r2
 obtain⟨pb,ut,ua,rfl,sqb,rt,ra⟩:=r2.t2
 have l1:=g1.len
 have b3:n2+1<=12:=by omega
 have b4:R1.length+1<=60:=by omega
 refine kU sqb ?_
 fail "R"
 intro H3 v3 k2 t2 R2 n3 c3 hs3 hn3 g2 r3
 have kt3:=hs2.st.kt c3
 obtain⟨pc,ub,uc,rfl,sqc,rb,rc⟩:=r3.t2
 have rt3:=rt.kt kt3
 have ra3:=ra.kt kt3
 refine kU sqc ?_
 have lx:=hs.lx
 have hfF:=hs3.st.hf
 have hnF:=hs3.st.hn
 have cc:=c2.trans c3
 clear sqb sqc r2 r3 rt ra kt3 c2 c3 hs2
 (try refine Cut.go (by assumption) ?_);refine DO (K:=K) hfF (tL (P':=fun t=>∃i j:Nat,i<10/\j<10/\i≠j/\t=.t [.s (wf xs i),.s (wf xs j)]) (BW (ao (aV (ao (Zo (i:=3)) (ao (Zo (i:=4)) aL))) (ao (aV (ao (Zo (i:=6)) (ao (Zo (i:=5)) aL))) (ao (aV (ao (Zo (i:=4)) (ao (Zo (i:=6)) aL))) aL))) rfl) (by rintro _ (⟨_,⟨_,_,rfl,⟨_,_,rfl,rfl,rfl⟩,rfl⟩,rfl⟩|⟨_,⟨_,_,rfl,⟨_,_,rfl,rfl,rfl⟩,rfl⟩,rfl⟩|⟨_,⟨_,_,rfl,⟨_,_,rfl,rfl,rfl⟩,rfl⟩,rfl⟩)<;>exact⟨_,_,by decide,by decide,by decide,rfl⟩)) ?_;rintro H9 t9 q9 x9 p9 rt9
 obtain⟨i,j,hi,hj,hij,rfl⟩:=p9
 obtain⟨pd,w0,w1,rfl,sqd,rw0,rw1⟩:=rt9.t2
 obtain rfl:=rw0.aD
 obtain rfl:=rw1.aD
 refine kU sqd ?_
 have kt4:=x9.kt hfF
 have hs4:Ask K H9 f2 d ln lr xs n3 tn env R2 a0 a1 a2:={hs3 with st:=hs3.st.ext x9}
 have rt4:=rt3.kt kt4
 have ra4:=ra3.kt kt4
 have rb4:=rb.kt kt4
 have rc4:=rc.kt kt4
 have c4:=cc.trans (Cg.ext (d:=d) (lr:=lr) x9)
 have hfG:=hs4.st.hf
 have rx4:Rp K H9 (.s (wf xs i)) (.str (wf xs i)):=.s
 have ry4:Rp K H9 (.s (wf xs j)) (.str (wf xs j)):=.s
 generalize H9=H4 at kt4 hs4 rt4 ra4 rb4 rc4 c4 hfG rx4 ry4⊢
 clear x9 kt4 rt3 ra3 rb rc hfF hnF rt9 sqd hs3 cc rw0 rw1
 have hfF:=hfG
 have hx:=hs.w.ok i
 have hy:=hs.w.ok j
 have hxy:=hs.w.ne i j hi hj hij
 generalize wf xs i=x at hx hxy rx4⊢
 generalize wf xs j=y at hy hxy ry4⊢
 (try refine Cut.go (by assumption) ?_);refine jK (K:=K) hfF (tL (P':=fun t=>∃sw,t=.t [.s "name",.s (fZ x y sw)]) (aV (ao jf (ao (vp (ao (xA hfF rx4 rfl) (ao (xA hfF ry4 rfl) aL)) rfl) aL))) ?_) ?_
 ·rintro _ ⟨_,⟨_,_,rfl,⟨_,_,h|h,rfl,rfl⟩,rfl⟩,rfl⟩
  ·exact⟨true,by rw[h];rfl⟩
  ·exact⟨false,by rw[h];rfl⟩
 rintro H5 u5 _ x5 ⟨sw,rfl⟩ r5
 have kt5:=x5.kt hfF
 have hs5:Ask K H5 f2 d ln lr xs n3 tn env R2 a0 a1 a2:={hs4 with st:=hs4.st.ext x5}
 have rt5:=rt4.kt kt5
 have ra5:=ra4.kt kt5
 have rb5:=rb4.kt kt5
 have rc5:=rc4.kt kt5
 have c5:=c4.trans (Cg.ext (d:=d) (lr:=lr) x5)
 clear rt4 ra4 rb4 rc4 c4 hs4 hfF hfG rx4 ry4 kt5 x5
 fail "R"
 intro q6 hq6
 have s6:=ae hq6 (.tup [.str "fold",ut,.str x,.str y,ub,u5])
 have r6:Rp K (upd H5 q6 (.tup [.str "fold",ut,.str x,.str y,ub,u5])) (enc (foldM x y sw k1 k2)) (.ref q6):=by
  unfold foldM
  rw[tD,eU]
  exact Rp.new (K:=K) hq6 (.cons .s (.cons rt5 (.cons .s (.cons .s (.cons rb5 (.one r5))))))
 (try refine Cut.go (by assumption) ?_);exact Cm (R:=R) (sw:=sw) WR z_len hr {hs5 with st:=hs5.st.same s6} hR hx hy hxy g1 g2 (ra5.same s6) (rc5.same s6) (by rw[eU];exact r5.same s6) r6 fun H' p vt vo o c R' cg st=>k H' p vt vo _ o c R' n3 env (c5.trans ((Cg.same s6).trans cg)) st
end
theorem Jt{xs:List Str}(lx:xs.length=10){y:Int}(h0:0<=y)(h4:y<4):∃i:Nat,i<10/\fR (xs.map V.str) (3+y)=some (.str (wf xs i)):=by
 obtain⟨j,rfl⟩:=Int.eq_ofNat_of_zero_le h0
 refine⟨3+j,by omega,?_⟩
 have:=aN (xs:=xs.map V.str) (j:=3+j) (v:=.str (wf xs (3+j))) (by rw[List.getElem?_map,fk (by omega)];rfl)
 simpa using this
theorem JM(i:Int)(h0:0<=i)(h6:i<(6:Nat)):∃c,fR (Str.ofString "+-*:<=").cps.toList i=some c/\(⟨#[c]⟩:Str)∈qW:=by
 obtain⟨n,rfl⟩:=Int.eq_ofNat_of_zero_le h0
 have hn:n<6:=by omega
 match n,hn with
 |0,_=>exact⟨_,rfl,by decide +kernel⟩
 |1,_=>exact⟨_,rfl,by decide +kernel⟩
 |2,_=>exact⟨_,rfl,by decide +kernel⟩
 |3,_=>exact⟨_,rfl,by decide +kernel⟩
 |4,_=>exact⟨_,rfl,by decide +kernel⟩
 |5,_=>exact⟨_,rfl,by decide +kernel⟩
noncomputable def twM(x sg:Str)(y:Int):Tm:=.mk (.lt x) [gap y,.mk (.op sg) [name x,name x]]
section
variable {wn:Nat->Str}{env:Env}{R:List T}{x sg:Str}{y:Int}{a0 a1 a2:T}
theorem Cn(hw:yw wn)(he:E3 wn env a0 a1 a2)(hx:cP x)(hs:sg∈qW)(hy:y.natAbs<2 ^ 20)(hR:R.length<=60):Dn wn env R (twM x sg y) (some (aG (R++[gP y env]).length)) 0 ((R++[gP y env])++[qc sg (aG R.length) (aG R.length)]):=by
 have nn:bU 1 (name x):=jR (hd:=.name x) rfl hx
 have No:bU 3 (.mk (.op sg) [name x,name x]):=nH (hd:=.op sg) rfl (yr hs) nn nn
 have N:bU 5 (twM x sg y):=nH (hd:=.lt x) rfl hx (jR (hd:=.gap y) rfl hy) No
 have vl:Vn (aG R.length):=.left (by omega)
 refine⟨N.le (by decide),fun t' z=>?_,fun z=>(by cases z),by decide,by simp only[List.length_append,List.length_cons,List.length_nil];omega,fun b=>(b.snoc ((tK hy (he.ar hw)).le (by omega) (by omega))).snoc ((Er (yr hs) vl.sz vl.sz).le (by decide) (by decide))⟩
 injection z with z
 subst z
 refine⟨(Vn.left (k:=(R++[gP y env]).length) (by simp;omega)).sz.le (by decide) (by decide),fun D _=>zK (h:=7) (Hy N (by decide)) BC (tI (h:=6) hy) (.lt (by rw[he.e];exact(show 3<=900 by decide)) ?_)⟩
 exact Cy (h:=6) (Dr No (by decide)) vh (.name BF) (.name BF) (.opL .left fun _ e=>(by simp[aG,aZ]at e;exact absurd e.1 (by decide +kernel)))
end
section
variable {P:Program}{w:World}{K:PySem.W.Frag}{mg:Str->Option Value}{base:Heap}{C:Addr}
variable {gT gU gG gN gR gW gA:Addr}{tfd ufd gfd nfd rfd wfd afd:FuncData}
theorem bR:Nm ["_law_feed_here","_law_state","_law_sign","_law_x","_law_inner","_law_a","_law_term"] (af jq):=by decide +kernel
theorem iL:Lm ["_law_feed_here","_law_state","_law_sign","_law_x","_law_inner","_law_a","_law_term"] (af jq):=by decide +kernel
theorem gh:aM ["_law_feed_here","_law_state","_law_sign","_law_x","_law_inner","_law_a","_law_term"] ["_law_feed_here","_law_state"] (af jq):=⟨rfl,rfl,rfl,by decide +kernel,rfl,by decide +kernel,by decide +kernel⟩
theorem Co{f:Addr}{fd:FuncData}(F:gJ K "_law_twice" "_law_twice" jq f fd)(TK:bG P w K mg base "_law_take" 1 ["_law_feed_here","_law_many"] dJ gT tfd)(GP:bG P w K mg base "_law_gap" 1 ["_law_state"] (rH K) gG gfd)(WR:bG P w K mg base "_law_written" 1 ["_law_state","_law_row_here"] (lJ K) gW wfd):bF P w K mg base dX 6 f fd ["_law_feed_here","_law_state"] (eM K (·=[])):=by
 refine F.ok gh (fun vs H Q E h=>?_) (fun cdv A outer s H vs Q E hr h=>?_)
 ·obtain⟨_,_,_,_,_,_,_,_,_,_,_,_,_,rfl,rfl,_⟩:=h
  rfl
 obtain⟨f2,d,ln,lr,xs,n,tn,env,R,a0,a1,a2,_,rfl,rfl,hs,hn,hR,k⟩:=h
 refine⟨_,(Z4 (Z2 gh.nd iL 2 (Zc rY aq (Z0 TK (cE (va bR 0) (Zb ak))))) (Z4 (Z2 gh.nd iL 3 (Zc aA (Zj (va bR 1)) (Zp eT ak (Z0 TK (cE (va bR 0) (Zb ak)))))) (Z4 (Zi (Z0 GP (Zb (va bR 1))) (Zf (2) (Ze (ga gh.nd iL 4) (aQ (ga gh.nd iL 5) bh)))) (Z4 (Z2 gh.nd iL 6 (Z6 (Z1 aq (Z1 (va bR 2) (Z1 (Z6 (Z1 aq (Zb (va bR 3)))) (Z1 (Z6 (Z1 aq (Zb (va bR 3)))) aj)))))) (Zd (Zm (Z6 (Z1 (Z6 (Z1 aq (Z1 (va bR 3) (Z1 (va bR 4) (Zb (va bR 6)))))) (Z1 (Z0 WR (Z1 (va bR 1) (Z1 (Z6 (Z1 aq (Z1 (va bR 2) (Z1 (va bR 5) (Zb (va bR 5)))))) aj))) (Zb ak)))))))))),?_⟩
 try dsimp only[bY]
 have hfF:=hs.st.hf
 (try refine Cut.go (by assumption) ?_);refine jK (K:=K) hfF (yy (m:=6) (P:=(·∈qW)) rfl (by omega) (by omega) (by decide +kernel) JM) ?_;rintro H9 t9 _ x9 ⟨sg,hsg,rfl⟩ rt9
 obtain rfl:=rt9.aD
 have hs1:Ask K H9 f2 d ln lr xs n tn env R a0 a1 a2:={hs with st:=hs.st.ext x9}
 have hf1:=hs1.st.hf
 have c1:Cg f2 d lr H H9:=Cg.ext x9
 clear x9 rt9 hfF
 obtain⟨g1,_,_,_,_⟩:=hs1.st.g
 fail "R"
 intro y H2 y0 y4 x2
 have hs2:Ask K H2 f2 d ln lr xs n tn env R a0 a1 a2:={hs1 with st:=hs1.st.ext x2}
 have c2:=c1.trans (Cg.ext (d:=d) (lr:=lr) x2)
 have hn2:=hs2.st.hn
 have lx:=hs.lx
 obtain⟨i,hi,iy⟩:=Jt lx y0 y4
 have hx:=hs.w.ok i
 generalize wf xs i=x at hx iy⊢
 have st2:=hs2.st
 have b1:n<=20:=by omega
 have b2:R.length<=100:=by omega
 have t0:=hs.t0
 have t2:=hs.t2
 clear hs1 hf1 c1 g1
 fail "R"
 intro H3 v3 y3 c3 st3 hy3 r3
 obtain⟨pb,ut,ua,rfl,sqb,rt,ra⟩:=r3.t2
 refine kU sqb ?_
 clear sqb r3
 fail "R"
 intro q1 hq1
 have s1:=ae hq1 (.tup [.str "name",.str x])
 have r1:Rp K (upd H3 q1 (.tup [.str "name",.str x])) (enc (name x)) (.ref q1):=by rw[eU];exact Rp.new (K:=K) hq1 (.cons .s (.one .s))
 generalize upd H3 q1 (.tup [.str "name",.str x])=H4 at s1 r1⊢
 fail "R"
 intro q2 hq2
 have s2:=ae hq2 (.tup [.str "name",.str x])
 have r2:Rp K (upd H4 q2 (.tup [.str "name",.str x])) (enc (name x)) (.ref q2):=by rw[eU];exact Rp.new (K:=K) hq2 (.cons .s (.one .s))
 have r12:=r1.same s2
 generalize upd H4 q2 (.tup [.str "name",.str x])=H5 at s2 r2 r12⊢
 fail "R"
 intro q3 hq3
 have s3:=ae hq3 (.tup [.str "op",.str sg,.ref q1,.ref q2])
 have r3:Rp K (upd H5 q3 (.tup [.str "op",.str sg,.ref q1,.ref q2])) (enc (.mk (.op sg) [name x,name x])) (.ref q3):=by rw[zI];exact Rp.new (K:=K) hq3 (.cons .s (.cons .s (.cons r12 (.one r2))))
 have s123:=s1.trans (s2.trans s3)
 have rt6:=rt.same s123
 have ra6:=ra.same s123
 have st6:=st3.same s123
 generalize upd H5 q3 (.tup [.str "op",.str sg,.ref q1,.ref q2])=H6 at s3 r3 s123 rt6 ra6 st6⊢
 clear r1 r2 r12 s1 s2 s3 rt ra hq1 hq2 hq3
 fail "R"
 intro q4 hq4
 have s4:=ae hq4 (.tup [.str "let",.str x,ut,.ref q3])
 have r4:Rp K (upd H6 q4 (.tup [.str "let",.str x,ut,.ref q3])) (enc (twM x sg y3)) (.ref q4):=by
  unfold twM
  rw[e_lt]
  exact Rp.new (K:=K) hq4 (.cons .s (.cons .s (.cons rt6 (.one r3))))
 generalize upd H6 q4 (.tup [.str "let",.str x,ut,.ref q3])=H7 at s4 r4⊢
 fail "R"
 intro q5 hq5
 have s5:=ae hq5 (.tup [.str "op",.str sg,ua,ua])
 have r5:Rp K (upd H7 q5 (.tup [.str "op",.str sg,ua,ua])) (qc sg (aG R.length) (aG R.length)) (.ref q5):=Rp.new (K:=K) hq5 (.cons .s (.cons .s (.cons (ra6.same s4) (.one (ra6.same s4)))))
 have st8:=(st6.same s4).same s5
 have r48:=r4.same s5
 generalize upd H7 q5 (.tup [.str "op",.str sg,ua,ua])=H8 at s5 r5 st8 r48⊢
 have b3:(R++[gP y3 env]).length<=100:=by simp;omega
 fail "R"
 intro H9 u c9 st9 r9
 have r49:=r48.kt (st8.kt c9)
 fail "R"
 intro q6 hq6
 have s6:=ae hq6 (.tup [.ref q4,u,.int 0])
 exact k _ q6 (.ref q4) u _ _ 0 _ (n+1) env ((c2.trans c3).trans ((Cg.same ((s123.trans s4).trans s5)).trans (c9.trans (Cg.same s6)))) (st9.same s6) (Cn hs.w.ok hs.e hx (by assumption) hy3 (by omega)) ah (r49.same s6) (r9.same s6)
end
noncomputable def HZ(x:Str)(k1:Tm)(y:Int):Tm:=.mk (.lt x) [k1,gap y]
noncomputable def Ia(w:Nat->Str)(k1 k2:Tm):Tm:=.mk (.call (w 8)) [k1,k2]
section
variable {wn:Nat->Str}{env:Env}{R R1 R2:List T}{k1 k2:Tm}{t1 t2:T}{x:Str}{y:Int}{a0 a1 a2:T}
theorem Cp{x:Str}{t:T}:b9 env [x] [t]=env.filter (fun p=>!decide (p.1=x))++[(x,t)]:=by
 unfold b9
 simp
theorem Ib(hw:yw wn)(he:E3 wn env a0 a1 a2)(hx:cP x)(h1:Sz 50 1 t1):Sz 1400 9 (dh (b9 env [x] [t1])):=by
 have h:=he.ar hw
 have key:∀(e:Env),zV (dh e)->zV (dh (e.filter (fun p=>!decide (p.1=x))))/\tW (dh (e.filter (fun p=>!decide (p.1=x))))<=tW (dh e)/\(dh (e.filter (fun p=>!decide (p.1=x)))).dep<=(dh e).dep:=by
  intro e
  induction e with
  |nil=>intro h;exact⟨h,Nat.le_refl _,Nat.le_refl _⟩
  |cons p r ih =>
   intro h
   obtain⟨i1,i2,i3⟩:=ih h.2
   rw[List.filter_cons]
   split
   ·refine⟨⟨h.1,i1⟩,?_,?_⟩
    ·simp only[dh,List.map_cons,tW,gX]at i2⊢;omega
    ·simp only[dh,List.map_cons,T.dep,T.cA]at i3⊢;omega
   ·refine⟨i1,?_,?_⟩
    ·simp only[dh,List.map_cons,tW,gX]at i2⊢;omega
    ·simp only[dh,List.map_cons,T.dep,T.cA]at i3⊢;omega
 obtain⟨i1,i2,i3⟩:=key env h.ok
 have p1:=h.w;have p2:=h.d;have:=h1.w;have:=h1.d;have:=hx.1
 rw[Cp]
 generalize env.filter (fun p=>!decide (p.1=x))=e at i1 i2 i3⊢
 refine⟨?_,?_,?_⟩
 ·show nX ((e++[(x,t1)]).map pT)
  rw[List.map_append]
  exact oE i1 ⟨⟨hx.2,h1.ok,trivial⟩,trivial⟩
 ·simp only[dh,tW,List.map_append,oz,List.map_cons,List.map_nil,pT,gX]at i2 p1⊢;omega
 ·simp only[dh,T.dep,List.map_append,mK,List.map_cons,List.map_nil,pT,T.cA]at i3 p2⊢;omega
theorem Gg(hw:yw wn)(he:E3 wn env a0 a1 a2)(hx:cP x)(hy:y.natAbs<2 ^ 20)(g:Gn Vn 1 1 1 env R k1 t1 R1)(hR:R.length<=60):Dn wn env R (HZ x k1 y) (some (aG R1.length)) 0 (R1++[gP y (b9 env [x] [t1])]):=by
 have l1:=g.len
 have N:bU 3 (HZ x k1 y):=nH (hd:=.lt x) rfl hx g.nice (jR (hd:=.gap y) rfl hy)
 refine⟨N.le (by decide),fun t' z=>?_,fun z=>(by cases z),by decide,by simp only[List.length_append,List.length_cons,List.length_nil];omega,fun b=>(g.rb b).snoc ((tK hy (Ib hw he hx g.v.sz)).le (by omega) (by omega))⟩
 injection z with z
 subst z
 exact⟨(Vn.left (k:=R1.length) (by omega)).sz.le (by decide) (by decide),fun D _=>zK (h:=7) (Hy N (by decide)) BC ((g.ev D 0).le (by decide)) (.lt (by rw[he.e];exact(show 3<=900 by decide)) (tI (h:=6) hy))⟩
noncomputable def Cq(w:Nat->Str)(t1 t2:T):T:=gP 0 [(w 6,t1),(w 3,t2)]
theorem DQ(hw:WN wn)(g1:Gn Vn 1 1 1 env R k1 t1 R1)(g2:Gn Vr 3 4 2 env R1 k2 t2 R2)(hR:R.length<=60):Dn wn env R (Ia wn k1 k2) (some (aG R2.length)) 1 (R2++[Cq wn t1 t2]):=by
 have l1:=g1.len;have l2:=g2.len
 have N:bU 6 (Ia wn k1 k2):=nH (hd:=.call (wn 8)) rfl (hw.ok 8) g1.nice g2.nice
 have x:=g1.v.sz;have y:=g2.v.sz
 have:=x.w;have:=y.w;have:=x.d;have:=y.d;have:=(hw.ok 6).1;have:=(hw.ok 3).1
 have sz:Sz 1200 8 (dh [(wn 6,t1),(wn 3,t2)]):=⟨⟨⟨(hw.ok 6).2,x.ok,trivial⟩,⟨(hw.ok 3).2,y.ok,trivial⟩,trivial⟩,by simp only[dh,List.map_cons,List.map_nil,pT,tW,gX];omega,by fail "D"⟩
 refine⟨N.le (by decide),fun t' z=>?_,fun z=>(by cases z),by decide,by simp only[List.length_append,List.length_cons,List.length_nil];omega,fun b=>(g2.rb (g1.rb b)).snoc ((tK (y:=0) (by decide) sz).le (by omega) (by omega))⟩
 injection z with z
 subst z
 refine⟨(Vn.left (k:=R2.length) (by omega)).sz.le (by decide) (by decide),fun D hD=>Cy (h:=7) (Fw N (by decide) (by simp)) yp ((g1.ev D 0).le (by decide)) ((g2.ev D 0).le (by decide)) (.call (ns:=[wn 6,wn 3]) hD rfl (show 2<=900 by decide) ?_)⟩
 exact tI (h:=6) (g:=0) (by decide)
theorem Et{V:T->Prop}{m z h:Nat}(g:Gn V m z h env R k1 t1 R1)(hz:z<=20)(hh:h<=8)(hm:m<=8)(hv:Sz 1000 10 t1):Dn wn env R k1 (some t1) 0 R1:=by
 have l1:=g.len
 refine⟨g.nice.le hz,fun t' e=>?_,fun e=>(by cases e),by decide,by omega,g.rb⟩
 injection e with e
 subst e
 exact⟨hv,fun D _=>(g.ev D 0).le hh⟩
end
section
variable {P:Program}{w:World}{K:PySem.W.Frag}{mg:Str->Option Value}{base:Heap}{C:Addr}
variable {gT gU gG gN gR gW gA:Addr}{tfd ufd gfd nfd rfd wfd afd:FuncData}
theorem aI:Nm ["_law_feed_here","_law_state","_law_form","_law_w","_law_term","_law_a","_law_x","_law_around","_law_inner","_law_thing","_law_one","_law_other"] (af fM):=by decide +kernel
theorem cJ:Lm ["_law_feed_here","_law_state","_law_form","_law_w","_law_term","_law_a","_law_x","_law_around","_law_inner","_law_thing","_law_one","_law_other"] (af fM):=by decide +kernel
theorem b7:aM ["_law_feed_here","_law_state","_law_form","_law_w","_law_term","_law_a","_law_x","_law_around","_law_inner","_law_thing","_law_one","_law_other"] ["_law_feed_here","_law_state","_law_form"] (af fM):=⟨rfl,rfl,rfl,by decide +kernel,rfl,by decide +kernel,by decide +kernel⟩
theorem zQ{f:Addr}{cdv:Value}{A:Around}{outer:List PySem.Env}{s:Shared}{H0:Hp}{E:XK}(LN:bG P w K mg base "_law_num" 3 ["_law_feed_here","_law_state"] (cG (fun _=>Vn) 1 1 1 K) gN nfd)(LR:bG P w K mg base "_law_row" 4 ["_law_feed_here","_law_state"] (cG (fun _=>Vr) 3 4 2 K) gR rfd)(LT:bG P w K mg base "_law_tag" 5 ["_law_feed_here","_law_state"] (cG Vt 4 6 3 K) gA afd)(WR:bG P w K mg base "_law_written" 1 ["_law_state","_law_row_here"] (lJ K) gW wfd)(hr:cT 5 (A.deeper (PyProof.Rows.envOfC "_law_rest" (af fM) s.heap.objs.size f cdv)))
  {D:L2.Ends}{H:Hp}{f2 d ln lr:Addr}{xs:List Str}{n:Nat}{tn fm:Int}{env:Env}{R:List T}{a0 a1 a2:T}{x4 x5 x6 x7 x8 x9 x10 x11:Option V}(hs:Ask K H f2 d ln lr xs n tn env R a0 a1 a2) (hn:n+6<=12) (hR:R.length+8<=50)
  (k:∀(H':Hp) (p:Addr) (vt vo:V) (tm:Tm) (o:Option T) (c:Nat) (R':List T) (n':Nat),Cg f2 d lr H H'->jJ K H' f2 d ln lr xs n' tn env R'->Dn (wf xs) env R tm o c R'->H' p=some (.tup [vt,vo,.int c])->Rp K H' (enc tm) vt->nY K H' o vo->D.rt (.ref p) H') :
  kh (ji dX P w K mg base ["_law_feed_here","_law_state","_law_form","_law_w","_law_term","_law_a","_law_x","_law_around","_law_inner","_law_thing","_law_one","_law_other"] "_law_rest" (af fM) f cdv A outer s H0 E).tX ((bz fM).drop 2) D [some (.ref f2),some (.ref d),some (.int fm),some (.ref ln),x4,x5,x6,x7,x8,x9,x10,x11] H:=by
 refine gb ((Z4 (Zh (Zl (va aI 2) ak) (Z4 (@kY _ _ (10) (11) _ _ _ _ _ _ _ _ _ _ _ rfl b7.nd rfl rfl (by decide) rfl rfl (Z1 (Z0 LN (Z1 (va aI 0) (Zb (va aI 1)))) (Z1 (Z0 LR (Z1 (va aI 0) (Zb (va aI 1)))) aj)) (by rfl) (by rfl)) (Z4 (Z2 b7.nd cJ 9 (Z0 WR (Z1 (va aI 1) (Z1 (Z6 (Z1 aq (Z1 ak (Z1 (Z6 (Z1 (Z6 (Z1 (Z3 aA (va aI 3)) (Z1 (Z3 ay (va aI 10)) aj))) (Z1 (Z6 (Z1 (Z3 aA (va aI 3)) (Z1 (Z3 ay (va aI 11)) aj))) aj))) aj)))) aj)))) (Zd (Zm (Z6 (Z1 (Z6 (Z1 aq (Z1 (Z3 aA (va aI 3)) (Z1 (Z6 (Z1 (Z3 ay (va aI 10)) (Z1 (Z3 ay (va aI 11)) aj))) aj)))) (cE (va aI 9) (Zb ak))))))))) (Z4 (Zh (Zl (va aI 2) ak) (Z4 (Zi (Z0 LR (Z1 (va aI 0) (Zb (va aI 1)))) (Zf (2) (Ze (ga b7.nd cJ 4) (aQ (ga b7.nd cJ 9) bh)))) (Zd (Zm (Z6 (Z1 (va aI 4) (cE (va aI 9) (Zb ak)))))))) (Z4 (Zi (Z0 LT (Z1 (va aI 0) (Zb (va aI 1)))) (Zf (2) (Ze (ga b7.nd cJ 4) (aQ (ga b7.nd cJ 9) bh)))) (Zd (Zm (Z6 (Z1 (va aI 4) (cE (va aI 9) (Zb ak)))))))))) ?_
 try dsimp only[bY]
 fail "R"
 refine bX (fun c=>?_) (fun c=>?_)
 ·clear c
  have b1:n+1<=12:=by omega
  have b2:R.length+1<=60:=by omega
  fail "R"
  intro H1 v1 k1 t1 R1 n1 c1 hs1 hn1 g1 r1
  have l1:=g1.len
  have b3:n1+3<=12:=by omega
  have b4:R1.length+3<=60:=by omega
  fail "R"
  intro H2 v2 k2 t2 R2 n2 c2 hs2 hn2 g2 r2
  have l2:=g2.len
  have r1':=r1.kt (hs1.st.kt c2)
  obtain⟨pa,ua0,ua1,rfl,sqa,ra0,ra1⟩:=r1'.t2
  obtain⟨pb,ub0,ub1,rfl,sqb,rb0,rb1⟩:=r2.t2
  have lx:=hs.lx
  have hn2':=hs2.st.hn
  have i6:fR (xs.map V.str) 6=some (.str (wf xs 6)):=aN (j:=6) (by rw[List.getElem?_map,fk (by omega)];rfl)
  have i3:fR (xs.map V.str) 3=some (.str (wf xs 3)):=aN (j:=3) (by rw[List.getElem?_map,fk (by omega)];rfl)
  have i8:fR (xs.map V.str) 8=some (.str (wf xs 8)):=aN (j:=8) (by rw[List.getElem?_map,fk (by omega)];rfl)
  clear r1 r1' r2 hs1
  refine⟨_,_,rfl,?_⟩
  fail "R"
  intro q1 hq1
  have s1:=ae hq1 (.tup [.str (wf xs 6),ua1])
  have r1:Rp K (upd H2 q1 (.tup [.str (wf xs 6),ua1])) (pT (wf xs 6,t1)) (.ref q1):=Rp.new (K:=K) hq1 (.cons .s (.one ra1))
  have sqb1:=sqb.kt (Kt.same s1)
  have hn3:=s1 _ _ hn2'
  generalize upd H2 q1 (.tup [.str (wf xs 6),ua1])=H3 at s1 r1 sqb1 hn3⊢
  fail "R"
  intro q2 hq2
  have s2:=ae hq2 (.tup [.str (wf xs 3),ub1])
  have r2:Rp K (upd H3 q2 (.tup [.str (wf xs 3),ub1])) (pT (wf xs 3,t2)) (.ref q2):=Rp.new (K:=K) hq2 (.cons .s (.one (rb1.same s1)))
  have r12:=r1.same s2
  generalize upd H3 q2 (.tup [.str (wf xs 3),ub1])=H4 at s2 r2 r12⊢
  fail "R"
  intro q3 hq3
  have s3:=ae hq3 (.tup [.ref q1,.ref q2])
  have r3:Rp K (upd H4 q3 (.tup [.ref q1,.ref q2])) (dh [(wf xs 6,t1),(wf xs 3,t2)]) (.ref q3):=Rp.new (K:=K) hq3 (.cons r12 (.one r2))
  generalize upd H4 q3 (.tup [.ref q1,.ref q2])=H5 at s3 r3⊢
  fail "R"
  intro q4 hq4
  have s4:=ae hq4 (.tup [.str "gap",.int 0,.ref q3])
  have r4:Rp K (upd H5 q4 (.tup [.str "gap",.int 0,.ref q3])) (Cq (wf xs) t1 t2) (.ref q4):=Rp.new (K:=K) hq4 (.cons .s (.cons .i (.one r3)))
  have sA:=s1.trans (s2.trans (s3.trans s4))
  have st6:=hs2.st.same sA
  generalize upd H5 q4 (.tup [.str "gap",.int 0,.ref q3])=H6 at s4 r4 sA st6⊢
  have b5:R2.length<=100:=by omega
  clear s1 s2 s3 s4 r1 r2 r12 r3 sqb1 hn3
  fail "R"
  intro H7 u c7 st7 r7
  have kt7:=(Kt.same sA).trans (st6.kt c7)
  have hn7:=st7.hn
  have sqa7:=sqa.kt kt7
  have sqb7:=sqb.kt kt7
  have ra7:=ra0.kt kt7
  have rb7:=rb0.kt kt7
  fail "R"
  intro q5 hq5
  have s5:=ae hq5 (.tup [ua0,ub0])
  have r5:Rp K (upd H7 q5 (.tup [ua0,ub0])) (.t ([k1,k2].map enc)) (.ref q5):=Rp.new (K:=K) hq5 (.cons ra7 (.one rb7))
  generalize upd H7 q5 (.tup [ua0,ub0])=H8 at s5 r5⊢
  fail "R"
  intro q6 hq6
  have s6:=ae hq6 (.tup [.str "call",.str (wf xs 8),.ref q5])
  have r6:Rp K (upd H8 q6 (.tup [.str "call",.str (wf xs 8),.ref q5])) (enc (Ia (wf xs) k1 k2)) (.ref q6):=by
   unfold Ia
   rw[Bt]
   exact Rp.new (K:=K) hq6 (.cons .s (.cons .s (.one r5)))
  generalize upd H8 q6 (.tup [.str "call",.str (wf xs 8),.ref q5])=H9 at s6 r6⊢
  fail "R"
  intro q9 hq9
  have s9:=ae hq9 (.tup [.ref q6,u,.int 1])
  have sB:=s5.trans (s6.trans s9)
  exact k _ q9 (.ref q6) u (Ia (wf xs) k1 k2) (some (aG R2.length)) 1 (R2++[Cq (wf xs) t1 t2]) n2 ((c1.trans c2).trans ((Cg.same sA).trans (c7.trans (Cg.same sB)))) (st7.same sB) (DQ hs.w g1 g2 (by omega)) ah (r6.same s9) (r7.same sB)
 clear c
 fail "R"
 refine bX (fun c=>?_) (fun c=>?_)
 ·clear c
  have b1:n+3<=12:=by omega
  have b2:R.length+3<=60:=by omega
  fail "R"
  intro H2 v2 k1 t1 R1 n2 c2 hs2 hn2 g r2
  obtain⟨pb,ut,ua,rfl,sqb,rt,ra⟩:=r2.t2
  refine kU sqb ?_
  fail "R"
  intro q6 hq6
  have s6:=ae hq6 (.tup [ut,ua,.int 0])
  exact k _ q6 ut ua k1 (some t1) 0 R1 n2 (c2.trans (Cg.same s6)) (hs2.st.same s6) (Et g (by decide) (by decide) (by decide) (g.v.sz.le (by decide) (by decide))) ah (rt.same s6) (ra.same s6)
 clear c
 have b1:n+4<=12:=by omega
 have b2:R.length+4<=60:=by omega
 fail "R"
 intro H2 v2 k1 t1 R1 n2 c2 hs2 hn2 g r2
 obtain⟨pb,ut,ua,rfl,sqb,rt,ra⟩:=r2.t2
 refine kU sqb ?_
 fail "R"
 intro q6 hq6
 have s6:=ae hq6 (.tup [ut,ua,.int 0])
 exact k _ q6 ut ua k1 (some t1) 0 R1 n2 (c2.trans (Cg.same s6)) (hs2.st.same s6) (Et g (by decide) (by decide) (by decide) ((g.v.sz (hs.w.ok 1) (hs.w.ok 2)).le (by decide) (by decide))) ah (rt.same s6) (ra.same s6)
end
section
variable {P:Program}{w:World}{K:PySem.W.Frag}{mg:Str->Option Value}{base:Heap}{C:Addr}
variable {gT gU gG gN gR gW gA:Addr}{tfd ufd gfd nfd rfd wfd afd:FuncData}
theorem DT{f:Addr}{fd:FuncData}(F:gJ K "_law_rest" "_law_rest" fM f fd)(TK:bG P w K mg base "_law_take" 1 ["_law_feed_here","_law_many"] dJ gT tfd)(GP:bG P w K mg base "_law_gap" 1 ["_law_state"] (rH K) gG gfd)(LN:bG P w K mg base "_law_num" 3 ["_law_feed_here","_law_state"] (cG (fun _=>Vn) 1 1 1 K) gN nfd)(LR:bG P w K mg base "_law_row" 4 ["_law_feed_here","_law_state"] (cG (fun _=>Vr) 3 4 2 K) gR rfd)(LT:bG P w K mg base "_law_tag" 5 ["_law_feed_here","_law_state"] (cG Vt 4 6 3 K) gA afd)(WR:bG P w K mg base "_law_written" 1 ["_law_state","_law_row_here"] (lJ K) gW wfd)(z_tuple:mg "tuple"=none):bF P w K mg base dX 6 f fd ["_law_feed_here","_law_state","_law_form"] (eM K (fun ms=>∃fm:Int,ms=[.int fm])):=by
 refine F.ok b7 (fun vs H Q E h=>?_) (fun cdv A outer s H vs Q E hr h=>?_)
 ·obtain⟨_,_,_,_,_,_,_,_,_,_,_,_,_,rfl,⟨_,rfl⟩,_⟩:=h
  rfl
 obtain⟨f2,d,ln,lr,xs,n,tn,env,R,a0,a1,a2,_,rfl,⟨fm,rfl⟩,hs,hn,hR,k⟩:=h
 refine⟨_,(Z4 (Z2 b7.nd cJ 3 (Zj (va aI 1))) (Z4 (Zh (Zl (va aI 2) ak) (Z4 (Zi (Z0 LN (Z1 (va aI 0) (Zb (va aI 1)))) (Zf (2) (Ze (ga b7.nd cJ 4) (aQ (ga b7.nd cJ 5) bh)))) (Z4 (Z2 b7.nd cJ 6 (Zc aA (va aI 3) (Zp eT ak (Z0 TK (cE (va aI 0) (Zb ak)))))) (Z4 (Z2 b7.nd cJ 7 (Zp jt (Z9 bH z_tuple PyProof.Rows.boot_tuple (Z1 (@dR _ _ _ _ _ _ _ _ _ _ _ (af fM) ["_law_feed_here","_law_state","_law_form","_law_w","_law_term","_law_a","_law_x","_law_around","_law_inner","_law_thing","_law_one","_law_other"] ["_law_one"] [6] rfl rfl rfl (by decide +kernel) (@jT _ _ _ _ (Zj (va aI 1))) (fun _ _ _ _=>(Za (i:=0) (show(["_law_one","_law_x"]:List Str).Nodup by decide +kernel))) (fun _ _ _ _=>(@uC _ _ _ (Zn D9 (Z3 (sN K rfl) (va (show Nm ["_law_one","_law_x"] _ by show _=_;kernel_rfl) 0)) (va (show Nm ["_law_one","_law_x"] _ by show _=_;kernel_rfl) 1)))) (fun _ _ _ _=>(va (show Nm ["_law_one","_law_x"] _ by show _=_;kernel_rfl) 0)) (by intro _;rfl)) aj)) (Z6 (Z1 (Z6 (Z1 (va aI 6) (Zb (va aI 5)))) aj)))) (Z4 (su (lX hr) (va aI 1) aq (va aI 7) (by rfl)) (Z4 (Zi (Z0 GP (Zb (va aI 1))) (Zf (2) (Ze (ga b7.nd cJ 8) (aQ (ga b7.nd cJ 9) bh)))) (Zd (Zm (Z6 (Z1 (Z6 (Z1 aq (Z1 (va aI 6) (Z1 (va aI 4) (Zb (va aI 8)))))) (cE (va aI 9) (Zb ak)))))))))))) eR)),?_⟩
 try dsimp only[bY]
 obtain⟨gn,_,_,_,_⟩:=hs.st.g
 fail "R"
 refine bX (fun c=>?_) (fun c=>?_)
 ·clear c
  have b1:n+1<=12:=by omega
  have b2:R.length+1<=60:=by omega
  fail "R"
  intro H1 v1 k1 t1 R1 n1 c1 hs1 hn1 g1 r1
  have l1:=g1.len
  obtain⟨pb,ut,ua,rfl,sqb,rt,ra⟩:=r1.t2
  refine kU sqb ?_
  clear sqb r1
  have hf1:=hs1.st.hf
  fail "R"
  intro y H2 y0 y4 x2
  have kt2:=x2.kt hf1
  have hs2:Ask K H2 f2 d ln lr xs n1 tn env R1 a0 a1 a2:={hs1 with st:=hs1.st.ext x2}
  have rt2:=rt.kt kt2
  have ra2:=ra.kt kt2
  have c2:=c1.trans (Cg.ext (d:=d) (lr:=lr) x2)
  have hn2:=hs2.st.hn
  have lx:=hs.lx
  obtain⟨i,hi,iy⟩:=Jt lx y0 y4
  have hx:=hs.w.ok i
  generalize wf xs i=x at hx iy⊢
  clear rt ra kt2 hs1 hf1 c1 x2
  obtain⟨_,_,_,_,av,ga,rav⟩:=hs2.st.g
  obtain⟨aa,ys,rfl,asq,ra'⟩:=(show Rp K H2 (.t (env.map pT)) av from rav).bj
  have la:=ra'.length
  rw[List.length_map]at la
  have le3:env.length=3:=by rw[hs.e.e];rfl
  fail "R"
  refine jj (xs:=ys) (fun i σ us Hd=>(∃x0,σ=[x0,some (.str x)])/\Hd=H2/\bB K H2 (((env.take i).filter (fun p=>!decide (p.1=x))).map pT) us) ⟨⟨_,rfl⟩,rfl,.nil⟩ ?_ (Nat.le_of_lt (bu (by omega))) ?_ ?_ ?_
  ·rintro i σ us Hd hi ⟨_,_,r1⟩
   rw[r1.length,List.length_map]
   exact Nat.le_trans (List.length_filter_le _ _) (by rw[List.length_take];omega)
  ·rintro i σ us Hd hi ⟨_,rfl,_⟩
   exact asq
  ·rintro i v σ us Hd hi ⟨⟨x0,rfl⟩,rfl,r1⟩
   obtain⟨y,hy,ry⟩:=ra'.get' hi
   rw[List.getElem?_map]at hy
   obtain⟨p,hp,rfl⟩:=Option.map_eq_some_iff.mp hy
   have hil:i<env.length:=(List.getElem?_eq_some_iff.mp hp).1
   have ep:env[i]=p:=(List.getElem?_eq_some_iff.mp hp).2
   obtain⟨pa,u1,u2,rfl,psq,g1,g2⟩:=(show Rp K Hd (.t [.s p.1,p.2]) v from ry).t2
   obtain rfl:=g1.aD
   have et:(env.take (i+1)).filter (fun p=>!decide (p.1=x))=(env.take i).filter (fun p=>!decide (p.1=x))++(if p.1=x then []else [p]):=by
    rw[List.take_succ_eq_append_getElem hil,List.filter_append,ep]
    by_cases c:p.1=x<;>simp[c]
   fail "R"
   refine bX (fun c=>?_) (fun c=>?_)
   ·have c':¬p.1=x:=by simpa using c
    refine⟨_,rfl,⟨_,rfl⟩,rfl,?_⟩
    rw[et,if_neg c',List.map_append]
    exact r1.append (.one ry)
   ·have c':p.1=x:=by simpa using c
    refine⟨⟨_,rfl⟩,rfl,?_⟩
    rw[et,if_pos c',List.append_nil]
    exact r1
  ·rintro σ us Hd ⟨_,rfl,r1⟩ p hp
   rw[la,List.take_length]at r1
   have s3:=ae hp (.lst us)
   have hL:upd Hd p (.lst us) p=some (.lst us):=ah
   have r3:=r1.same s3
   have lu:=r1.length
   rw[List.length_map]at lu
   have lf':=List.length_filter_le (fun p:Str×T=>!decide (p.1=x)) env
   generalize upd Hd p (.lst us)=H3 at s3 hL r3⊢
   fail "R"
   refine .inl ⟨cR.of hL,fun p4 hp4=>?_⟩
   have s4:=ae hp4 (.tup us)
   have sq4:bT K (upd H3 p4 (.tup us)) p4 us:=bT.of ah
   have r4:=r3.same s4
   generalize upd H3 p4 (.tup us)=H4 at s4 sq4 r4⊢
   fail "R"
   intro p5 hp5
   have s5:=ae hp5 (.tup [.str x,ua])
   have r5:Rp K (upd H4 p5 (.tup [.str x,ua])) (pT (x,t1)) (.ref p5):=Rp.new (K:=K) hp5 (.cons .s (.one ((ra2.same s3).same s4)))
   have sq5:=sq4.kt (Kt.same s5)
   have r45:=r4.same s5
   generalize upd H4 p5 (.tup [.str x,ua])=H5 at s5 r5 sq5 r45⊢
   fail "R"
   intro p6 hp6
   have s6:=ae hp6 (.tup [.ref p5])
   have sq6:bT K (upd H5 p6 (.tup [.ref p5])) p6 [.ref p5]:=bT.of ah
   have sq56:=sq5.kt (Kt.same s6)
   have r56:=r5.same s6
   have r46:=r45.same s6
   generalize upd H5 p6 (.tup [.ref p5])=H6 at s6 sq6 sq56 r56 r46⊢
   have lz2:us.length+[V.ref p5].length<=sizeLine:=small (by simp;omega)
   fail "R"
   intro p7 H7 s7 sq7
   have sA:=s3.trans (s4.trans (s5.trans (s6.trans s7)))
   have r7:Rp K H7 (dh (b9 env [x] [t1])) (.ref p7):=by
    rw[Cp]
    unfold dh
    rw[List.map_append]
    exact Rp.t sq7 ((r46.append (.one r56)).same s7)
   have st7:=hs2.st.same sA
   obtain⟨H8,p8,st8,c8,k8⟩:=st7.Jl r7
   have rt8:=(rt2.same sA).kt k8
   clear s3 s4 s5 s6 r3 r4 r5 sq5 r45 sq6 sq56 r56 r46 sq4 hL
   have b3:n1<=20:=by omega
   have b4:R1.length<=100:=by omega
   have t0:=hs.t0
   have t2:=hs.t2
   fail "R"
   intro H9 v9 y9 c9 st9 hy9 r9
   have rt9:=rt8.kt (st8.kt c9)
   obtain⟨pb9,ut9,ua9,rfl,sqb9,rg9,ra9⟩:=r9.t2
   refine kU sqb9 ?_
   fail "R"
   intro q1 hq1
   have s1:=ae hq1 (.tup [.str "let",.str x,ut,ut9])
   have r1:Rp K (upd H9 q1 (.tup [.str "let",.str x,ut,ut9])) (enc (HZ x k1 y9)) (.ref q1):=by
    unfold HZ
    rw[e_lt]
    exact Rp.new (K:=K) hq1 (.cons .s (.cons .s (.cons rt9 (.one rg9))))
   generalize upd H9 q1 (.tup [.str "let",.str x,ut,ut9])=H10 at s1 r1⊢
   fail "R"
   intro q2 hq2
   have s2:=ae hq2 (.tup [.ref q1,ua9,.int 0])
   exact k _ q2 (.ref q1) ua9 (HZ x k1 y9) (some (aG R1.length)) 0 (R1++[gP y9 (b9 env [x] [t1])]) (n1+1) _ (c2.trans ((Cg.same sA).trans (c8.trans (c9.trans (Cg.same (s1.trans s2)))))) (st9.same (s1.trans s2)) (Gg hs.w.ok hs.e hx hy9 g1 (by omega)) ah (r1.same s2) (ra9.same (s1.trans s2))
 ·clear c
  fail "R"
  (try refine Cut.go (by assumption) ?_);exact zQ LN LR LT WR hr hs hn hR fun H' p vt vo tm o c R' n' cg st=>k H' p vt vo tm o c R' n' env cg st
end
theorem JN{y:Int}(h3:¬y<3)(h8:y<8):∃wd∈Gv,fR [V.str "more",.str "first",.str "others",.str "long",.str "first"] (y-3)=some (.str wd):=by
 obtain⟨j,e⟩:=Int.eq_ofNat_of_zero_le (show 0<=y-3 by omega)
 rw[e]
 have hj:j<5:=by omega
 match j,hj with
 |0,_=>exact⟨"more",by decide +kernel,aN (j:=0) rfl⟩
 |1,_=>exact⟨"first",by decide +kernel,aN (j:=1) rfl⟩
 |2,_=>exact⟨"others",by decide +kernel,aN (j:=2) rfl⟩
 |3,_=>exact⟨"long",by decide +kernel,aN (j:=3) rfl⟩
 |4,_=>exact⟨"first",by decide +kernel,aN (j:=4) rfl⟩
section
variable {P:Program}{w:World}{K:PySem.W.Frag}{mg:Str->Option Value}{base:Heap}{C:Addr}
variable {o1 o2 o3 o4 o5 o6 o7:Addr}{d1 d2 d3 d4 d5 d6 d7:FuncData}
theorem bE:Nm ["_law_feed_here","_law_state","_law_form"] (af oh):=by decide +kernel
theorem Cr:aM ["_law_feed_here","_law_state","_law_form"] ["_law_feed_here","_law_state","_law_form"] (af oh):=⟨rfl,rfl,rfl,by decide +kernel,rfl,by decide +kernel,by decide +kernel⟩
theorem Gh{f:Addr}{fd:FuncData}(F:gJ K "_law_any" "_law_any" oh f fd)(LO:bG P w K mg base "_law_op" 5 ["_law_feed_here","_law_state"] (eM K (·=[])) o1 d1)(LF:bG P w K mg base "_law_of_rows" 5 ["_law_feed_here","_law_state","_law_word"] (eM K (fun ms=>∃wd∈Gv,ms=[.str wd])) o2 d2)(LM:bG P w K mg base "_law_match" 6 ["_law_feed_here","_law_state"] (eM K (·=[])) o3 d3)(LI:bG P w K mg base "_law_if" 6 ["_law_feed_here","_law_state"] (eM K (·=[])) o4 d4)(LD:bG P w K mg base "_law_fold" 6 ["_law_feed_here","_law_state"] (eM K (·=[])) o5 d5)(LE:bG P w K mg base "_law_rest" 6 ["_law_feed_here","_law_state","_law_form"] (eM K (fun ms=>∃fm:Int,ms=[.int fm])) o6 d6)(LW:bG P w K mg base "_law_twice" 6 ["_law_feed_here","_law_state"] (eM K (·=[])) o7 d7):bF P w K mg base dX 7 f fd ["_law_feed_here","_law_state","_law_form"] (eM K (fun ms=>∃fm:Int,ms=[.int fm])):=by
 refine F.ok Cr (fun vs H Q E h=>?_) (fun cdv A outer s H vs Q E hr h=>?_)
 ·obtain⟨_,_,_,_,_,_,_,_,_,_,_,_,_,rfl,⟨_,rfl⟩,_⟩:=h
  rfl
 obtain⟨f2,d,ln,lr,xs,n,tn,env,R,a0,a1,a2,_,rfl,⟨fm,rfl⟩,hs,hn,hR,k⟩:=h
 refine⟨_,(Z4 (Zh (Zl (va bE 2) ak) (Zd (Zm (Z0 LW (Z1 (va bE 0) (Zb (va bE 1))))))) (Z4 (Zh (cM jP (va bE 2) ak (cV _)) (Zd (Zm (Z0 LO (Z1 (va bE 0) (Zb (va bE 1))))))) (Z4 (Zh (cM jP (va bE 2) ak (cV _)) (Zd (Zm (Z0 LF (Z1 (va bE 0) (Z1 (va bE 1) (Z1 (Zc aA (b8 (AJ (by decide +kernel))) (bK iY (va bE 2) ak)) aj))))))) (Z4 (Zh (Zl (va bE 2) ak) (Zd (Zm (Z0 LM (Z1 (va bE 0) (Zb (va bE 1))))))) (Z4 (Zh (Zl (va bE 2) ak) (Zd (Zm (Z0 LI (Z1 (va bE 0) (Zb (va bE 1))))))) (Z4 (Zh (cM jP (va bE 2) ak (cV _)) (Zd (Zm (Z0 LD (Z1 (va bE 0) (Zb (va bE 1))))))) (Zd (Zm (Z0 LE (Z1 (va bE 0) (Z1 (va bE 1) (Z1 (bK iY (va bE 2) ak) aj)))))))))))),?_⟩
 try dsimp only[bY]
 fail "R"
 refine bX (fun _=>?_) (fun _=>?_)
 ·fail "R"
  exact k
 fail "R"
 refine bX (fun _=>?_) (fun c3=>?_)
 ·fail "R"
  exact k
 fail "R"
 refine bX (fun c8=>?_) (fun _=>?_)
 ·obtain⟨wd,hwd,iw⟩:=JN (y:=fm) (fun z=>c3 (decide_eq_true z)) (of_decide_eq_true c8)
  fail "R"
  intro q hq
  have s1:=ae hq (.lst [V.str "more",.str "first",.str "others",.str "long",.str "first"])
  have hl:upd H q (.lst [V.str "more",.str "first",.str "others",.str "long",.str "first"]) q=some (.lst [V.str "more",.str "first",.str "others",.str "long",.str "first"]):=ah
  have hs1:Ask K (upd H q (.lst [V.str "more",.str "first",.str "others",.str "long",.str "first"])) f2 d ln lr xs n tn env R a0 a1 a2:={hs with st:=hs.st.same s1}
  clear hs
  fail "R"
  exact fun H' p vt vo tm o c R' n' env' cg=>k H' p vt vo tm o c R' n' env' ((Cg.same s1).trans cg)
 fail "R"
 refine bX (fun _=>?_) (fun _=>?_)
 ·fail "R"
  exact k
 fail "R"
 refine bX (fun _=>?_) (fun _=>?_)
 ·fail "R"
  exact k
 fail "R"
 refine bX (fun _=>?_) (fun _=>?_)
 ·fail "R"
  exact k
 fail "R"
 exact k
end
theorem tS{H H1 H2:Hp}{f:Addr}(s:br H H1)(n:H f=none)(x:Ext f H1 H2):br H H2:=fun b u e=>x.1 b u (aF e n) (s b u e)
noncomputable def yF(K:PySem.W.Frag):Sp:=fun vs H Q _=>∃(a:Addr) (ns:List Int) (k:Int),vs=[.ref a,.int k]/\cR K H a (ns.map V.int)/\ns.length<=63/\0<=k/\k<=50/\∀H':Hp,br H H'->Q (.bl true) H'
@[irreducible] noncomputable def kj (K:PySem.W.Frag):Sp:=vc K
theorem rM{K:PySem.W.Frag}{vs:List V}{H:Hp}{Q:VK}{E:XK}(h:vc K vs H Q E):kj K vs H Q E:=by unfold kj;exact h
theorem rN{K:PySem.W.Frag}{vs:List V}{H:Hp}{Q:VK}{E:XK}(h:kj K vs H Q E):vc K vs H Q E:=by unfold kj at h;exact h
theorem DU{P:Program}{w:World}{K:PySem.W.Frag}{mg:Str->Option Value}{base:Heap}{f:Addr}{fd:FuncData}{n:Nat}{ps:List Str}(h:bF P w K mg base dX n f fd ps (vc K)):bF P w K mg base dX n f fd ps (kj K) :=
 ⟨fun vs H Q E x=>h.len _ _ _ _ (rN x),fun A outer s H args us vs Q E hr he hb hv x=>h.run A outer s H args us vs Q E hr he hb hv (rN x)⟩
theorem nY.kt{K:PySem.W.Frag}{H H':Hp}{o:Option T}{v:V}(h:nY K H o v)(k:Kt H H'):nY K H' o v:=by
 cases o with
 |none=>exact h
 |some t=>exact Rp.kt k h
theorem DV{K:PySem.W.Frag}{H:Hp}{t:T}{v:V}(h:zV t)(r:Rp K H t v):v≠.eW:=by
 cases t with
 |s x=>obtain rfl:=r.aD;exact fun z=>nomatch z
 |i x=>obtain rfl:=r.dj;exact fun z=>nomatch z
 |n=>exact absurd h (fun z=>z)
 |t xs=>obtain⟨a,us,rfl,_⟩:=r.bj;exact fun z=>nomatch z
structure Tl(K:PySem.W.Frag) (H0 H:Hp) (f d ln lr lt:Addr) (xs:List Str) (n:Nat) (tn:Int) (env:Env) (R:List T) (a0 a1 a2:T) (tm:Tm) (o:Option T) (ut vo:V) (tv:List V):Prop where
 sm:br H0 H
 nf:H0 f=none
 st:jJ K H f d ln lr xs n tn env R
 hlt:H lt=some (.lst tv)
 nlt:lt≠f
 rtv:bB K H [a0,a1,a2] tv
 rt:Rp K H (enc tm) ut
 ro:nY K H o vo
section
variable {K:PySem.W.Frag}{H0 H H':Hp}{f d ln lr lt:Addr}{xs:List Str}{n:Nat}{tn:Int}{env:Env}{R:List T}{a0 a1 a2:T}{tm:Tm}{o:Option T}{ut vo:V}{tv:List V}
theorem Tl.ext(h:Tl K H0 H f d ln lr lt xs n tn env R a0 a1 a2 tm o ut vo tv)(x:Ext f H H'):Tl K H0 H' f d ln lr lt xs n tn env R a0 a1 a2 tm o ut vo tv:=by
 have k:=x.kt h.st.hf
 exact⟨tS h.sm h.nf x,h.nf,h.st.ext x,x.1 lt _ h.nlt h.hlt,h.nlt,h.rtv.kt k,h.rt.kt k,h.ro.kt k⟩
theorem Tl.same(h:Tl K H0 H f d ln lr lt xs n tn env R a0 a1 a2 tm o ut vo tv)(x:br H H'):Tl K H0 H' f d ln lr lt xs n tn env R a0 a1 a2 tm o ut vo tv :=
 ⟨h.sm.trans x,h.nf,h.st.same x,x _ _ h.hlt,h.nlt,h.rtv.same x,h.rt.same x,h.ro.kt (Kt.same x)⟩
end
noncomputable def qz(w:Nat->Str):Def:=(w 8,[(w 6,.s "num"),(w 3,.t [.s "row",.s "num"])],enc (gap 0))
noncomputable def mainD(w:Nat->Str)(tm:Tm):Def:=(w 9,[(w 5,.s "num"),(w 6,.t [.s "row",.s "num"]),(w 7,.t [.s "kind",.s (w 0)])],enc tm)
theorem DW{wn:Nat->Str}(hw:WN wn)(tm:Tm):tY (([qz wn]++[mainD wn tm]).map xg) (wn 8)=some ([wn 6,wn 3],enc (gap 0)):=by
 rw[List.map_append]
 show tY ([xg (qz wn)]++[xg (mainD wn tm)]) (wn 8)=_
 rw[Dy (fun z=>hw.ne 9 8 (by decide) (by decide) (by decide) z)]
 exact FE (D:=[]) rfl
theorem vG{t:T}{R:List T}{c:Nat}(h:Sz 1000 10 t)(hR:RB R)(hl:R.length<=10)(hc:c<=10):AI (T.t [.s "sheet",.t [t,.t R],.i c]).py:=by
 obtain⟨q1,q2⟩:=zP "sheet" (by decide +kernel)
 obtain⟨b1,b2,b3⟩:=Iz hR
 have e:(2:Nat) ^ 20=1048576:=by decide
 have:R.length*(20000+1)<=10*(20000+1):=Nat.mul_le_mul_right _ hl
 have:=h.w;have:=h.d
 refine Ds ⟨q1,⟨h.ok,b1,trivial⟩,(by show((c:Int)).natAbs<2 ^ 20;omega),trivial⟩ ?_ ?_
 ·fail "D"
 ·simp only[tW,gX];omega
section
variable {P:Program}{w:World}{K:PySem.W.Frag}{mg:Str->Option Value}{base:Heap}{C:Addr}
variable {gR:Addr}{rfd:FuncData}
theorem aB:Nm ["_law_script","_law_k","_law_feed_here","_law_w","_law_things","_law_state","_law_term","_law_thing","_law_many","_law_kinds","_law_one","_law_params","_law_found"] (af cH):=by decide +kernel
theorem cC:Lm ["_law_script","_law_k","_law_feed_here","_law_w","_law_things","_law_state","_law_term","_law_thing","_law_many","_law_kinds","_law_one","_law_params","_law_found"] (af cH):=by decide +kernel
theorem ck:aM ["_law_script","_law_k","_law_feed_here","_law_w","_law_things","_law_state","_law_term","_law_thing","_law_many","_law_kinds","_law_one","_law_params","_law_found"] ["_law_script","_law_k"] (af cH):=⟨rfl,rfl,rfl,by decide +kernel,rfl,by decide +kernel,by decide +kernel⟩
theorem xH{f:Addr}{cdv:Value}{A:Around}{outer:List PySem.Env}{s:Shared}{H0:Hp}{E:XK}(RU:bG P w K mg base "run" 7 ["program","inputs","most"] (kj K) gR rfd)(z_tuple:mg "tuple"=none)(z_repr:mg "repr"=none)(hr:cT 7 (A.deeper (PyProof.Rows.envOfC "_law_right" (af cH) s.heap.objs.size f cdv)))
  {D:L2.Ends}{H:Hp}{x0 x1 x9 x10 x11 x12:Option V}{f2 d ln lr lt:Addr}{xs:List Str}{n:Nat}{tn:Int}{env env':Env}{R:List T}{a0 a1 a2:T}{tm:Tm}{o:Option T}{c:Nat}{ut vo:V}{tv:List V}(tl:Tl K H0 H f2 d ln lr lt xs n tn env' R a0 a1 a2 tm o ut vo tv) (lx:xs.length=10) (hw:WN (wf xs)) (he:E3 (wf xs) env a0 a1 a2) (dn:Dn (wf xs) env [] tm o c R) (k:∀H',br H0 H'->D.rt (.bl true) H') :
  kh (ji dX P w K mg base ["_law_script","_law_k","_law_feed_here","_law_w","_law_things","_law_state","_law_term","_law_thing","_law_many","_law_kinds","_law_one","_law_params","_law_found"] "_law_right" (af cH) f cdv A outer s H0 E).tX ((bz cH).drop 8) D [x0,x1,some (.ref f2),some (.ref ln),some (.ref lt),some (.ref d),some ut,some vo,some (.int c),x9,x10,x11,x12] H:=by
 refine gb ((Z4 (Z2 ck.nd cC 9 (Z6 (Z1 (Z6 (Z1 (Z3 aA (va aB 3)) (Z1 (Z6 (Z1 (Z6 (Z1 (Z3 aA (va aB 3)) (Z1 (Z6 (Z1 aq (Z1 (Z6 (cE aq (Zb aq))) aj))) aj))) (Z1 (Z6 (Z1 (Z3 aA (va aB 3)) (Zb (bV aj)))) aj))) aj))) aj))) (Z4 (Z2 ck.nd cC 10 (Z6 (Z1 (Z3 aA (va aB 3)) (Z1 (Z6 (Z1 (Z6 (Z1 (Z3 aA (va aB 3)) (Zb aq))) (Z1 (Z6 (Z1 (Z3 aA (va aB 3)) (Z1 (Z6 (cE aq (Zb aq))) aj))) aj))) (Z1 (Z6 (cE aq (Zb ak))) aj))))) (Z4 (Z2 ck.nd cC 11 (Z6 (Z1 (Z6 (Z1 (Z3 aA (va aB 3)) (Zb aq))) (Z1 (Z6 (Z1 (Z3 aA (va aB 3)) (Z1 (Z6 (cE aq (Zb aq))) aj))) (Z1 (Z6 (Z1 (Z3 aA (va aB 3)) (Z1 (Z6 (Z1 aq (Z1 (Z3 aA (va aB 3)) aj))) aj))) aj))))) (Z4 (Z2 ck.nd cC 12 (Z0 RU (Z1 (Z6 (Z1 (va aB 9) (Z1 (Z6 (Z1 (va aB 10) (Z1 (Z6 (Z1 (Z3 aA (va aB 3)) (Z1 (va aB 11) (Zb (va aB 6))))) aj))) aj))) (cE (va aB 4) (Zb ak))))) (Z4 (Zh (cM EV (va aB 7) oH (cV _)) (Zd (Zm (@gZ _ _ _ _ _ _ _ _ (wu hr.AH) (va aB 12) (bV (Zb aq)) (cV _))))) (Zd (Zm (@gZ _ _ _ _ _ _ _ _ gQ (@gu _ _ _ _ _ _ _ _ _ (oZ hr.gd hr.AH) (by show _=_;kernel_rfl) z_repr PyProof.Rows.boot_repr (Zb (va aB 12)) (by decide) (by decide) (by rfl) (by rfl)) (@gu _ _ _ _ _ _ _ _ _ (oZ hr.gd hr.AH) (by show _=_;kernel_rfl) z_repr PyProof.Rows.boot_repr (Z1 (Z6 (Z1 aq (Z1 (Z6 (Z1 (va aB 7) (Z1 (Z9 bH z_tuple PyProof.Rows.boot_tuple (Z1 (Zj (va aB 5)) aj)) aj))) (Zb (va aB 8))))) aj) (by decide) (by decide) (by rfl) (by rfl)) (cV _)))))))))) ?_
 try dsimp only[bY]
 have hfF:=tl.st.hf
 have hnF:=tl.st.hn
 (try refine Cut.go (by assumption) ?_);refine mw fun N9 hN9=>?_;refine jK (K:=K) hfF (aV (ao (aV (ao (Zo (i:=0)) (ao (aV (ao (aV (ao (Zo (i:=1)) (ao (aV (ao jf (ao (aV (ao jf (ao jf aL))) aL))) aL))) (ao (aV (ao (Zo (i:=2)) (ao (aV aL) aL))) aL))) aL))) aL)) ?_;rintro H1 t1 _ x1 ⟨_,⟨_,_,⟨_,⟨_,_,rfl,⟨_,_,⟨_,⟨_,_,⟨_,⟨_,_,rfl,⟨_,_,⟨_,⟨_,_,rfl,⟨_,_,⟨_,⟨_,_,rfl,⟨_,_,rfl,rfl,rfl⟩,rfl⟩,rfl⟩,rfl,rfl⟩,rfl⟩,rfl⟩,rfl,rfl⟩,rfl⟩,rfl⟩,⟨_,_,⟨_,⟨_,_,rfl,⟨_,_,⟨_,rfl,rfl⟩,rfl,rfl⟩,rfl⟩,rfl⟩,rfl,rfl⟩,rfl⟩,rfl⟩,rfl,rfl⟩,rfl⟩,rfl⟩,rfl,rfl⟩,rfl⟩ rt1<;>(refine hN9 _ _ ?_;clear hN9 N9)
 have tl1:=tl.ext x1
 replace hfF:=tl1.st.hf
 replace hnF:=tl1.st.hn
 generalize(T.t [.t [.s (wf xs 0),.t [.t [.s (wf xs 1),.t [.s "num",.t [.s "row",.s "num"]]],.t [.s (wf xs 2),.t []]]]])=kd at rt1
 (try refine Cut.go (by assumption) ?_);refine mw fun N9 hN9=>?_;refine jK (K:=K) hfF (aV (ao (Zo (i:=8)) (ao (aV (ao (aV (ao (Zo (i:=6)) (ao jf aL))) (ao (aV (ao (Zo (i:=3)) (ao (aV (ao jf (ao jf aL))) aL))) aL))) (ao (aV (ao jf (ao Jm aL))) aL)))) ?_;rintro H2 t2 _ x2 ⟨_,⟨_,_,rfl,⟨_,_,⟨_,⟨_,_,⟨_,⟨_,_,rfl,⟨_,_,rfl,rfl,rfl⟩,rfl⟩,rfl⟩,⟨_,_,⟨_,⟨_,_,rfl,⟨_,_,⟨_,⟨_,_,rfl,⟨_,_,rfl,rfl,rfl⟩,rfl⟩,rfl⟩,rfl,rfl⟩,rfl⟩,rfl⟩,rfl,rfl⟩,rfl⟩,rfl⟩,⟨_,_,⟨_,⟨_,_,rfl,⟨_,_,rfl,rfl,rfl⟩,rfl⟩,rfl⟩,rfl,rfl⟩,rfl⟩,rfl⟩,rfl⟩ rt2<;>(refine hN9 _ _ ?_;clear hN9 N9)
 have tl2:=tl1.ext x2
 have rk2:=rt1.kt (x2.kt hfF)
 have ro2:Rp K H2 (zF (qz (wf xs))) t2:=(by unfold qz zF;rw[show enc (gap 0)=_ from Bu 0];exact rt2)
 replace hfF:=tl2.st.hf
 replace hnF:=tl2.st.hn
 (try refine Cut.go (by assumption) ?_);refine mw fun N9 hN9=>?_;refine jK (K:=K) hfF (aV (ao (aV (ao (Zo (i:=5)) (ao jf aL))) (ao (aV (ao (Zo (i:=6)) (ao (aV (ao jf (ao jf aL))) aL))) (ao (aV (ao (Zo (i:=7)) (ao (aV (ao jf (ao (Zo (i:=0)) aL))) aL))) aL)))) ?_;rintro H3 t3 _ x3 ⟨_,⟨_,_,⟨_,⟨_,_,rfl,⟨_,_,rfl,rfl,rfl⟩,rfl⟩,rfl⟩,⟨_,_,⟨_,⟨_,_,rfl,⟨_,_,⟨_,⟨_,_,rfl,⟨_,_,rfl,rfl,rfl⟩,rfl⟩,rfl⟩,rfl,rfl⟩,rfl⟩,rfl⟩,⟨_,_,⟨_,⟨_,_,rfl,⟨_,_,⟨_,⟨_,_,rfl,⟨_,_,rfl,rfl,rfl⟩,rfl⟩,rfl⟩,rfl,rfl⟩,rfl⟩,rfl⟩,rfl,rfl⟩,rfl⟩,rfl⟩,rfl⟩ rt3<;>(refine hN9 _ _ ?_;clear hN9 N9)
 have tl3:=tl2.ext x3
 have kt3:=x3.kt hfF
 have rk3:=rk2.kt kt3
 have ro3:=ro2.kt kt3
 have hn3:=tl3.st.hn
 have i9:fR (xs.map V.str) 9=some (.str (wf xs 9)):=aN (j:=9) (by rw[List.getElem?_map,fk (by omega)];rfl)
 clear x1 rt1 rk2 rt2 ro2 tl tl1 tl2 hfF hnF kt3 x2 x3
 fail "R"
 intro p1 hp1
 have s1:=ae hp1 (.tup [.str (wf xs 9),t3,ut])
 have rd1:Rp K (upd H3 p1 (.tup [.str (wf xs 9),t3,ut])) (zF (mainD (wf xs) tm)) (.ref p1):=Rp.new (K:=K) hp1 (.cons .s (.cons rt3 (.one tl3.rt)))
 have tl4:=tl3.same s1
 have rk4:=rk3.same s1
 have ro4:=ro3.same s1
 generalize upd H3 p1 (.tup [.str (wf xs 9),t3,ut])=H4 at s1 rd1 tl4 rk4 ro4⊢
 clear tl3 rk3 ro3 rt3 hn3 s1 hp1
 fail "R"
 intro p2 hp2
 have s2:=ae hp2 (.tup [t2,.ref p1])
 have rd2:Rp K (upd H4 p2 (.tup [t2,.ref p1])) (.t (([qz (wf xs)]++[mainD (wf xs) tm]).map zF)) (.ref p2):=Rp.new (K:=K) hp2 (.cons ro4 (.one rd1))
 have tl5:=tl4.same s2
 have rk5:=rk4.same s2
 generalize upd H4 p2 (.tup [t2,.ref p1])=H5 at s2 rd2 tl5 rk5⊢
 clear tl4 rk4 ro4 rd1 s2 hp2
 fail "R"
 intro p3 hp3
 have s3:=ae hp3 (.tup [t1,.ref p2])
 have rd3:Rp K (upd H5 p3 (.tup [t1,.ref p2])) (Bm kd ([qz (wf xs)]++[mainD (wf xs) tm])) (.ref p3):=Rp.new (K:=K) hp3 (.cons rk5 (.one rd2))
 have tl6:=tl5.same s3
 generalize upd H5 p3 (.tup [t1,.ref p2])=H6 at s3 rd3 tl6⊢
 clear tl5 rk5 rd2 s3 hp3
 have hD:=DW hw tm
 have hds:∀d'∈[qz (wf xs)]++[mainD (wf xs) tm],d'.2.1.length<=900:=fun d' h=>by
  rcases List.mem_cons.mp h with rfl|h
  ·exact(show 2<=900 by decide)
  ·rw[List.mem_singleton.mp h];exact(show 3<=900 by decide)
 have eE:b9 [] ((mainD (wf xs) tm).2.1.map (·.1)) [a0,a1,a2]=env:=by rw[he.e];rfl
 have hR8:R.length<=8:=by have:=dn.len;simpa using this
 have hc:=dn.c
 cases o with
 |none =>
  obtain⟨s',bs,m1,l1⟩:=dn.bad rfl (([qz (wf xs)]++[mainD (wf xs) tm]).map xg)
  obtain⟨n9,fin,R9,f1,f2'⟩:=Bx (by decide) bs (Nat.le_trans m1 (by decide)) (Nat.le_trans l1 (by decide))
  have f2'':fin.failed=true:=f2'
  obtain rfl:vo=.eW:=tl6.ro
  rw[←eE]at R9
  fail "R"
  refine rM ⟨.ref p3,lt,false,kd,[qz (wf xs)],mainD (wf xs) tm,[a0,a1,a2],tv,fin,n9,rfl,rd3,cR.of tl6.hlt,tl6.rtv,rfl,(show 1<900 by decide),hds,R9,f1,fun H7 u s7 ru=>?_⟩
  have ru':Rp K H7 (.t [.s "fault"]) u:=by unfold resT at ru;rw[if_pos f2'']at ru;exact ru
  have sm7:=tl6.sm.trans s7
  clear R9 f1 f2' f2'' bs ru rd3 tl6 hds eE hD RU
  fail "R"
  intro q2 hq2
  have s8:=ae hq2 (.tup [.str "fault"])
  have r8:Rp K (upd H7 q2 (.tup [.str "fault"])) (.t [.s "fault"]) (.ref q2):=Rp.new (K:=K) hq2 (.one .s)
  have r8':=ru'.same s8
  generalize upd H7 q2 (.tup [.str "fault"])=H8 at s8 r8 r8' ⊢
  refine⟨_,_,r8',r8,by decide,?_⟩
  rw[decide_eq_true rfl]
  exact k _ (sm7.trans s8)
 |some t =>
  obtain⟨sz,bs⟩:=dn.ok t rfl
  obtain⟨n9,fin,R9,f1,f2'⟩:=Bx (by decide) (bs _ hD) (Nat.le_trans hc (by decide)) (Nat.le_trans hR8 (by decide))
  have f2'':fin=⟨c,false,R,[t],[]⟩:=f2'
  subst f2''
  rw[←eE]at R9
  have sh:=vG (c:=c) sz (dn.rb (fun _ h=>nomatch h)) (by omega) (by omega)
  fail "R"
  refine rM ⟨.ref p3,lt,false,kd,[qz (wf xs)],mainD (wf xs) tm,[a0,a1,a2],tv,_,n9,rfl,rd3,cR.of tl6.hlt,tl6.rtv,rfl,(show 1<900 by decide),hds,R9,f1,fun H7 u s7 ru=>?_⟩
  have ru':Rp K H7 (.t [.s "sheet",.t [t,.t R],.i c]) u:=ru
  have tl7:=tl6.same s7
  have rth:Rp K H7 t vo:=tl7.ro
  have nn:=DV sz.ok rth
  have sm7:=tl7.sm
  obtain⟨_,dgr,_,_,_⟩:=tl7.st.g
  obtain⟨rv,er,rr⟩:=tl7.st.rr
  clear R9 f1 f2' bs ru rd3 tl6 hds eE hD RU tl7
  fail "R"
  refine bX (fun c=>absurd (of_decide_eq_true c) nn) (fun _=>?_)
  fail "R"
  refine .inl ⟨cR.of er,fun c1 hc1=>?_⟩
  have s40:=ae hc1 (.tup rv)
  have r40:Rp K (upd H7 c1 (.tup rv)) (.t R) (.ref c1):=Rp.new (K:=K) hc1 rr
  fail "R"
  intro c2 hc2
  have s41:=s40.trans (ae hc2 (.tup [vo,.ref c1]))
  have r41:Rp K (upd (upd H7 c1 (.tup rv)) c2 (.tup [vo,.ref c1])) (.t [t,.t R]) (.ref c2):=Rp.new (K:=K) hc2 (.cons (rth.same s40) (.one r40))
  fail "R"
  intro c3 hc3
  have r42:Rp K (upd (upd (upd H7 c1 (.tup rv)) c2 (.tup [vo,.ref c1])) c3 (.tup [.str "sheet",.ref c2,.int c])) (.t [.s "sheet",.t [t,.t R],.i c]) (.ref c3):=Rp.new (K:=K) hc3 (.cons .s (.cons r41 (.one .i)))
  fail "R"
  rw[decide_eq_true rfl]
  exact k _ (sm7.trans (s41.trans (ae hc3 _)))
end
noncomputable def DX(ln lr:Addr)(tn:Int):List (Key×V):=[(Sum.inr "names",.ref ln),(Sum.inr "rows",.ref lr),(Sum.inr "gaps",.int 0),(Sum.inr "turn",.int tn)]
theorem Gi(ln lr:Addr)(tn:Int):d9 [] (DX ln lr tn)=DX ln lr tn:=by kernel_rfl
theorem DY(ln lr:Addr)(tn:Int)(av:V):putK (DX ln lr tn) (Sum.inr "around") av=stK ln lr 0 tn av:=by kernel_rfl
structure xJ(K:PySem.W.Frag) (H0 H:Hp) (f ln lt:Addr) (xs:List Str) (ts:List T) (tv:List V):Prop where
 sm:br H0 H
 nf:H0 f=none
 hf:bQ H f
 hn:H ln=some (.lst (xs.map V.str))
 hlt:H lt=some (.lst tv)
 nlt:lt≠f
 nltn:lt≠ln
 nl0:H0 lt=none
 rtv:bB K H ts tv
section
variable {K:PySem.W.Frag}{H0 H H':Hp}{f ln lt:Addr}{xs:List Str}{ts:List T}{tv:List V}
theorem xJ.ext(h:xJ K H0 H f ln lt xs ts tv)(x:Ext f H H'):xJ K H0 H' f ln lt xs ts tv :=
 ⟨tS h.sm h.nf x,h.nf,x.2,x.1 ln _ (oF h.hf h.hn) h.hn,x.1 lt _ h.nlt h.hlt,h.nlt,h.nltn,h.nl0,h.rtv.kt (x.kt h.hf)⟩
theorem xJ.same(h:xJ K H0 H f ln lt xs ts tv)(s:br H H'):xJ K H0 H' f ln lt xs ts tv :=
 ⟨h.sm.trans s,h.nf,gc h.hf s,s _ _ h.hn,s _ _ h.hlt,h.nlt,h.nltn,h.nl0,h.rtv.same s⟩
theorem xJ.app{t:T}{v:V}(h:xJ K H0 H f ln lt xs ts tv)(r:Rp K H t v):xJ K H0 (upd H lt (.lst (tv++[v]))) f ln lt xs (ts++[t]) (tv++[v]):=by
 obtain⟨p,q,e⟩:=h.hf
 exact⟨fun b u e=>by rw[au (aF e h.nl0)];exact h.sm b u e,h.nf,⟨p,q,by rw[au h.nlt.symm];exact e⟩,by rw[au h.nltn.symm];exact h.hn,ah,h.nlt,h.nltn,h.nl0,(h.rtv.snoc r).kt (Kt.lst h.hlt _)⟩
end
theorem Ic{K:PySem.W.Frag}{i j l:Nat}{v0 v1 v2:V}{a:Addr}{σ:L2.St}{H:Hp}{Q:L2.St->Hp->Prop}(sq:bT K H a [v0,v1,v2])(h:Q (((σ.set i (some v0)).set j (some v1)).set l (some v2)) H):uf K 3 (iB (dW i) (iB (dW j) (iB (dW l) vJ))) (.ref a) σ H Q:=⟨a,_,rfl,sq,rfl,by
 first|exact⟨_,_,rfl,_,_,rfl,_,_,rfl,rfl,h⟩|exact⟨_,_,rfl,_,_,rfl,_,_,rfl,h⟩⟩
theorem xJ.Ie{K:PySem.W.Frag}{H0 H:Hp}{f ln lt d:Addr}{xs:List Str}{ts:List T}{tv:List V}{o o':List (Key×V)}(h:xJ K H0 H f ln lt xs ts tv)(ed:H d=some (.dK o))(nd0:H0 d=none):xJ K H0 (upd H d (.dK o')) f ln lt xs ts tv:=by
 obtain⟨p,q,e⟩:=h.hf
 exact⟨fun b u e=>by rw[au (aF e nd0)];exact h.sm b u e,h.nf,⟨p,q,by rw[au (cF e ed (fun z=>nomatch z))];exact e⟩,by rw[au (cF h.hn ed (fun z=>nomatch z))];exact h.hn,by rw[au (cF h.hlt ed (fun z=>nomatch z))];exact h.hlt,h.nlt,h.nltn,h.nl0,h.rtv.kt (Kt.upd ed (fun _ z=>nomatch z) (fun _ _ z=>nomatch z) _)⟩
theorem Ig{xs:List Str}{i:Nat}(h:i<xs.length):xs[i]=wf xs i:=by
 have:=fk h
 rw[List.getElem?_eq_getElem h]at this
 injection this
theorem Eu{xs:List Str}(lx:xs.length=10):jV (xs.map V.str) (some 5) (some 8)=[wf xs 5,wf xs 6,wf xs 7].map V.str:=by
 have e:jV (xs.map V.str) (some 5) (some 8)=((xs.map V.str).drop 5).take 3:=by
  unfold jV
  rw[List.length_map,lx]
  rfl
 rw[e,List.drop_eq_getElem_cons (i:=5) (by rw[List.length_map];omega),List.drop_eq_getElem_cons (i:=6) (by rw[List.length_map];omega),List.drop_eq_getElem_cons (i:=7) (by rw[List.length_map];omega)]
 simp only[List.getElem_map,List.take_succ_cons,List.take_zero,List.map_cons,List.map_nil,Ig]
theorem Ih{xs:List Str}(lx:xs.length=10)(hx:∀x∈xs,x.length<=20/\Lo x)(un:Un xs):WN (wf xs):=by
 refine⟨fun i=>?_,fun i j hi hj hij e=>?_⟩
 ·by_cases h:i<xs.length
  ·exact hx _ (List.mem_of_getElem? (fk h))
  ·have:wf xs i="":=by unfold wf;rw[List.getD_eq_getElem?_getD,List.getElem?_eq_none (by omega)];rfl
   rw[this]
   exact eS (by decide +kernel)
 ·exact hij (un i j _ (fk (by omega)) (by rw[e];exact fk (by omega)))
theorem none_of{H0 H:Hp}{b:Addr}(s:br H0 H)(h:H b=none):H0 b=none:=by
 cases q:H0 b with
 |none=>rfl
 |some u=>rw[s _ _ q]at h;cases h
section
variable {P:Program}{w:World}{K:PySem.W.Frag}{mg:Str->Option Value}{base:Heap}{C:Addr}
variable {gR gF gT gN gU gA:Addr}{rfd ffd tfd nfd ufd afd:FuncData}
theorem zR{f:Addr}{cdv:Value}{A:Around}{outer:List PySem.Env}{s:Shared}{H0:Hp}{E:XK}(RU:bG P w K mg base "run" 7 ["program","inputs","most"] (kj K) gR rfd)(TK:bG P w K mg base "_law_take" 1 ["_law_feed_here","_law_many"] dJ gT tfd)(AN:bG P w K mg base "_law_any" 7 ["_law_feed_here","_law_state","_law_form"] (eM K (fun ms=>∃fm:Int,ms=[.int fm])) gA afd)(z_tuple:mg "tuple"=none)(z_list:mg "list"=none)(z_zip:mg "zip"=none)(z_repr:mg "repr"=none)(hr:cT 7 (A.deeper (PyProof.Rows.envOfC "_law_right" (af cH) s.heap.objs.size f cdv)))
  {D:L2.Ends}{H:Hp}{x0 x1 x5 x6 x7 x8 x9 x10 x11 x12:Option V}{f2 ln lt:Addr}{xs:List Str}{a0 a1 a2:T}{tv:List V}(th:xJ K H0 H f2 ln lt xs [a0,a1,a2] tv) (lx:xs.length=10) (hw:WN (wf xs)) (va0:Vn a0) (va1:Vr a1) (va2:Vt (wf xs) a2) (k:∀H',br H0 H'->D.rt (.bl true) H') :
  kh (ji dX P w K mg base ["_law_script","_law_k","_law_feed_here","_law_w","_law_things","_law_state","_law_term","_law_thing","_law_many","_law_kinds","_law_one","_law_params","_law_found"] "_law_right" (af cH) f cdv A outer s H0 E).tX ((bz cH).drop 5) D [x0,x1,some (.ref f2),some (.ref ln),some (.ref lt),x5,x6,x7,x8,x9,x10,x11,x12] H:=by
 refine gb ((Z4 (Z2 ck.nd cC 5 (@BU _ _ _ _ _ _ _ _ _ _ _ _ _ _ _ _ _ _ aq (va aB 3) aq (b8 aj) aq ak aq (Z0 TK (cE (va aB 2) (Zb ak))))) (Z4 (@su _ _ _ _ _ _ _ _ _ (lX hr) (va aB 5) aq (Z9 bH z_tuple PyProof.Rows.boot_tuple (Z1 (@uN _ _ _ _ _ _ _ _ rfl (by show _=_;kernel_rfl) z_list (by show _=_;kernel_rfl) z_zip (Z1 (iC se (va aB 3) (fF ak) (fF ak)) (Zb (va aB 4))) (by rfl) (by rfl) (by rfl)) aj)) (by rfl)) (Z4 (Zi (Z0 AN (Z1 (va aB 2) (Z1 (va aB 5) (Z1 (Z0 TK (cE (va aB 2) (Zb ak))) aj)))) (Zf (3) (Ze (ga ck.nd cC 6) (Ze (ga ck.nd cC 7) (aQ (ga ck.nd cC 8) bh))))) eR)))) ?_
 try dsimp only[bY]
 have hf:=th.hf
 fail "R"
 intro d hd
 have s4:=ae hd (.dK [])
 have hd4:upd H d (.dK []) d=some (.dK []):=ah
 have nd0:=none_of th.sm hd
 fail "R"
 intro lr hlr
 have s5:=ae hlr (.lst [])
 have hf5:bQ (upd (upd H d (.dK [])) lr (.lst [])) f2:=gc hf (s4.trans s5)
 have nlr0:=none_of (th.sm.trans s4) hlr
 have nlrf:lr≠f2:=iW (gc hf s4) hlr
 have nlrn:lr≠ln:=fun z=>by have:=s4 _ _ th.hn;rw[←z,hlr]at this;cases this
 have nlrt:lr≠lt:=fun z=>by have:=s4 _ _ th.hlt;rw[←z,hlr]at this;cases this
 fail "R"
 intro tn H6 t0 t1 x6
 have th6:=(th.same (s4.trans s5)).ext x6
 have hd6:=x6.1 d _ (fun z=>by obtain⟨p,q,e⟩:=hf;rw[←z,hd]at e;cases e) (s5 _ _ hd4)
 have hl6:=x6.1 lr _ nlrf ah
 clear th hf hf5 s4 s5 hd4 hd hlr x6
 fail "R"
 ·exact(show _=(DX ln lr tn).map (fun kv=>(kV kv.1,kv.2))from rfl)
 refine⟨by show 4<=15;decide,?_⟩
 rw[Gi]
 have th7:=th6.Ie (o':=DX ln lr tn) hd6 nd0
 have hl7:upd H6 d (.dK (DX ln lr tn)) lr=some (.lst []):=by rw[au (cF hl6 hd6 (fun z=>nomatch z))];exact hl6
 have hd7:upd H6 d (.dK (DX ln lr tn)) d=some (.dK (DX ln lr tn)):=ah
 generalize upd H6 d (.dK (DX ln lr tn))=H7 at th7 hl7 hd7⊢
 clear th6 hd6 hl6
 have hn7:=th7.hn
 have ll:(jV (xs.map V.str) (some 5) (some 8)).length<=sizeLine:=by rw[Eu lx];exact small (show 3<=1000 by decide)
 fail "R"
 intro q1 hq1
 rw[Eu lx]
 have s8:=ae hq1 (.lst ([wf xs 5,wf xs 6,wf xs 7].map V.str))
 have e8:upd H7 q1 (.lst ([wf xs 5,wf xs 6,wf xs 7].map V.str)) q1=some (.lst ([wf xs 5,wf xs 6,wf xs 7].map V.str)):=ah
 have th8:=th7.same s8
 have hl8:=s8 _ _ hl7
 have hd8:=s8 _ _ hd7
 generalize upd H7 q1 (.lst ([wf xs 5,wf xs 6,wf xs 7].map V.str))=H8 at s8 e8 th8 hl8 hd8⊢
 clear th7 hl7 hd7 hn7 s8 ll
 have hlt8:=th8.hlt
 have ltv:=th8.rtv.length
 have ltv3:tv.length=3:=ltv
 fail "R"
 intro lz tss H9 zo hlz hlz9
 have zp:=qV (ns:=[a0,a1,a2]) rfl zo th8.rtv
 have s9:=zo.1
 fail "R"
 refine .inl ⟨cR.of hlz9,fun b6 hb6=>?_⟩
 have s10:=s9.trans (ae hb6 (.tup (tss.map V.ref)))
 have ar:Rp K (upd H9 b6 (.tup (tss.map V.ref))) (dh [(wf xs 5,a0),(wf xs 6,a1),(wf xs 7,a2)]) (.ref b6):=Rp.new (K:=K) hb6 zp
 have th10:=th8.same s10
 have hl10:=s10 _ _ hl8
 have hd10:=s10 _ _ hd8
 generalize upd H9 b6 (.tup (tss.map V.ref))=H10 at s10 ar th10 hl10 hd10⊢
 clear zp s9 zo hlz hlz9 th8 hl8 hd8 e8 s10 hlt8 hb6
 have pp:=oV.k (k:=Sum.inr "around") (v:=.ref b6) hd10 (bu (by show 4<=1000;decide))
 rw[DY]at pp
 have k11:Kt H10 (upd H10 d (.dK (stK ln lr 0 tn (.ref b6)))):=Kt.upd hd10 (fun _ z=>nomatch z) (fun _ _ z=>nomatch z) _
 have th11:=th10.Ie (o':=stK ln lr 0 tn (.ref b6)) hd10 nd0
 have st11:jJ K (upd H10 d (.dK (stK ln lr 0 tn (.ref b6)))) f2 d ln lr xs 0 tn [(wf xs 5,a0),(wf xs 6,a1),(wf xs 7,a2)] []:=⟨th11.hf,⟨.ref b6,ah,ar.kt k11⟩,th11.hn,⟨[],by rw[au (cF hl10 hd10 (fun z=>nomatch z))];exact hl10,.nil⟩,nlrf,nlrn⟩
 generalize upd H10 d (.dK (stK ln lr 0 tn (.ref b6)))=H11 at pp k11 th11 st11
 have hf11:=th11.hf
 have nld:lt≠d:=cF th10.hlt hd10 (fun z=>nomatch z)
 clear th10 hl10 ar k11
 fail "R"
 intro fm H12 fm0 fm1 x12
 have th12:=th11.ext x12
 have hE:E3 (wf xs) [(wf xs 5,a0),(wf xs 6,a1),(wf xs 7,a2)] a0 a1 a2:=⟨rfl,va0,va1,va2⟩
 have ask:Ask K H12 f2 d ln lr xs 0 tn [(wf xs 5,a0),(wf xs 6,a1),(wf xs 7,a2)] [] a0 a1 a2:=⟨st11.ext x12,hw,lx,hE,by decide,t0,by omega,by decide⟩
 have b1:0+6<=12:=by decide
 have b2:([]:List T).length+8<=50:=by decide
 clear th11 st11 hf11 pp hd10 x12
 fail "R"
 intro H13 p vt vo tm o c R' n' env' cg st dn e rt ro
 refine Ic (bT.of e) ?_
 have tl:Tl K H0 H13 f2 d ln lr lt xs n' tn env' R' a0 a1 a2 tm o vt vo tv:=⟨fun b u e=>cg b u (aF e th12.nf) (aF e nd0) (aF e nlr0) (th12.sm b u e),th12.nf,st,cg lt _ th12.nlt nld nlrt.symm th12.hlt,th12.nlt,th12.rtv.kt (ask.st.kt cg),rt,ro⟩
 fail "R"
 (try refine Cut.go (by assumption) ?_);exact xH RU z_tuple z_repr hr tl lx hw hE dn k
end
section
variable {P:Program}{w:World}{K:PySem.W.Frag}{mg:Str->Option Value}{base:Heap}{C:Addr}
variable {gR gF gT gN gU gA:Addr}{rfd ffd tfd nfd ufd afd:FuncData}
theorem Cs{f:Addr}{fd:FuncData}(F:gJ K "_law_right" "_law_right" cH f fd)(RU:bG P w K mg base "run" 7 ["program","inputs","most"] (kj K) gR rfd)(FD:bG P w K mg base "_law_feed" 1 ["_law_script","_law_k"] (AL K) gF ffd)(TK:bG P w K mg base "_law_take" 1 ["_law_feed_here","_law_many"] dJ gT tfd)
  (NM:bG P w K mg base "_law_names" 2 ["_law_feed_here","_law_many"] yo gN nfd) (NU:bG P w K mg base "_law_number" 2 ["_law_feed_here"] jw gU ufd) (AN:bG P w K mg base "_law_any" 7 ["_law_feed_here","_law_state","_law_form"] (eM K (fun ms=>∃fm:Int,ms=[.int fm])) gA afd)
  (z_range:mg "range"=none) (z_tuple:mg "tuple"=none) (z_list:mg "list"=none) (z_zip:mg "zip"=none) (z_repr:mg "repr"=none):bF P w K mg base dX 8 f fd ["_law_script","_law_k"] (yF K):=by
 refine F.ok ck (fun vs H Q E h=>?_) (fun cdv A outer s H vs Q E hr h=>?_)
 ·obtain⟨_,_,_,rfl,_⟩:=h
  rfl
 obtain⟨a,ns,kk,rfl,hs,hns,hk0,hk5,k⟩:=h
 refine⟨_,(Z4 (Z2 ck.nd cC 2 (Z0 FD (Z1 (va aB 0) (Zb (va aB 1))))) (Z4 (Z2 ck.nd cC 3 (Z0 NM (cE (va aB 2) (Zb ak)))) (Z4 (Z2 ck.nd cC 4 (@b8 _ _ _ _ (Z1 (Z6 (Z1 aq (Z1 (Z0 NU (Zb (va aB 2))) aj))) aj))) (Z4 (Zk (Z8 (va aB 4) (Z1 (Z6 (Z1 aq (Z1 (Z9 bH z_tuple PyProof.Rows.boot_tuple (Z1 (@dR _ _ _ _ _ _ _ _ _ _ _ (af cH) ["_law_script","_law_k","_law_feed_here","_law_w","_law_things","_law_state","_law_term","_law_thing","_law_many","_law_kinds","_law_one","_law_params","_law_found"] ["_law_j"] [2] rfl rfl rfl (by decide +kernel) (@jh _ _ _ _ _ _ (by show _=_;kernel_rfl) z_range (Z1 (Z0 TK (cE (va aB 2) (Zb ak))) aj) (by rfl)) (fun _ _ _ _=>(Za (i:=0) (show(["_law_j","_law_feed_here"]:List Str).Nodup by decide +kernel))) (fun _ _ _ _=>cN) (fun _ _ _ _=>(Z6 (Z1 aq (Z1 (Z0 NU (Zb (va (show Nm ["_law_j","_law_feed_here"] _ by show _=_;kernel_rfl) 1))) aj)))) (by intro _;rfl)) aj)) aj))) aj))) (Z4 (Zk (Z8 (va aB 4) (Z1 (Zc aA (@b8 _ _ _ _ (Z1 (Z6 (Z1 aq (Z1 (Z3 aA (va aB 3)) (Zb (bV aj))))) (Z1 (Z6 (Z1 aq (Z1 (Z3 aA (va aB 3)) (Z1 (Z6 (Z1 (Z3 aA (va aB 4)) (Z1 (Z3 aA (va aB 4)) aj))) aj)))) aj))) (Z0 TK (cE (va aB 2) (Zb ak)))) aj))) eR))))),?_⟩
 try dsimp only[bY]
 fail "R"
 intro f2 H1 s1 n1 hf1
 fail "R"
 intro ln H2 xs x2 nln hln lx0 hx un
 have lx:xs.length=(10:Nat):=lx0
 clear lx0
 have sm2:br H H2:=tS s1 n1 x2
 have hf2:=x2.2
 fail "R"
 intro m0 H3 m00 m01 x3
 have sm3:=tS sm2 n1 x3
 have hn3:=x3.1 ln _ (oF hf2 hln) hln
 have hf3:=x3.2
 clear x2 x3 hf2 hln sm2 s1 hf1 nln hs
 fail "R"
 intro q1 hq1
 have s4:=ae hq1 (.tup [.str "num",.int m0])
 have r4:Rp K (upd H3 q1 (.tup [.str "num",.int m0])) (aZ m0) (.ref q1):=Rp.new (K:=K) hq1 (.cons .s (.one .i))
 generalize upd H3 q1 (.tup [.str "num",.int m0])=H4 at s4 r4⊢
 fail "R"
 intro lt hlt
 have s5:=ae hlt (.lst [.ref q1])
 have e5:upd H4 lt (.lst [.ref q1]) lt=some (.lst [.ref q1]):=ah
 have r5:=r4.same s5
 have sm5:=sm3.trans (s4.trans s5)
 have hn5:=s5 _ _ (s4 _ _ hn3)
 have hf5:=gc hf3 (s4.trans s5)
 have nlt0:H lt=none:=by
  cases q:H lt with
  |none=>rfl
  |some u=>rw[s4 _ _ (sm3 _ _ q)]at hlt;cases hlt
 have nltn:lt≠ln:=fun z=>by have:=s4 _ _ hn3;rw[←z,hlt]at this;cases this
 have nltf:lt≠f2:=iW (gc hf3 s4) hlt
 have th5:xJ K H (upd H4 lt (.lst [.ref q1])) f2 ln lt xs [aZ m0] [.ref q1]:=⟨sm5,n1,hf5,hn5,e5,nltf,nltn,nlt0,.one r5⟩
 generalize upd H4 lt (.lst [.ref q1])=H5 at th5 hf5⊢
 clear r4 s4 s5 sm3 hn3 hf3 hlt hq1 e5 r5 sm5 hn5
 have hl5:=th5.hlt
 fail "R"
 intro y H6 y0 y3 x6
 have th6:=th5.ext x6
 clear th5 x6 hf5
 fail "R"
 obtain⟨m,rfl⟩:∃m:Nat,y=(m:Int):=⟨y.toNat,by omega⟩
 rw[Int.toNat_natCast]
 refine jC (n:=m) (fun i σ us Hc=>(∃x,σ=[x,some (.ref f2)])/\xJ K H Hc f2 ln lt xs [aZ m0] [.ref q1]/\∃ts:List T,ts.length=i/\(∀t∈ts,Vn t)/\bB K Hc ts us) ⟨⟨_,rfl⟩,th6,[],rfl,(fun _ h=>nomatch h),.nil⟩ ?_ (small (by omega)) ?_ ?_
 ·rintro i σ us Hc _ ⟨_,_,ts,hl,_,r⟩
  rw[r.length,hl];exact Nat.le_refl _
 ·rintro i σ us Hc hi ⟨⟨x,rfl⟩,thi,ts,hl,hv,r⟩
  have hfi:=thi.hf
  fail "R"
  intro nb Hd nb0 nb1 xd
  fail "R"
  intro q hq
  have rn:Rp K (upd Hd q (.tup [.str "num",.int nb])) (aZ nb) (.ref q):=Rp.new (K:=K) hq (.cons .s (.one .i))
  exact⟨⟨_,rfl⟩,(thi.ext xd).same (ae hq _),ts++[aZ nb],by rw[List.length_append,hl];rfl,fun t ht=>by
   rcases List.mem_append.mp ht with ht|ht
   ·exact hv t ht
   ·rw[List.mem_singleton.mp ht];exact .num ⟨nb0,nb1⟩,((r.kt (xd.kt hfi)).same (ae hq _)).snoc rn⟩
 rintro σ us Hc ⟨_,thi,ts,hl,hv,r⟩ q3 hq3
 have lus:=r.length
 have s7:=ae hq3 (.lst us)
 have th7:=thi.same s7
 have r7:=r.same s7
 have e7:upd Hc q3 (.lst us) q3=some (.lst us):=ah
 generalize upd Hc q3 (.lst us)=H7 at s7 th7 r7 e7⊢
 clear thi r s7 th6 hq3
 fail "R"
 refine .inl ⟨cR.of e7,fun p4 hp4=>?_⟩
 have s8:=ae hp4 (.tup us)
 have r8:Rp K (upd H7 p4 (.tup us)) (.t ts) (.ref p4):=Rp.new (K:=K) hp4 r7
 have th8:=th7.same s8
 generalize upd H7 p4 (.tup us)=H8 at s8 r8 th8⊢
 clear th7 r7 e7 s8
 fail "R"
 intro p5 hp5
 have s9:=ae hp5 (.tup [.str "row",.ref p4])
 have r9:Rp K (upd H8 p5 (.tup [.str "row",.ref p4])) (bD ts) (.ref p5):=Rp.new (K:=K) hp5 (.cons .s (.one r8))
 have th9:=th8.same s9
 generalize upd H8 p5 (.tup [.str "row",.ref p4])=H9 at s9 r9 th9⊢
 clear th8 r8 s9
 have hl9:=th9.hlt
 have z9:[V.ref q1].length<sizeLine:=bu (show 1<=1000 by decide)
 have thA:=th9.app r9
 have va1:Vr (bD ts):=.row (by omega) hv
 have hnA:=thA.hn
 have hlA:=thA.hlt
 have i2:fR (xs.map V.str) 2=some (.str (wf xs 2)):=aN (j:=2) (by rw[List.getElem?_map,fk (by omega)];rfl)
 have i1:fR (xs.map V.str) 1=some (.str (wf xs 1)):=aN (j:=1) (by rw[List.getElem?_map,fk (by omega)];rfl)
 fail "R"
 intro p6 hp6
 have sB:=ae hp6 (.tup [])
 have rB:Rp K (upd (upd H9 lt (.lst ([.ref q1]++[.ref p5]))) p6 (.tup [])) (.t []) (.ref p6):=Rp.new (K:=K) hp6 .nil
 have thB:=thA.same sB
 have hnB:=thB.hn
 generalize upd (upd H9 lt (.lst ([.ref q1]++[.ref p5]))) p6 (.tup [])=HB at sB rB thB hnB⊢
 clear thA hnA hlA th9 r9 hl9 sB hp6
 generalize bD ts=a1 at va1 thB
 have va0:Vn (aZ m0):=.num ⟨m00,m01⟩
 generalize aZ m0=a0 at va0 thB
 fail "R"
 intro p7 hp7
 have sC:=ae hp7 (.tup [.str "tag",.str (wf xs 2),.ref p6])
 have rC:Rp K (upd HB p7 (.tup [.str "tag",.str (wf xs 2),.ref p6])) (jF (wf xs 2) []) (.ref p7):=Rp.new (K:=K) hp7 (.cons .s (.cons .s (.one rB)))
 have thC:=thB.same sC
 generalize upd HB p7 (.tup [.str "tag",.str (wf xs 2),.ref p6])=HC at sC rC thC⊢
 clear thB rB hnB
 have hnC:=thC.hn
 have hlC:=thC.hlt
 obtain⟨_,_,e1,rq1,rr⟩:=thC.rtv.inv
 obtain⟨_,_,e2,rp5,rr⟩:=rr.inv
 injection e1 with e1 e1'
 subst e1 e1'
 injection e2 with e2 e2'
 subst e2 e2'
 fail "R"
 intro p8 hp8
 have sD:=ae hp8 (.tup [.ref q1,.ref p5])
 have rD:Rp K (upd HC p8 (.tup [.ref q1,.ref p5])) (.t [a0,a1]) (.ref p8):=Rp.new (K:=K) hp8 (.cons rq1 (.one rp5))
 generalize upd HC p8 (.tup [.ref q1,.ref p5])=HD at sD rD⊢
 fail "R"
 intro p9 hp9
 have sE:=ae hp9 (.tup [.str "tag",.str (wf xs 1),.ref p8])
 have rE:Rp K (upd HD p9 (.tup [.str "tag",.str (wf xs 1),.ref p8])) (jF (wf xs 1) [a0,a1]) (.ref p9):=Rp.new (K:=K) hp9 (.cons .s (.cons .s (.one rD)))
 generalize upd HD p9 (.tup [.str "tag",.str (wf xs 1),.ref p8])=HE at sE rE⊢
 fail "R"
 intro q2 hq2
 have sF:=ae hq2 (.lst [.ref p7,.ref p9])
 have eF:upd HE q2 (.lst [.ref p7,.ref p9]) q2=some (.lst [.ref p7,.ref p9]):=ah
 have thF:=thC.same (sD.trans (sE.trans sF))
 have rCF:=rC.same (sD.trans (sE.trans sF))
 have rEF:=rE.same sF
 have nq2:q2≠f2:=iW (gc thC.hf (sD.trans sE)) hq2
 generalize upd HE q2 (.lst [.ref p7,.ref p9])=HF at sF eF thF rCF rEF⊢
 clear thC rC rD rE sC sD sE sF hnC hlC hq2 rq1 rp5 rr
 have hfF:=thF.hf
 fail "R"
 intro y2 HG y20 y22 xG
 have thG:=thF.ext xG
 have ktG:=xG.kt hfF
 have eG:=xG.1 q2 _ nq2 eF
 have rCG:=rCF.kt ktG
 have rEG:=rEF.kt ktG
 obtain⟨a2,v2,va2,r2,ix2⟩:∃a2 v2,Vt (wf xs) a2/\Rp K HG a2 v2/\fR [V.ref p7,V.ref p9] y2=some v2:=by
  obtain rfl|rfl:y2=0\/y2=1:=by omega
  ·exact⟨_,_,.t2,rCG,rfl⟩
  ·exact⟨_,_,.t1 va0 va1,rEG,rfl⟩
 have hlG:=thG.hlt
 have zG:([V.ref q1]++[V.ref p5]).length<sizeLine:=bu (show 2<=1000 by decide)
 have thH:=thG.app r2
 clear thF rCF rEF rCG rEG ktG xG hfF eF
 have hnH:=thH.hn
 have hlH:=thH.hlt
 fail "R"
 (try refine Cut.go (by assumption) ?_);exact zR RU TK AN z_tuple z_list z_zip z_repr hr thH lx (Ih lx hx un) va0 va1 va2 k
end
noncomputable def yG(K:PySem.W.Frag):Sp:=fun vs H Q _=>∃(a:Addr) (ns:List Int),vs=[.ref a]/\cR K H a (ns.map V.int)/\ns.length<=63/\∀H',Q (.bl true) H'
section
variable {P:Program}{w:World}{K:PySem.W.Frag}{mg:Str->Option Value}{base:Heap}{gR:Addr}{rfd:FuncData}
theorem Gj:aM ["_law_script"] ["_law_script"] (af pA):=⟨rfl,rfl,rfl,by decide +kernel,rfl,by decide +kernel,by decide +kernel⟩
theorem Gk{f:Addr}{fd:FuncData}(F:gJ K "law" "law" pA f fd)(RI:bG P w K mg base "_law_right" 8 ["_law_script","_law_k"] (yF K) gR rfd)(z_all:mg "all"=none):bF P w K mg base dX 9 f fd ["_law_script"] (yG K):=by
 refine F.ok Gj (fun vs H Q E h=>?_) (fun cdv A outer s H vs Q E hr h=>?_)
 ·obtain⟨a,ns,rfl,_⟩:=h
  rfl
 obtain⟨a,ns,rfl,hS,hn,k⟩:=h
 refine⟨_,(Zd (Zm (@gu _ _ _ _ _ _ _ _ _ (AF rfl) (by show _=_;kernel_rfl) z_all PyProof.Rows.boot_all (Z1 (@dR _ _ _ _ _ _ _ _ _ _ _ (af pA) ["_law_script"] ["_law_k"] [0] rfl rfl rfl (by decide +kernel) (@lN _ _ _ _ (@b8 _ _ _ _ (Z1 ak (Z1 ak (Z1 ak (Z1 ak (Z1 ak (Z1 ak (Z1 ak (cE ak (Zb ak))))))))))) (fun _ _ _ _=>(Za (i:=0) (show(["_law_k","_law_script"]:List Str).Nodup by decide +kernel))) (fun _ _ _ _=>cN) (fun _ _ _ _=>(Z0 RI (Z1 (va (show Nm ["_law_k","_law_script"] _ by show _=_;kernel_rfl) 1) (Zb (va (show Nm ["_law_k","_law_script"] _ by show _=_;kernel_rfl) 0))))) (by intro _;rfl)) aj) (by decide) (by decide) (by rfl) (by rfl)))),?_⟩
 try dsimp only[bY]
 fail "R"
 intro l hl
 have sC:=ae hl (.lst [.int 0,.int 1,.int 2,.int 3,.int 4,.int 5,.int 6,.int 7,.int 0])
 have hC:upd H l (.lst [.int 0,.int 1,.int 2,.int 3,.int 4,.int 5,.int 6,.int 7,.int 0]) l=some (.lst ([0,1,2,3,4,5,6,7,0].map V.int)):=ah
 have hS1:=sC.seq hS
 generalize upd H l (.lst [.int 0,.int 1,.int 2,.int 3,.int 4,.int 5,.int 6,.int 7,.int 0])=H1 at hC hS1⊢
 fail "R"
 refine ku (xs:=[0,1,2,3,4,5,6,7,0].map V.int) (fun i σ us Hd=>(∃x,σ=[x,some (.ref a)])/\br H1 Hd/\us=(List.replicate i true).map V.bl) ⟨⟨_,rfl⟩,br.refl _,rfl⟩ ?_ (small (by decide)) ?_ ?_ ?_
 ·rintro i σ us Hd _ ⟨_,_,rfl⟩
  rw[List.length_map,List.length_replicate];exact Nat.le_refl _
 ·rintro i σ us Hd _ ⟨_,sm,_⟩
  exact cR.of (sm _ _ hC)
 ·rintro i x σ us Hd hx ⟨⟨x0,rfl⟩,sm,rfl⟩
  rw[List.getElem?_map]at hx
  obtain⟨kk,hpp,rfl⟩:=Option.map_eq_some_iff.mp hx
  have hpm:=List.mem_of_getElem? hpp
  have hk:0<=kk/\kk<=50:=by
   simp only[List.mem_cons,List.not_mem_nil,or_false]at hpm
   omega
  have h0:=hk.1
  have h5:=hk.2
  have hSd:=sm.seq hS1
  fail "R"
  intro Hf sf
  refine⟨⟨_,rfl⟩,sm.trans sf,?_⟩
  rw[List.replicate_succ',List.map_append]
  rfl
 ·rintro σ us Hd ⟨_,sm,rfl⟩ pz hpz
  have hZ:upd Hd pz (.lst ((List.replicate ([0,1,2,3,4,5,6,7,0].map V.int).length true).map V.bl)) pz=some (.lst ((List.replicate ([0,1,2,3,4,5,6,7,0].map V.int).length true).map V.bl)):=ah
  fail "R"
  rw[show(List.replicate ([0,1,2,3,4,5,6,7,0].map V.int).length true).all id=true by simp]
  exact k _
end
end G27
namespace G27
open PySem L2 PySem.W
structure FnAt(K:Frag) (x qual:Str) (st:Stmt) (f:Addr) (fd:FuncData):Prop where
 ex:∃(od:Option Addr) (kV doc pm:Value) (an:Option Addr) (cdv ct:Value) (osl:Array (Option Value)),
  fd=fnOf x qual (ko st) (bz st) (af st) .none kV doc pm an cdv ct/\K.lookup f=some ⟨.type "function",od,.func fd,osl⟩/\codeIn K cdv qual=true
 kp:keepIn K (.ref f)=true
theorem FnAt.f{K:Frag}{x qual:Str}{st:Stmt}{f:Addr}{fd:FuncData}(F:FnAt K x qual st f fd):gJ K x qual st f fd:=by
 obtain⟨od,kV,doc,pm,an,cdv,ct,osl,e,l,c⟩:=F.ex
 exact⟨⟨_,od,kV,doc,pm,an,cdv,ct,osl,e,l,c⟩,F.kp⟩
theorem aO{K:Frag}{x qual:Str}{st:Stmt}{f:Addr}{od an:Option Addr}{osl:Array (Option Value)}{kV doc pm cdv ct:Value}(l:K.lookup f=some ⟨.type "function",od,.func (fnOf x qual (ko st) (bz st) (af st) .none kV doc pm an cdv ct),osl⟩)
  (c:codeIn K cdv qual=true) (k:keepIn K (.ref f)=true):FnAt K x qual st f (fnOf x qual (ko st) (bz st) (af st) .none kV doc pm an cdv ct):=⟨⟨od,kV,doc,pm,an,cdv,ct,osl,rfl,l,c⟩,k⟩
noncomputable def qg(K:Frag)(a:Addr)(ns:List Nat):Bool:=match K.lookup a with
 |some ⟨.type "tuple",none,.seq its _,_⟩=>its.toList.length == ns.length&&(its.toList.zip ns).all (fun p=>match p.1 with|.int i _=>i == (p.2:Int)|_=>false)
 |_=>false
theorem jO{K:Frag}{a:Addr}{ns:List Nat}(h:qg K a ns=true)(hn:ns.length<=10):∀H,bT K H a (ns.map fun(j:Nat)=>V.int (j:Int)):=by
 intro H
 unfold qg at h
 split at h
 ·rename_i its n sl e
  rw[Bool.and_eq_true]at h
  obtain⟨h1,h2⟩:=h
  replace h1:=eq_of_beq h1
  have hz:its.size<=sizeLine:=by
   have z:its.toList.length=its.size:=by simp
   exact small (by omega)
  refine .inr ⟨_,its,n,e,rfl,rfl,hz,?_,rfl⟩
  clear hz e
  generalize its.toList=l at h1 h2
  clear hn
  induction l generalizing ns with
  |nil=>cases ns with
   |nil=>exact .nil
   |cons _ _=>simp at h1
  |cons v r ih =>
   cases ns with
   |nil=>simp at h1
   |cons m q =>
    rw[List.zip_cons_cons,List.all_cons,Bool.and_eq_true]at h2
    obtain⟨h3,h4⟩:=h2
    refine .cons ?_ (ih (by simpa using h1) h4)
    split at h3
    ·rename_i i t e'
     have:i=(m:Int):=eq_of_beq h3
     subst this
     exact⟨t,e'⟩
    ·cases h3
 ·cases h
theorem tT{α:Type}{P:List α->Prop}(h:∀a,P [a]):∀us:List α,us.length=1->P us
 | [a],_=>h a
theorem fS{α:Type}{P:List α->Prop}(h:∀a b,P [a,b]):∀us:List α,us.length=2->P us
 | [a,b],_=>h a b
theorem tU{α:Type}{P:List α->Prop}(h:∀a b c,P [a,b,c]):∀us:List α,us.length=3->P us
 | [a,b,c],_=>h a b c
theorem all_mk{l:OpenLaw}{w:World}{K:Frag}{h:Heap}{mg:Str->Option Value}{g1 g2 g3 g4 g5 g6 g7 g8 g9 g10 g11 g12 g13 g14 g15 g16 g17 g18 g19 g20 g21 g22 g23 g24 g25 g26 g27 g28 g29 g30 g31 g32 g33 g34 g35 g36 g37 g38 g39 g40 m1 m2 m3 m4 m5 m6 C fa dP dM dD dT t0 t1 t2 t3 t4 t5 t6 t7 t8:Addr}{e1 e2 e3 e4 e5 e6 e7 e8 e9 e10 e11 e12 e13 e14 e15 e16 e17 e18 e19 e20 e21 e22 e23 e24 e25 e26 e27 e28 e29 e30 e31 e32 e33 e34 e35 e36 e37 e38 e39 e40 d1 d2 d3 d4 d5 d6:FuncData}{esP esM esD esT:Array DictEntry}{nP nM nD nT:Nat}{tkW:Tok}(X:K.In h)(G:h.Ns mainGlobals mg)(hfa:mg "law"=some (.ref fa))
  (a1:nsIn K mainGlobals "right_in"=some (some (.ref g1)))
  (a2:nsIn K mainGlobals "inner_terms"=some (some (.ref g2)))
  (a3:nsIn K mainGlobals "bound_to"=some (some (.ref g3)))
  (a4:nsIn K mainGlobals "is_left"=some (some (.ref g4)))
  (a5:nsIn K mainGlobals "op_number"=some (some (.ref g5)))
  (a6:nsIn K mainGlobals "do_gap"=some (some (.ref g6)))
  (a7:nsIn K mainGlobals "do_op"=some (some (.ref g7)))
  (a8:nsIn K mainGlobals "do_more"=some (some (.ref g8)))
  (a9:nsIn K mainGlobals "do_first"=some (some (.ref g9)))
  (a10:nsIn K mainGlobals "do_long"=some (some (.ref g10)))
  (a11:nsIn K mainGlobals "do_match"=some (some (.ref g11)))
  (a12:nsIn K mainGlobals "do_if"=some (some (.ref g12)))
  (a13:nsIn K mainGlobals "do_fold"=some (some (.ref g13)))
  (a14:nsIn K mainGlobals "do_row"=some (some (.ref g14)))
  (a15:nsIn K mainGlobals "go_round"=some (some (.ref g15)))
  (a16:nsIn K mainGlobals "told_ahead"=some (some (.ref g16)))
  (a17:nsIn K mainGlobals "begin_term"=some (some (.ref g17)))
  (a18:nsIn K mainGlobals "row_of_term"=some (some (.ref g18)))
  (a19:nsIn K mainGlobals "end_term"=some (some (.ref g19)))
  (a20:nsIn K mainGlobals "finish"=some (some (.ref g20)))
  (a21:nsIn K mainGlobals "run"=some (some (.ref g21)))
  (a22:nsIn K mainGlobals "_law_feed"=some (some (.ref g22)))
  (a23:nsIn K mainGlobals "_law_take"=some (some (.ref g23)))
  (a24:nsIn K mainGlobals "_law_names"=some (some (.ref g24)))
  (a25:nsIn K mainGlobals "_law_number"=some (some (.ref g25)))
  (a26:nsIn K mainGlobals "_law_gap"=some (some (.ref g26)))
  (a27:nsIn K mainGlobals "_law_num"=some (some (.ref g27)))
  (a28:nsIn K mainGlobals "_law_row"=some (some (.ref g28)))
  (a29:nsIn K mainGlobals "_law_tag"=some (some (.ref g29)))
  (a30:nsIn K mainGlobals "_law_written"=some (some (.ref g30)))
  (a31:nsIn K mainGlobals "_law_op"=some (some (.ref g31)))
  (a32:nsIn K mainGlobals "_law_of_rows"=some (some (.ref g32)))
  (a33:nsIn K mainGlobals "_law_match"=some (some (.ref g33)))
  (a34:nsIn K mainGlobals "_law_if"=some (some (.ref g34)))
  (a35:nsIn K mainGlobals "_law_fold"=some (some (.ref g35)))
  (a36:nsIn K mainGlobals "_law_rest"=some (some (.ref g36)))
  (a37:nsIn K mainGlobals "_law_twice"=some (some (.ref g37)))
  (a38:nsIn K mainGlobals "_law_any"=some (some (.ref g38)))
  (a39:nsIn K mainGlobals "_law_right"=some (some (.ref g39)))
  (a40:nsIn K mainGlobals "law"=some (some (.ref g40)))
  (F1:FnAt K "right_in" "right_in" fV g1 e1)
  (F2:FnAt K "inner_terms" "inner_terms" gj g2 e2)
  (F3:FnAt K "bound_to" "bound_to" iD g3 e3)
  (F4:FnAt K "is_left" "is_left" kA g4 e4)
  (F5:FnAt K "op_number" "op_number" iQ g5 e5)
  (F6:FnAt K "do_gap" "do_gap" l9 g6 e6)
  (F7:FnAt K "do_op" "do_op" mh g7 e7)
  (F8:FnAt K "do_more" "do_more" jk g8 e8)
  (F9:FnAt K "do_first" "do_first" iE g9 e9)
  (F10:FnAt K "do_long" "do_long" jl g10 e10)
  (F11:FnAt K "do_match" "do_match" fW g11 e11)
  (F12:FnAt K "do_if" "do_if" mj g12 e12)
  (F13:FnAt K "do_fold" "do_fold" jm g13 e13)
  (F14:FnAt K "do_row" "do_row" jn g14 e14)
  (F15:FnAt K "go_round" "go_round" iF g15 e15)
  (F16:FnAt K "told_ahead" "told_ahead" fH g16 e16)
  (F17:FnAt K "begin_term" "begin_term" fJ g17 e17)
  (F18:FnAt K "row_of_term" "row_of_term" eX g18 e18)
  (F19:FnAt K "end_term" "end_term" iG g19 e19)
  (F20:FnAt K "finish" "finish" jo g20 e20)
  (F21:FnAt K "run" "run" uJ g21 e21)
  (F22:FnAt K "_law_feed" "_law_feed" o9 g22 e22)
  (F23:FnAt K "_law_take" "_law_take" pq g23 e23)
  (F24:FnAt K "_law_names" "_law_names" bW g24 e24)
  (F25:FnAt K "_law_number" "_law_number" iH g25 e25)
  (F26:FnAt K "_law_gap" "_law_gap" mq g26 e26)
  (F27:FnAt K "_law_num" "_law_num" iR g27 e27)
  (F28:FnAt K "_law_row" "_law_row" fK g28 e28)
  (F29:FnAt K "_law_tag" "_law_tag" iS g29 e29)
  (F30:FnAt K "_law_written" "_law_written" iT g30 e30)
  (F31:FnAt K "_law_op" "_law_op" fL g31 e31)
  (F32:FnAt K "_law_of_rows" "_law_of_rows" dm g32 e32)
  (F33:FnAt K "_law_match" "_law_match" fu g33 e33)
  (F34:FnAt K "_law_if" "_law_if" j3 g34 e34)
  (F35:FnAt K "_law_fold" "_law_fold" gx g35 e35)
  (F36:FnAt K "_law_rest" "_law_rest" fM g36 e36)
  (F37:FnAt K "_law_twice" "_law_twice" jq g37 e37)
  (F38:FnAt K "_law_any" "_law_any" oh g38 e38)
  (F39:FnAt K "_law_right" "_law_right" cH g39 e39)
  (F40:FnAt K "law" "law" pA g40 e40)
  (M1:FnAt K "__init__" "Work.__init__" gy m1 d1)
  (M2:FnAt K "tell" "Work.tell" iU m2 d2)
  (M3:FnAt K "take" "Work.take" fz m3 d3)
  (M4:FnAt K "do_one" "Work.do_one" gk m4 d4)
  (M5:FnAt K "write" "Work.write" ic m5 d5)
  (M6:FnAt K "go_into" "Work.go_into" fN m6 d6)
  (aC:nsIn K mainGlobals "Work"=some (some (.ref C)))
  (b1:findIn K (.ref C) "__init__"=some (some (.ref m1)))
  (i1:isFn K (.ref m1)=true)
  (b2:findIn K (.ref C) "tell"=some (some (.ref m2)))
  (i2:isFn K (.ref m2)=true)
  (b3:findIn K (.ref C) "take"=some (some (.ref m3)))
  (i3:isFn K (.ref m3)=true)
  (b4:findIn K (.ref C) "do_one"=some (some (.ref m4)))
  (i4:isFn K (.ref m4)=true)
  (b5:findIn K (.ref C) "write"=some (some (.ref m5)))
  (i5:isFn K (.ref m5)=true)
  (b6:findIn K (.ref C) "go_into"=some (some (.ref m6)))
  (i6:isFn K (.ref m6)=true)
  (c1:plainGet K C Str.empty=true) (c2:hasDictIn K C=true) (c3:plainOver K C=true) (c4:findIn K (.ref C) "__setattr__"=some (some (.builtin "object.__setattr__"))) (c5:makesIn K C=true) (c6:keepIn K (.ref C)=true)
  (n1:findIn K (.ref C) "defs"=some none)
  (n2:findIn K (.ref C) "most"=some none)
  (n3:findIn K (.ref C) "many"=some none)
  (n4:findIn K (.ref C) "rows"=some none)
  (n5:findIn K (.ref C) "failed"=some none)
  (n6:findIn K (.ref C) "told"=some none)
  (n7:findIn K (.ref C) "waiting"=some none)
  (aW:nsIn K mainGlobals "WIDE"=some (some (.int 1000000 tkW)))
  (pP:nsIn K mainGlobals "PLACES"=some (some (.ref dP)))
  (lP:K.lookup dP=some {cls:=.type "dict",dict:=none,data:=.dict esP nP,slots:=#[]})
  (kP:Cu w esP.toList [("num",V.ref t0),("name",V.ref t1),("gap",V.ref t2),("op",V.ref t3),("more",V.ref t4),("first",V.ref t5),("others",V.ref t6),("long",V.ref t7),("if",V.ref t8)])
  (sP:(dP == sysModules)=false)
  (pM:nsIn K mainGlobals "PLACE_OF_MANY"=some (some (.ref dM)))
  (lM:K.lookup dM=some {cls:=.type "dict",dict:=none,data:=.dict esM nM,slots:=#[]})
  (kM:Cu w esM.toList pF)
  (sM:(dM == sysModules)=false)
  (pD:nsIn K mainGlobals "DEEDS"=some (some (.ref dD)))
  (lD:K.lookup dD=some {cls:=.type "dict",dict:=none,data:=.dict esD nD,slots:=#[]})
  (kD:Cu w esD.toList [("gap",V.ref g6),("op",V.ref g7),("more",V.ref g8),("first",V.ref g9),("others",V.ref g9),("long",V.ref g10),("match",V.ref g11),("if",V.ref g12),("fold",V.ref g13)])
  (sD:(dD == sysModules)=false)
  (pT:nsIn K mainGlobals "TASKS"=some (some (.ref dT)))
  (lT:K.lookup dT=some {cls:=.type "dict",dict:=none,data:=.dict esT nT,slots:=#[]})
  (kT:Cu w esT.toList [("term",V.ref g17),("rest",V.ref g19),("round",V.ref g15)])
  (sT:(dT == sysModules)=false)
  (q0:qg K t0 []=true)
  (q1:qg K t1 []=true)
  (q2:qg K t2 []=true)
  (q3:qg K t3 [2,3]=true)
  (q4:qg K t4 [1,2]=true)
  (q5:qg K t5 [1]=true)
  (q6:qg K t6 [1]=true)
  (q7:qg K t7 [1]=true)
  (q8:qg K t8 [1,2,3]=true)
  (z0:nsIn K mainGlobals "len"=some none)
  (z1:nsIn K mainGlobals "range"=some none)
  (z2:nsIn K mainGlobals "int"=some none)
  (z3:nsIn K mainGlobals "tuple"=some none)
  (z4:nsIn K mainGlobals "list"=some none)
  (z5:nsIn K mainGlobals "zip"=some none)
  (z6:nsIn K mainGlobals "dict"=some none)
  (z7:nsIn K mainGlobals "repr"=some none)
  (z8:nsIn K mainGlobals "all"=some none)
  (z9:nsIn K mainGlobals "max"=some none) :
  ∃fd:FuncData,(∀(s:Shared) (v:Value),BindsTo s fd ⟨[v],[]⟩ [("_law_script",v)])/\∀base:Heap,K.In base->base.Ns mainGlobals mg->bF l.prog w K mg base dX 9 fa fd ["_law_script"] (yG K):=by
 have e:=hfa.symm.trans (mg_of X G a40)
 cases e
 have B1:=F1.f.binds (ps:=["term"]) fun _ _ _ _ _ _=>tT fun _=>rfl
 have u1:=mg_of X G a1
 have B2:=F2.f.binds (ps:=["term"]) fun _ _ _ _ _ _=>tT fun _=>rfl
 have u2:=mg_of X G a2
 have B3:=F3.f.binds (ps:=["around","names","things"]) fun _ _ _ _ _ _=>tU fun _ _ _=>rfl
 have u3:=mg_of X G a3
 have B4:=F4.f.binds (ps:=["thing"]) fun _ _ _ _ _ _=>tT fun _=>rfl
 have u4:=mg_of X G a4
 have B5:=F5.f.binds (ps:=["sign","a","b"]) fun _ _ _ _ _ _=>tU fun _ _ _=>rfl
 have u5:=mg_of X G a5
 have B6:=F6.f.binds (ps:=["work","row"]) fun _ _ _ _ _ _=>fS fun _ _=>rfl
 have u6:=mg_of X G a6
 have B7:=F7.f.binds (ps:=["work","row"]) fun _ _ _ _ _ _=>fS fun _ _=>rfl
 have u7:=mg_of X G a7
 have B8:=F8.f.binds (ps:=["work","row"]) fun _ _ _ _ _ _=>fS fun _ _=>rfl
 have u8:=mg_of X G a8
 have B9:=F9.f.binds (ps:=["work","row"]) fun _ _ _ _ _ _=>fS fun _ _=>rfl
 have u9:=mg_of X G a9
 have B10:=F10.f.binds (ps:=["work","row"]) fun _ _ _ _ _ _=>fS fun _ _=>rfl
 have u10:=mg_of X G a10
 have B11:=F11.f.binds (ps:=["work","row"]) fun _ _ _ _ _ _=>fS fun _ _=>rfl
 have u11:=mg_of X G a11
 have B12:=F12.f.binds (ps:=["work","row"]) fun _ _ _ _ _ _=>fS fun _ _=>rfl
 have u12:=mg_of X G a12
 have B13:=F13.f.binds (ps:=["work","row"]) fun _ _ _ _ _ _=>fS fun _ _=>rfl
 have u13:=mg_of X G a13
 have B14:=F14.f.binds (ps:=["work","row"]) fun _ _ _ _ _ _=>fS fun _ _=>rfl
 have u14:=mg_of X G a14
 have B15:=F15.f.binds (ps:=["work","task"]) fun _ _ _ _ _ _=>fS fun _ _=>rfl
 have u15:=mg_of X G a15
 have B16:=F16.f.binds (ps:=["term"]) fun _ _ _ _ _ _=>tT fun _=>rfl
 have u16:=mg_of X G a16
 have B17:=F17.f.binds (ps:=["work","task"]) fun _ _ _ _ _ _=>fS fun _ _=>rfl
 have u17:=mg_of X G a17
 have B18:=F18.f.binds (ps:=["term","things","around"]) fun _ _ _ _ _ _=>tU fun _ _ _=>rfl
 have u18:=mg_of X G a18
 have B19:=F19.f.binds (ps:=["work","task"]) fun _ _ _ _ _ _=>fS fun _ _=>rfl
 have u19:=mg_of X G a19
 have B20:=F20.f.binds (ps:=["work"]) fun _ _ _ _ _ _=>tT fun _=>rfl
 have u20:=mg_of X G a20
 have B21:=F21.f.binds (ps:=["program","inputs","most"]) fun _ _ _ _ _ _=>tU fun _ _ _=>rfl
 have u21:=mg_of X G a21
 have B22:=F22.f.binds (ps:=["_law_script","_law_k"]) fun _ _ _ _ _ _=>fS fun _ _=>rfl
 have u22:=mg_of X G a22
 have B23:=F23.f.binds (ps:=["_law_feed_here","_law_many"]) fun _ _ _ _ _ _=>fS fun _ _=>rfl
 have u23:=mg_of X G a23
 have B24:=F24.f.binds (ps:=["_law_feed_here","_law_many"]) fun _ _ _ _ _ _=>fS fun _ _=>rfl
 have u24:=mg_of X G a24
 have B25:=F25.f.binds (ps:=["_law_feed_here"]) fun _ _ _ _ _ _=>tT fun _=>rfl
 have u25:=mg_of X G a25
 have B26:=F26.f.binds (ps:=["_law_state"]) fun _ _ _ _ _ _=>tT fun _=>rfl
 have u26:=mg_of X G a26
 have B27:=F27.f.binds (ps:=["_law_feed_here","_law_state"]) fun _ _ _ _ _ _=>fS fun _ _=>rfl
 have u27:=mg_of X G a27
 have B28:=F28.f.binds (ps:=["_law_feed_here","_law_state"]) fun _ _ _ _ _ _=>fS fun _ _=>rfl
 have u28:=mg_of X G a28
 have B29:=F29.f.binds (ps:=["_law_feed_here","_law_state"]) fun _ _ _ _ _ _=>fS fun _ _=>rfl
 have u29:=mg_of X G a29
 have B30:=F30.f.binds (ps:=["_law_state","_law_row_here"]) fun _ _ _ _ _ _=>fS fun _ _=>rfl
 have u30:=mg_of X G a30
 have B31:=F31.f.binds (ps:=["_law_feed_here","_law_state"]) fun _ _ _ _ _ _=>fS fun _ _=>rfl
 have u31:=mg_of X G a31
 have B32:=F32.f.binds (ps:=["_law_feed_here","_law_state","_law_word"]) fun _ _ _ _ _ _=>tU fun _ _ _=>rfl
 have u32:=mg_of X G a32
 have B33:=F33.f.binds (ps:=["_law_feed_here","_law_state"]) fun _ _ _ _ _ _=>fS fun _ _=>rfl
 have u33:=mg_of X G a33
 have B34:=F34.f.binds (ps:=["_law_feed_here","_law_state"]) fun _ _ _ _ _ _=>fS fun _ _=>rfl
 have u34:=mg_of X G a34
 have B35:=F35.f.binds (ps:=["_law_feed_here","_law_state"]) fun _ _ _ _ _ _=>fS fun _ _=>rfl
 have u35:=mg_of X G a35
 have B36:=F36.f.binds (ps:=["_law_feed_here","_law_state","_law_form"]) fun _ _ _ _ _ _=>tU fun _ _ _=>rfl
 have u36:=mg_of X G a36
 have B37:=F37.f.binds (ps:=["_law_feed_here","_law_state"]) fun _ _ _ _ _ _=>fS fun _ _=>rfl
 have u37:=mg_of X G a37
 have B38:=F38.f.binds (ps:=["_law_feed_here","_law_state","_law_form"]) fun _ _ _ _ _ _=>tU fun _ _ _=>rfl
 have u38:=mg_of X G a38
 have B39:=F39.f.binds (ps:=["_law_script","_law_k"]) fun _ _ _ _ _ _=>fS fun _ _=>rfl
 have u39:=mg_of X G a39
 have B40:=F40.f.binds (ps:=["_law_script"]) fun _ _ _ _ _ _=>tT fun _=>rfl
 have u40:=mg_of X G a40
 have D1:=M1.f.binds (ps:=["self","program","most"]) fun _ _ _ _ _ _=>tU fun _ _ _=>rfl
 have D2:=M2.f.binds (ps:=["self","thing"]) fun _ _ _ _ _ _=>fS fun _ _=>rfl
 have D3:=M3.f.binds (ps:=["self","many"]) fun _ _ _ _ _ _=>fS fun _ _=>rfl
 have D4:=M4.f.binds (ps:=["self"]) fun _ _ _ _ _ _=>tT fun _=>rfl
 have D5:=M5.f.binds (ps:=["self","row"]) fun _ _ _ _ _ _=>fS fun _ _=>rfl
 have D6:=M6.f.binds (ps:=["self","term","around"]) fun _ _ _ _ _ _=>tU fun _ _ _=>rfl
 have z_len:=mg_none_of X G z0
 have z_range:=mg_none_of X G z1
 have z_int:=mg_none_of X G z2
 have z_tuple:=mg_none_of X G z3
 have z_list:=mg_none_of X G z4
 have z_zip:=mg_none_of X G z5
 have z_dict:=mg_none_of X G z6
 have z_repr:=mg_none_of X G z7
 have z_all:=mg_none_of X G z8
 have z_max:=mg_none_of X G z9
 have TB:Ho K w mg dP dM [("num",V.ref t0),("name",V.ref t1),("gap",V.ref t2),("op",V.ref t3),("more",V.ref t4),("first",V.ref t5),("others",V.ref t6),("long",V.ref t7),("if",V.ref t8)]:={
  mP:=mg_of X G pP,mM:=mg_of X G pM,kP:=⟨esP,nP,lP,kP,(show(["num","name","gap","op","more","first","others","long","if"]:List Str).Nodup by decide +kernel),sP⟩,kM:=⟨esM,nM,lM,kM,by decide +kernel,sM⟩,
  at_:=fun f ps hm=>by
   unfold placesOf at hm
   simp only[List.mem_cons,List.not_mem_nil,or_false,Prod.mk.injEq]at hm
   rcases hm with⟨rfl,rfl⟩|⟨rfl,rfl⟩|⟨rfl,rfl⟩|⟨rfl,rfl⟩|⟨rfl,rfl⟩|⟨rfl,rfl⟩|⟨rfl,rfl⟩|⟨rfl,rfl⟩|⟨rfl,rfl⟩
   ·exact⟨t0,rfl,jO q0 (by decide)⟩
   ·exact⟨t1,rfl,jO q1 (by decide)⟩
   ·exact⟨t2,rfl,jO q2 (by decide)⟩
   ·exact⟨t3,rfl,jO q3 (by decide)⟩
   ·exact⟨t4,rfl,jO q4 (by decide)⟩
   ·exact⟨t5,rfl,jO q5 (by decide)⟩
   ·exact⟨t6,rfl,jO q6 (by decide)⟩
   ·exact⟨t7,rfl,jO q7 (by decide)⟩
   ·exact⟨t8,rfl,jO q8 (by decide)⟩}
 have kDD:KD K w dD [("gap",V.ref g6),("op",V.ref g7),("more",V.ref g8),("first",V.ref g9),("others",V.ref g9),("long",V.ref g10),("match",V.ref g11),("if",V.ref g12),("fold",V.ref g13)]:=⟨esD,nD,lD,kD,(show(["gap","op","more","first","others","long","match","if","fold"]:List Str).Nodup by decide +kernel),sD⟩
 have kTT:KD K w dT [("term",V.ref g17),("rest",V.ref g19),("round",V.ref g15)]:=⟨esT,nT,lT,kT,(show(["term","rest","round"]:List Str).Nodup by decide +kernel),sT⟩
 have N:sU K C:=⟨⟨c1,c2,c3,c4⟩,n1,n2,n3,n4,n5,n6,n7⟩
 obtain⟨od,kV,doc,pm,an,cdv,ct,osl,rfl,lk,cc⟩:=F40.ex
 refine⟨fnOf "law" "law" (ko pA) (bz pA) (af pA) .none kV doc pm an cdv ct,fun s v=>.of_eq rfl,fun base _ _=>?_⟩
 have RI:bG l.prog w K mg base "right_in" 1 _ _ g1 e1:=⟨uM F1.f TB,u1,F1.kp,B1⟩
 have IN:bG l.prog w K mg base "inner_terms" 2 _ _ g2 e2:=⟨AX F2.f RI,u2,F2.kp,B2⟩
 have BT:bG l.prog w K mg base "bound_to" 1 _ _ g3 e3:=⟨Ba F3.f z_tuple z_zip,u3,F3.kp,B3⟩
 have IL:bG l.prog w K mg base "is_left" 1 _ _ g4 e4:=⟨wO F4.f,u4,F4.kp,B4⟩
 have ON:bG l.prog w K mg base "op_number" 1 _ _ g5 e5:=⟨sY F5.f (mg_of X G aW),u5,F5.kp,B5⟩
 have INI:dc l.prog w K mg base C "__init__" 1 _ _ m1 d1:=⟨Dm M1.f N,⟨b1,i1,M1.kp⟩,D1,N.c⟩
 have mTell:dc l.prog w K mg base C "tell" 1 _ _ m2 d2:=⟨Di M2.f N,⟨b2,i2,M2.kp⟩,D2,N.c⟩
 have mTake:dc l.prog w K mg base C "take" 1 _ _ m3 d3:=⟨A9 M3.f N z_range,⟨b3,i3,M3.kp⟩,D3,N.c⟩
 have mOne:dc l.prog w K mg base C "do_one" 1 _ _ m4 d4:=⟨Ff M4.f N,⟨b4,i4,M4.kp⟩,D4,N.c⟩
 have mWrite:dc l.prog w K mg base C "write" 2 _ _ m5 d5:=⟨A8 M5.f N mTell z_len,⟨b5,i5,M5.kp⟩,D5,N.c⟩
 have mInto:dc l.prog w K mg base C "go_into" 1 _ _ m6 d6:=⟨Dj M6.f N,⟨b6,i6,M6.kp⟩,D6,N.c⟩
 have XG:bG l.prog w K mg base "do_gap" 3 _ _ g6 e6:=⟨zz F6.f mWrite,u6,F6.kp,B6⟩
 have XO:bG l.prog w K mg base "do_op" 3 _ _ g7 e7:=⟨Bc F7.f N IL ON mTell mOne mWrite,u7,F7.kp,B7⟩
 have XM:bG l.prog w K mg base "do_more" 3 _ _ g8 e8:=⟨wQ F8.f N IL mTell mOne mWrite,u8,F8.kp,B8⟩
 have XF:bG l.prog w K mg base "do_first" 3 _ _ g9 e9:=⟨uS F9.f N IL mTell mOne mWrite,u9,F9.kp,B9⟩
 have XL:bG l.prog w K mg base "do_long" 3 _ _ g10 e10:=⟨wU F10.f N IL mTell mOne mWrite z_len,u10,F10.kp,B10⟩
 have XI:bG l.prog w K mg base "do_if" 3 _ _ g12 e12:=⟨Be F12.f N IL mInto mOne mWrite,u12,F12.kp,B12⟩
 have XD:bG l.prog w K mg base "do_fold" 3 _ _ g13 e13:=⟨wV F13.f N IL mTell mWrite,u13,F13.kp,B13⟩
 have XT:bG l.prog w K mg base "do_match" 3 _ _ g11 e11:=⟨uV F11.f N IL BT mInto mOne mWrite,u11,F11.kp,B11⟩
 have DS:yk l.prog w K mg base C [("gap",V.ref g6),("op",V.ref g7),("more",V.ref g8),("first",V.ref g9),("others",V.ref g9),("long",V.ref g10),("match",V.ref g11),("if",V.ref g12),("fold",V.ref g13)]:=⟨.of XG (by kernel_rfl),.of XO (by kernel_rfl),.of XM (by kernel_rfl),.of XF (by kernel_rfl),.of XF (by kernel_rfl),.of XL (by kernel_rfl),.of XT (by kernel_rfl),.of XI (by kernel_rfl),.of XD (by kernel_rfl)⟩
 have DR:bG l.prog w K mg base "do_row" 4 _ _ g14 e14:=⟨zD F14.f DS (mg_of X G pD) kDD,u14,F14.kp,B14⟩
 have TA:bG l.prog w K mg base "told_ahead" 3 _ _ g16 e16:=⟨qx F16.f IN,u16,F16.kp,B16⟩
 have BE:bG l.prog w K mg base "begin_term" 5 _ _ g17 e17:=⟨Bj F17.f N TA mTell mInto z_dict,u17,F17.kp,B17⟩
 have RO:bG l.prog w K mg base "row_of_term" 1 _ _ g18 e18:=⟨zB F18.f z_tuple,u18,F18.kp,B18⟩
 have EN:bG l.prog w K mg base "end_term" 5 _ _ g19 e19:=⟨Fl F19.f N TA RO DR BT mTake mTell mOne mInto z_len z_tuple,u19,F19.kp,B19⟩
 have GR:bG l.prog w K mg base "go_round" 5 _ _ g15 e15:=⟨Bl F15.f N BT mTake mOne mInto z_len,u15,F15.kp,B15⟩
 have TS:yl l.prog w K mg base C [("term",V.ref g17),("rest",V.ref g19),("round",V.ref g15)]:=⟨.of BE (by kernel_rfl),.of EN (by kernel_rfl),.of GR (by kernel_rfl)⟩
 have FI:bG l.prog w K mg base "finish" 6 _ _ g20 e20:=⟨zE F20.f N TS mTake (mg_of X G pT) kTT,u20,F20.kp,B20⟩
 have RU:bG l.prog w K mg base "run" 7 _ _ g21 e21:=⟨Fo F21.f N ⟨c5,b1,i1,c6⟩ INI (mg_of X G aC) BT FI mInto z_tuple,u21,F21.kp,B21⟩
 have RV:bG l.prog w K mg base "run" 7 _ _ g21 e21:=⟨DU RU.ok,u21,F21.kp,B21⟩
 have FD:bG l.prog w K mg base "_law_feed" 1 _ _ g22 e22:=⟨C4 F22.f z_len,u22,F22.kp,B22⟩
 have TK:bG l.prog w K mg base "_law_take" 1 _ _ g23 e23:=⟨C3 F23.f,u23,F23.kp,B23⟩
 have NM:bG l.prog w K mg base "_law_names" 2 _ _ g24 e24:=⟨BS F24.f TK z_range z_len z_int,u24,F24.kp,B24⟩
 have NU:bG l.prog w K mg base "_law_number" 2 _ _ g25 e25:=⟨zN F25.f TK,u25,F25.kp,B25⟩
 have GP:bG l.prog w K mg base "_law_gap" 1 _ _ g26 e26:=⟨FG F26.f z_len,u26,F26.kp,B26⟩
 have LN:bG l.prog w K mg base "_law_num" 3 _ _ g27 e27:=⟨FH F27.f TK NU GP,u27,F27.kp,B27⟩
 have LR:bG l.prog w K mg base "_law_row" 4 _ _ g28 e28:=⟨FJ F28.f TK GP LN z_range z_tuple,u28,F28.kp,B28⟩
 have LT:bG l.prog w K mg base "_law_tag" 5 _ _ g29 e29:=⟨FL F29.f TK GP LN LR,u29,F29.kp,B29⟩
 have WR:bG l.prog w K mg base "_law_written" 1 _ _ g30 e30:=⟨xE F30.f z_len,u30,F30.kp,B30⟩
 have LO:bG l.prog w K mg base "_law_op" 5 _ _ g31 e31:=⟨HP F31.f TK LN WR z_int z_max,u31,F31.kp,B31⟩
 have LF:bG l.prog w K mg base "_law_of_rows" 5 _ _ g32 e32:=⟨xF F32.f LN LR WR z_int z_len,u32,F32.kp,B32⟩
 have LM:bG l.prog w K mg base "_law_match" 6 _ _ g33 e33:=⟨Ce F33.f TK NU LT WR z_int,u33,F33.kp,B33⟩
 have LI:bG l.prog w K mg base "_law_if" 6 _ _ g34 e34:=⟨HV F34.f TK NU LN WR z_int,u34,F34.kp,B34⟩
 have LD:bG l.prog w K mg base "_law_fold" 6 _ _ g35 e35:=⟨DP F35.f TK LN LR WR z_len,u35,F35.kp,B35⟩
 have LE:bG l.prog w K mg base "_law_rest" 6 _ _ g36 e36:=⟨DT F36.f TK GP LN LR LT WR z_tuple,u36,F36.kp,B36⟩
 have LW:bG l.prog w K mg base "_law_twice" 6 _ _ g37 e37:=⟨Co F37.f TK GP WR,u37,F37.kp,B37⟩
 have AN:bG l.prog w K mg base "_law_any" 7 _ _ g38 e38:=⟨Gh F38.f LO LF LM LI LD LE LW,u38,F38.kp,B38⟩
 have RI:bG l.prog w K mg base "_law_right" 8 _ _ g39 e39:=⟨Cs F39.f RV FD TK NM NU AN z_range z_tuple z_list z_zip z_repr,u39,F39.kp,B39⟩
 exact Gk ⟨⟨_,od,kV,doc,pm,an,cdv,ct,osl,rfl,lk,cc⟩,F40.kp⟩ RI z_all
theorem walk{l:PySem.W.OpenLaw}{q:Program}{loose:List Str}{XP:(Str->Option Value)->Heap->Prop}{YP:World->Heap->Prop}{d:DefRec}{K:Params->PySem.W.Frag}(hn:l.most=some 63)(hdf:d.params.defaults=[])
  (hY:∀(w:World) (h:Heap),YP w h->(K w.params).In h)
  (F:∀(w:World) (mg:Str->Option Value) (fa:Addr) (h:Heap),(K w.params).In h->h.Ns mainGlobals mg->mg d.name=some (.ref fa) ->
   ∃fd:FuncData,(∀(s:Shared) (u:Value),BindsTo s fd ⟨[u],[]⟩ [("_law_script",u)])/\∀base:Heap,(K w.params).In base->base.Ns mainGlobals mg->bF l.prog w (K w.params) mg base dX 9 fa fd ["_law_script"] (yG (K w.params))) :
  PySem.W.WalkO q loose XP YP l.row.toRowW d [] (fun f vs=>PySem.call f vs) :=
 L2.CN (n:=63) (k:=9) (x:="_law_script") (CX:=fun _=>dX) (sp:=fun w=>yG (K w.params)) hn (by decide) hdf ⟨rfl,by decide,by decide,rfl⟩ hY F (fun _ _ a ns hl _ hS=>⟨a,ns,rfl,hS,hl,fun _=>rfl⟩) fun _ _ _ _ _ z=>z
end G27
theorem PySem.W.Fast.tw2728469530623597819:True:=⟨⟩
theorem PySem.W.Fast.tw8450505406774837821:True:=⟨⟩
theorem PySem.W.Fast.tw10490508047584307369:True:=⟨⟩
theorem PySem.W.Fast.tw3507965075677999000:True:=⟨⟩
theorem PySem.W.Fast.tw14895290354179095218:True:=⟨⟩
theorem PySem.W.Fast.tw14046343989669601929:True:=⟨⟩
theorem PySem.W.Fast.tw6404130816291320287:True:=⟨⟩
theorem PySem.W.Fast.tw4605173006835956156:True:=⟨⟩
theorem PySem.W.Fast.tw1462269493799478213:True:=⟨⟩
theorem PySem.W.Fast.tw3850037807461128163:True:=⟨⟩
theorem PySem.W.Fast.tw4666087102320943818:True:=⟨⟩
theorem PySem.W.Fast.tw12757814222834777582:True:=⟨⟩
theorem PySem.W.Fast.tw4596563663593982518:True:=⟨⟩
theorem PySem.W.Fast.tw2767002408978281416:True:=⟨⟩
theorem PySem.W.Fast.tw9340542989541177391:True:=⟨⟩
theorem PySem.W.Fast.tw2448638545912836768:True:=⟨⟩
theorem PySem.W.Fast.tw16322358388927619766:True:=⟨⟩
theorem PySem.W.Fast.tw11933076000443281585:True:=⟨⟩
theorem PySem.W.Fast.tw8368782972670107644:True:=⟨⟩
theorem PySem.W.Fast.tw15865079042055907090:True:=⟨⟩
theorem PySem.W.Fast.tw5411815018377371246:True:=⟨⟩
theorem PySem.W.Fast.tw13580174158735921884:True:=⟨⟩
theorem PySem.W.Fast.tw10861511117670678480:True:=⟨⟩
theorem PySem.W.Fast.tw1430521787685613889:True:=⟨⟩
theorem PySem.W.Fast.tw11315740607490161888:True:=⟨⟩
theorem PySem.W.Fast.tw6691731695678714287:True:=⟨⟩
theorem PySem.W.Fast.tw5088298404440938436:True:=⟨⟩
theorem PySem.W.Fast.tw80372879169748633:True:=⟨⟩
theorem PySem.W.Fast.tw17363873590748262433:True:=⟨⟩
theorem PySem.W.Fast.tw8486462588706517436:True:=⟨⟩
theorem PySem.W.Fast.tw256478809256052431:True:=⟨⟩
theorem PySem.W.Fast.tw9490940329177687617:True:=⟨⟩
theorem PySem.W.Fast.tw4950436466222414806:True:=⟨⟩
theorem PySem.W.Fast.tw2508614825814580676:True:=⟨⟩
theorem PySem.W.Fast.tw10452486067081617973:True:=⟨⟩
theorem PySem.W.Fast.tw1582518701390751447:True:=⟨⟩
theorem PySem.W.Fast.tw16095910362750841723:True:=⟨⟩
theorem PySem.W.Fast.tw11324544217192178351:True:=⟨⟩
theorem PySem.W.Fast.tw4003399792116386545:True:=⟨⟩
theorem PySem.W.Fast.tw9182342143266972312:True:=⟨⟩
theorem PySem.W.Fast.tw16869090027132288954:True:=⟨⟩
theorem PySem.W.Fast.tw14141607437936999796:True:=⟨⟩
theorem PySem.W.Fast.tw15025384449214895932:True:=⟨⟩
theorem PySem.W.Fast.tw10562745915574291233:True:=⟨⟩
theorem PySem.W.Fast.tw14475065375767778951:True:=⟨⟩
theorem PySem.W.Fast.tw4584090187180525489:True:=⟨⟩
theorem PySem.W.Fast.tw10159266360387058242:True:=⟨⟩
theorem PySem.W.Fast.tw2534783831708554423:True:=⟨⟩
theorem PySem.W.Fast.tw9862370260361397308:True:=⟨⟩
theorem PySem.W.Fast.tw17647921257095430402:True:=⟨⟩
theorem PySem.W.Fast.tw13287549847272419157:True:=⟨⟩
theorem PySem.W.Fast.tw13670104395629085898:True:=⟨⟩
theorem PySem.W.Fast.tw8244261512655510080:True:=⟨⟩
theorem PySem.W.Fast.tw8645060977292960567:True:=⟨⟩
theorem PySem.W.Fast.tw18292318676948024908:True:=⟨⟩
theorem PySem.W.Fast.tw8380087543776904863:True:=⟨⟩
theorem PySem.W.Fast.tw288845339266619648:True:=⟨⟩
theorem PySem.W.Fast.tw13742680577873310237:True:=⟨⟩
theorem PySem.W.Fast.tw5677078728186788046:True:=⟨⟩
theorem PySem.W.Fast.tw8827874523482816101:True:=⟨⟩
theorem PySem.W.Fast.tw2253752622507126901:True:=⟨⟩
theorem PySem.W.Fast.tw15799453878198704264:True:=⟨⟩
theorem PySem.W.Fast.tw7650923984600575571:True:=⟨⟩
theorem PySem.W.Fast.tw9967834819545688635:True:=⟨⟩
theorem PySem.W.Fast.tw14509256838402921177:True:=⟨⟩
theorem PySem.W.Fast.tw12889693670118299884:True:=⟨⟩
theorem PySem.W.Fast.tw9434485404158255688:True:=⟨⟩
theorem PySem.W.Fast.tw9810946978552511962:True:=⟨⟩
theorem PySem.W.Fast.tw4157169789935436641:True:=⟨⟩
theorem PySem.W.Fast.tw9866505273598867977:True:=⟨⟩
theorem PySem.W.Fast.tw16230986031681160785:True:=⟨⟩
theorem PySem.W.Fast.tw15621562819112972797:True:=⟨⟩
theorem PySem.W.Fast.tw18282058234818662731:True:=⟨⟩
theorem PySem.W.Fast.tw6743845240621173209:True:=⟨⟩
theorem PySem.W.Fast.tw8764863548840694666:True:=⟨⟩
theorem PySem.W.Fast.tw15430568847322087597:True:=⟨⟩
theorem PySem.W.Fast.tw11873939629402909139:True:=⟨⟩
theorem PySem.W.Fast.tw4774356803206370961:True:=⟨⟩
theorem PySem.W.Fast.tw12832029681701011335:True:=⟨⟩
theorem PySem.W.Fast.tw13598535393329598685:True:=⟨⟩
theorem PySem.W.Fast.tw8280528470342985659:True:=⟨⟩
theorem PySem.W.Fast.tw8885758874825265390:True:=⟨⟩
theorem PySem.W.Fast.tw5637863474489386664:True:=⟨⟩
theorem PySem.W.Fast.tw6583362451849699002:True:=⟨⟩
theorem PySem.W.Fast.tw18278778293137309016:True:=⟨⟩
theorem PySem.W.Fast.tw18019510066789113890:True:=⟨⟩
theorem PySem.W.Fast.tw11464699069055458237:True:=⟨⟩
theorem PySem.W.Fast.tw4290919786045212458:True:=⟨⟩
theorem PySem.W.Fast.tw1095449815734755487:True:=⟨⟩
theorem PySem.W.Fast.tw9796095849023036306:True:=⟨⟩
theorem PySem.W.Fast.tw16993659029956741851:True:=⟨⟩
theorem PySem.W.Fast.tw7374162310973550691:True:=⟨⟩
theorem PySem.W.Fast.tw3128131915205239926:True:=⟨⟩
theorem PySem.W.Fast.tw9879088798355365512:True:=⟨⟩
theorem PySem.W.Fast.tw9523300062369448763:True:=⟨⟩
theorem PySem.W.Fast.tw1373345682421504064:True:=⟨⟩
theorem PySem.W.Fast.tw1522855206106348897:True:=⟨⟩
theorem PySem.W.Fast.tw12935918905448413238:True:=⟨⟩
theorem PySem.W.Fast.tw17658600369821699528:True:=⟨⟩
theorem PySem.W.Fast.tw11434830086716763840:True:=⟨⟩
theorem PySem.W.Fast.tw11101728598592206573:True:=⟨⟩
theorem PySem.W.Fast.tw7942158749894209556:True:=⟨⟩
theorem PySem.W.Fast.tw1694282794996854310:True:=⟨⟩
theorem PySem.W.Fast.tw13041298303843943669:True:=⟨⟩
theorem PySem.W.Fast.tw3651611345335666445:True:=⟨⟩
theorem PySem.W.Fast.tw676957743576078249:True:=⟨⟩
theorem PySem.W.Fast.tw17353964533815025608:True:=⟨⟩
theorem PySem.W.Fast.tw11913696003186920501:True:=⟨⟩
theorem PySem.W.Fast.tw10970351058262624198:True:=⟨⟩
theorem PySem.W.Fast.tw16217353893772671664:True:=⟨⟩
theorem PySem.W.Fast.tw4791327956778407349:True:=⟨⟩
theorem PySem.W.Fast.tw8872912523608948537:True:=⟨⟩
theorem PySem.W.Fast.tw17483022371977577530:True:=⟨⟩
theorem PySem.W.Fast.tw17114937998465724324:True:=⟨⟩
theorem PySem.W.Fast.tw16978281942419437749:True:=⟨⟩
theorem PySem.W.Fast.tw13334470522563987029:True:=⟨⟩
theorem PySem.W.Fast.tw10170746728269641608:True:=⟨⟩
theorem PySem.W.Fast.tw10145430741900533731:True:=⟨⟩
theorem PySem.W.Fast.tw13115857467949919464:True:=⟨⟩
theorem PySem.W.Fast.tw9288277323463679680:True:=⟨⟩
theorem PySem.W.Fast.tw10587006071596106007:True:=⟨⟩
theorem PySem.W.Fast.tw12603907124199196290:True:=⟨⟩
theorem PySem.W.Fast.tw13280542166794572137:True:=⟨⟩
theorem PySem.W.Fast.tw10283349250036554671:True:=⟨⟩
theorem PySem.W.Fast.tw3176428433988098944:True:=⟨⟩
theorem PySem.W.Fast.tw11958962326418966907:True:=⟨⟩
theorem PySem.W.Fast.tw7338503120002321519:True:=⟨⟩
theorem PySem.W.Fast.tw11990444186451469468:True:=⟨⟩
theorem PySem.W.Fast.tw9441643586188673363:True:=⟨⟩
theorem PySem.W.Fast.tw16812889101537632870:True:=⟨⟩
theorem PySem.W.Fast.tw16059748475949166266:True:=⟨⟩
theorem PySem.W.Fast.tw11687155966609222126:True:=⟨⟩
theorem PySem.W.Fast.tw4441872431963052392:True:=⟨⟩
open PySem PySem.W PyProof.Rows
set_option maxRecDepth 100000 in
set_option maxHeartbeats 0 in
theorem PySem.Challenge.cw_gapwork_k27_single_doings_holds : PySem.Challenge.rw_gapwork_k27_single_doings.Holds := by
  w_on; o_law; k_head; (case hw => w_witness2)
  k_fill
  refine G27.walk (l := PySem.Challenge.rw_gapwork_k27_single_doings) rfl rfl (fun w h Y => PySem.W.kIn_of Y) ?F
  case F =>
    intro w mg fa h KX G hmg
    refine' G27.all_mk KX G hmg ?a1 ?a2 ?a3 ?a4 ?a5 ?a6 ?a7 ?a8 ?a9 ?a10 ?a11 ?a12 ?a13 ?a14 ?a15 ?a16 ?a17 ?a18 ?a19 ?a20 ?a21 ?a22 ?a23 ?a24 ?a25 ?a26 ?a27 ?a28 ?a29 ?a30 ?a31 ?a32 ?a33 ?a34 ?a35 ?a36 ?a37 ?a38 ?a39 ?a40 ?F1 ?F2 ?F3 ?F4 ?F5 ?F6 ?F7 ?F8 ?F9 ?F10 ?F11 ?F12 ?F13 ?F14 ?F15 ?F16 ?F17 ?F18 ?F19 ?F20 ?F21 ?F22 ?F23 ?F24 ?F25 ?F26 ?F27 ?F28 ?F29 ?F30 ?F31 ?F32 ?F33 ?F34 ?F35 ?F36 ?F37 ?F38 ?F39 ?F40 ?M1 ?M2 ?M3 ?M4 ?M5 ?M6 ?aC ?b1 ?i1 ?b2 ?i2 ?b3 ?i3 ?b4 ?i4 ?b5 ?i5 ?b6 ?i6 ?c1 ?c2 ?c3 ?c4 ?c5 ?c6 ?n1 ?n2 ?n3 ?n4 ?n5 ?n6 ?n7 ?aW ?pP ?lP ?kP ?sP ?pM ?lM ?kM ?sM ?pD ?lD ?kD ?sD ?pT ?lT ?kT ?sT ?q0 ?q1 ?q2 ?q3 ?q4 ?q5 ?q6 ?q7 ?q8 ?z0 ?z1 ?z2 ?z3 ?z4 ?z5 ?z6 ?z7 ?z8 ?z9
    (case a1 => k_is)
    (case a2 => k_is)
    (case a3 => k_is)
    (case a4 => k_is)
    (case a5 => k_is)
    (case a6 => k_is)
    (case a7 => k_is)
    (case a8 => k_is)
    (case a9 => k_is)
    (case a10 => k_is)
    (case a11 => k_is)
    (case a12 => k_is)
    (case a13 => k_is)
    (case a14 => k_is)
    (case a15 => k_is)
    (case a16 => k_is)
    (case a17 => k_is)
    (case a18 => k_is)
    (case a19 => k_is)
    (case a20 => k_is)
    (case a21 => k_is)
    (case a22 => k_is)
    (case a23 => k_is)
    (case a24 => k_is)
    (case a25 => k_is)
    (case a26 => k_is)
    (case a27 => k_is)
    (case a28 => k_is)
    (case a29 => k_is)
    (case a30 => k_is)
    (case a31 => k_is)
    (case a32 => k_is)
    (case a33 => k_is)
    (case a34 => k_is)
    (case a35 => k_is)
    (case a36 => k_is)
    (case a37 => k_is)
    (case a38 => k_is)
    (case a39 => k_is)
    (case a40 => k_is)
    (case F1 => exact G27.aO (by k_is) (by k_is) (by k_is))
    (case F2 => exact G27.aO (by k_is) (by k_is) (by k_is))
    (case F3 => exact G27.aO (by k_is) (by k_is) (by k_is))
    (case F4 => exact G27.aO (by k_is) (by k_is) (by k_is))
    (case F5 => exact G27.aO (by k_is) (by k_is) (by k_is))
    (case F6 => exact G27.aO (by k_is) (by k_is) (by k_is))
    (case F7 => exact G27.aO (by k_is) (by k_is) (by k_is))
    (case F8 => exact G27.aO (by k_is) (by k_is) (by k_is))
    (case F9 => exact G27.aO (by k_is) (by k_is) (by k_is))
    (case F10 => exact G27.aO (by k_is) (by k_is) (by k_is))
    (case F11 => exact G27.aO (by k_is) (by k_is) (by k_is))
    (case F12 => exact G27.aO (by k_is) (by k_is) (by k_is))
    (case F13 => exact G27.aO (by k_is) (by k_is) (by k_is))
    (case F14 => exact G27.aO (by k_is) (by k_is) (by k_is))
    (case F15 => exact G27.aO (by k_is) (by k_is) (by k_is))
    (case F16 => exact G27.aO (by k_is) (by k_is) (by k_is))
    (case F17 => exact G27.aO (by k_is) (by k_is) (by k_is))
    (case F18 => exact G27.aO (by k_is) (by k_is) (by k_is))
    (case F19 => exact G27.aO (by k_is) (by k_is) (by k_is))
    (case F20 => exact G27.aO (by k_is) (by k_is) (by k_is))
    (case F21 => exact G27.aO (by k_is) (by k_is) (by k_is))
    (case F22 => exact G27.aO (by k_is) (by k_is) (by k_is))
    (case F23 => exact G27.aO (by k_is) (by k_is) (by k_is))
    (case F24 => exact G27.aO (by k_is) (by k_is) (by k_is))
    (case F25 => exact G27.aO (by k_is) (by k_is) (by k_is))
    (case F26 => exact G27.aO (by k_is) (by k_is) (by k_is))
    (case F27 => exact G27.aO (by k_is) (by k_is) (by k_is))
    (case F28 => exact G27.aO (by k_is) (by k_is) (by k_is))
    (case F29 => exact G27.aO (by k_is) (by k_is) (by k_is))
    (case F30 => exact G27.aO (by k_is) (by k_is) (by k_is))
    (case F31 => exact G27.aO (by k_is) (by k_is) (by k_is))
    (case F32 => exact G27.aO (by k_is) (by k_is) (by k_is))
    (case F33 => exact G27.aO (by k_is) (by k_is) (by k_is))
    (case F34 => exact G27.aO (by k_is) (by k_is) (by k_is))
    (case F35 => exact G27.aO (by k_is) (by k_is) (by k_is))
    (case F36 => exact G27.aO (by k_is) (by k_is) (by k_is))
    (case F37 => exact G27.aO (by k_is) (by k_is) (by k_is))
    (case F38 => exact G27.aO (by k_is) (by k_is) (by k_is))
    (case F39 => exact G27.aO (by k_is) (by k_is) (by k_is))
    (case F40 => exact G27.aO (by k_is) (by k_is) (by k_is))
    (case aC => k_is)
    (case b1 => k_is)
    (case b2 => k_is)
    (case b3 => k_is)
    (case b4 => k_is)
    (case b5 => k_is)
    (case b6 => k_is)
    (case c1 => k_is)
    (case c2 => k_is)
    (case c3 => k_is)
    (case c4 => k_is)
    (case c5 => k_is)
    (case c6 => k_is)
    (case n1 => k_is)
    (case n2 => k_is)
    (case n3 => k_is)
    (case n4 => k_is)
    (case n5 => k_is)
    (case n6 => k_is)
    (case n7 => k_is)
    (case aW => k_is)
    (case pP => k_is)
    (case lP => k_is)
    (case kP => exact ⟨_, _, _, rfl, ⟨_, rfl⟩, rfl, rfl, ⟨_, _, _, rfl, ⟨_, rfl⟩, rfl, rfl, ⟨_, _, _, rfl, ⟨_, rfl⟩, rfl, rfl, ⟨_, _, _, rfl, ⟨_, rfl⟩, rfl, rfl, ⟨_, _, _, rfl, ⟨_, rfl⟩, rfl, rfl, ⟨_, _, _, rfl, ⟨_, rfl⟩, rfl, rfl, ⟨_, _, _, rfl, ⟨_, rfl⟩, rfl, rfl, ⟨_, _, _, rfl, ⟨_, rfl⟩, rfl, rfl, ⟨_, _, _, rfl, ⟨_, rfl⟩, rfl, rfl, rfl⟩⟩⟩⟩⟩⟩⟩⟩⟩)
    (case sP => kernel_rfl)
    (case pM => k_is)
    (case lM => k_is)
    (case kM => exact ⟨_, _, _, rfl, ⟨_, rfl⟩, rfl, ⟨_, rfl⟩, ⟨_, _, _, rfl, ⟨_, rfl⟩, rfl, ⟨_, rfl⟩, ⟨_, _, _, rfl, ⟨_, rfl⟩, rfl, ⟨_, rfl⟩, rfl⟩⟩⟩)
    (case sM => kernel_rfl)
    (case pD => k_is)
    (case lD => k_is)
    (case kD => exact ⟨_, _, _, rfl, ⟨_, rfl⟩, rfl, rfl, ⟨_, _, _, rfl, ⟨_, rfl⟩, rfl, rfl, ⟨_, _, _, rfl, ⟨_, rfl⟩, rfl, rfl, ⟨_, _, _, rfl, ⟨_, rfl⟩, rfl, rfl, ⟨_, _, _, rfl, ⟨_, rfl⟩, rfl, rfl, ⟨_, _, _, rfl, ⟨_, rfl⟩, rfl, rfl, ⟨_, _, _, rfl, ⟨_, rfl⟩, rfl, rfl, ⟨_, _, _, rfl, ⟨_, rfl⟩, rfl, rfl, ⟨_, _, _, rfl, ⟨_, rfl⟩, rfl, rfl, rfl⟩⟩⟩⟩⟩⟩⟩⟩⟩)
    (case sD => kernel_rfl)
    (case pT => k_is)
    (case lT => k_is)
    (case kT => exact ⟨_, _, _, rfl, ⟨_, rfl⟩, rfl, rfl, ⟨_, _, _, rfl, ⟨_, rfl⟩, rfl, rfl, ⟨_, _, _, rfl, ⟨_, rfl⟩, rfl, rfl, rfl⟩⟩⟩)
    (case sT => kernel_rfl)
    (case q0 => kernel_rfl)
    (case q1 => kernel_rfl)
    (case q2 => kernel_rfl)
    (case q3 => kernel_rfl)
    (case q4 => kernel_rfl)
    (case q5 => kernel_rfl)
    (case q6 => kernel_rfl)
    (case q7 => kernel_rfl)
    (case q8 => kernel_rfl)
    (case z0 => k_is)
    (case z1 => k_is)
    (case z2 => k_is)
    (case z3 => k_is)
    (case z4 => k_is)
    (case z5 => k_is)
    (case z6 => k_is)
    (case z7 => k_is)
    (case z8 => k_is)
    (case z9 => k_is)
    (case i1 => k_is)
    (case i2 => k_is)
    (case i3 => k_is)
    (case i4 => k_is)
    (case i5 => k_is)
    (case i6 => k_is)
    (case M1 => exact G27.aO (by k_is) (by k_is) (by k_is))
    (case M2 => exact G27.aO (by k_is) (by k_is) (by k_is))
    (case M3 => exact G27.aO (by k_is) (by k_is) (by k_is))
    (case M4 => exact G27.aO (by k_is) (by k_is) (by k_is))
    (case M5 => exact G27.aO (by k_is) (by k_is) (by k_is))
    (case M6 => exact G27.aO (by k_is) (by k_is) (by k_is))
#print axioms PySem.Challenge.cw_gapwork_k27_single_doings_holds
