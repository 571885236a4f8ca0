import PyProof.Rows.All
import Wide.All
import OpenK.AllK
import Wide.FinOn
import PyProof.EqAt
import PyProof.EqKinds
import PyProof.NeKinds
import PyProof.TupleCall
import PyProof.StrLawsRepr
import KE.KIsAll
import KE.KItem
import KE.KDictOf
import KE.KBytesAny
import Lean
import PySem.Challenge.RW_gapwork_k03_gaps_of_programs
set_option Elab.async false
set_option linter.all false
set_option maxRecDepth 100000
namespace L2
open PySem PySem.Spec PyProof.Rows
noncomputable abbrev Key:=Sum Int Str
noncomputable def oH:Key->Value->Bool
 |.inl k,v=>Value.isInt k v
 |.inr x,v=>Value.isStrOf x v
noncomputable def CM(w:World):Key->Int
 |.inl k=>hashInt k
 |.inr x=>hashStr w x
theorem cN:∀{k:Key}{v:Value},oH k v=true->(∃i t,k=Sum.inl i/\v=Value.int i t)\/(∃x t,k=Sum.inr x/\v=Value.str x t)
 |.inl i,v,h=>by
  obtain⟨t,e⟩:=Value.isInt_shape (k:=i) (v:=v) h
  exact .inl ⟨i,t,rfl,e⟩
 |.inr x,v,h=>by
  obtain⟨t,e⟩:=Value.isStrOf_shape (x:=x) (v:=v) h
  exact .inr ⟨x,t,rfl,e⟩
theorem uV(i:Int)(t:Tok):oH (.inl i) (.int i t)=true:=by simp[oH,Value.isInt]
theorem uW(x:Str)(t:Tok):oH (.inr x) (.str x t)=true:=by simp[oH,Value.isStrOf]
theorem Ai(a b:Int):decide ((Sum.inl a:Key)=Sum.inl b)=(a == b):=by
 by_cases e:a=b
 ·subst e;simp
 ·have h:¬(Sum.inl a:Key)=Sum.inl b:=fun q=>e (Sum.inl.inj q)
  rw[decide_eq_false h]
  exact(beq_eq_false_iff_ne.mpr e).symm
theorem Aj(a b:Str):decide ((Sum.inr a:Key)=Sum.inr b)=decide (a=b):=by
 by_cases e:a=b
 ·subst e;simp
 ·have h:¬(Sum.inr a:Key)=Sum.inr b:=fun q=>e (Sum.inr.inj q)
  rw[decide_eq_false h,decide_eq_false e]
theorem Ak(a:Int)(b:Str):decide ((Sum.inl a:Key)=Sum.inr b)=false:=decide_eq_false (fun q=>nomatch q)
theorem Al(a:Str)(b:Int):decide ((Sum.inr a:Key)=Sum.inl b)=false:=decide_eq_false (fun q=>nomatch q)
noncomputable def cz(prog:Program)(w:World):PySem.KeyKind prog w Key where
 is:=oH
 hash:=CM w
 inj:=fun v a b ha hb=>by
  rcases cN ha with⟨i,t,rfl,rfl⟩|⟨x,t,rfl,rfl⟩
  ·rcases cN hb with⟨j,u,rfl,e⟩|⟨y,u,rfl,e⟩
   ·injection e with e1 _;rw[e1]
   ·exact nomatch e
  ·rcases cN hb with⟨j,u,rfl,e⟩|⟨y,u,rfl,e⟩
   ·exact nomatch e
   ·injection e with e1 _;rw[e1]
 byValue:=fun k v h=>by
  rcases cN h with⟨i,t,rfl,rfl⟩|⟨x,t,rfl,rfl⟩<;>rfl
 pyHash:=fun hv h=>by
  rcases cN hv with⟨i,t,rfl,rfl⟩|⟨x,t,rfl,rfl⟩
  ·exact wpAny_pyHash_int h
  ·exact wpAny_pyHash_str h
 eqBool:=fun hu hv h=>by
  rcases cN hu with⟨i,t,rfl,rfl⟩|⟨x,t,rfl,rfl⟩
  ·rcases cN hv with⟨j,u,rfl,rfl⟩|⟨y,u,rfl,rfl⟩
   ·rw[Ai]at h;exact wpAny_eqBool_int h
   ·rw[Ak]at h;exact SeqAt.EqAt.int_str i t y u _ _ _ _ h
  ·rcases cN hv with⟨j,u,rfl,rfl⟩|⟨y,u,rfl,rfl⟩
   ·rw[Al]at h;exact SeqAt.EqAt.str_int x t j u _ _ _ _ h
   ·rw[Aj]at h;exact wpAny_eqBool_str h
 «strs»:=fun k x t v h=>by
  rcases cN h with⟨i,u,rfl,e⟩|⟨y,u,rfl,e⟩
  ·exact nomatch e
  ·injection e with e1 _
   subst e1
   cases v<;>rfl
theorem qO(prog:Program)(w:World)(i:Int)(t:Tok):(cz prog w).is (.inl i) (.int i t)=true:=uV i t
theorem qP(prog:Program)(w:World)(x:Str)(t:Tok):(cz prog w).is (.inr x) (.str x t)=true:=uW x t
inductive V where
 |gp|bl (b:Bool)|int (i:Int)|str (x:Str)|byt (b:Array UInt8)|flt (b:UInt64)|ref (a:Addr)|ty (n:String)
 deriving DecidableEq
noncomputable def RelV:V->Value->Prop
 |.gp,u=>u=Value.none
 |.bl b,u=>u=Value.bool b
 |.int i,u=>∃t,u=Value.int i t
 |.str x,u=>∃t,u=Value.str x t
 |.byt b,u=>∃t,u=Value.bytes b t
 |.flt b,u=>∃t,u=Value.float b t
 |.ref a,u=>u=Value.ref a
 |.ty n,u=>u=Value.type n
noncomputable abbrev Vals:List V->List Value->Prop:=Paired RelV
theorem Vals.length{xs:List V}{us:List Value}(r:Vals xs us):xs.length=us.length:=Paired.length r
theorem Vals.get:∀{xs:List V}{us:List Value}{i:Nat}{x:V},Vals xs us->xs[i]?=some x->∃u,us[i]?=some u/\RelV x u
 |_,_,_,_,.nil,e=>by simp at e
 |_,_,0,_,.cons r _,e=>by simp at e;subst e;exact⟨_,rfl,r⟩
 |_,_,i+1,x,.cons _ t,e=>by
  obtain⟨u,h1,h2⟩:=Vals.get (i:=i) (x:=x) t (by simpa using e)
  exact⟨u,by simpa using h1,h2⟩
theorem Vals.set{x:V}{u:Value}(r:RelV x u):∀{xs:List V}{us:List Value}(i:Nat),Vals xs us->Vals (xs.set i x) (us.set i u)
 |_,_,_,.nil=>.nil
 |_,_,0,.cons _ t=>.cons r t
 |_,_,i+1,.cons q t=>.cons q (Vals.set r i t)
theorem Vals.append:∀{xs ys:List V}{us ws:List Value},Vals xs us->Vals ys ws->Vals (xs++ys) (us++ws)
 |_,_,_,_,.nil,s=>s
 |_,_,_,_,.cons r t,s=>.cons r (Vals.append t s)
theorem Vals.take:∀{xs:List V}{us:List Value}(n:Nat),Vals xs us->Vals (xs.take n) (us.take n)
 |_,_,0,_=>.nil
 |_,_,_+1,.nil=>.nil
 |_,_,n+1,.cons r t=>.cons r (Vals.take n t)
theorem Vals.drop:∀{xs:List V}{us:List Value}(n:Nat),Vals xs us->Vals (xs.drop n) (us.drop n)
 |_,_,0,r=>r
 |_,_,_+1,.nil=>.nil
 |_,_,n+1,.cons _ t=>Vals.drop n t
theorem Vals.none_of:∀{xs:List V}{us:List Value}{i:Nat},Vals xs us->xs[i]?=none->us[i]?=none:=fun{xs us i} r e=>by
 have h1:=r.length
 have h2:xs.length<=i:=List.getElem?_eq_none_iff.mp e
 exact List.getElem?_eq_none_iff.mpr (by omega)
noncomputable def jc:Option V->Option Value->Prop
 |some v,some u=>RelV v u
 |none,none=>True
 |_,_=>False
noncomputable def KV{κ:Type}:List (κ×V)->List (κ×Value)->Prop:=Paired fun(p:κ×V) (q:κ×Value)=>p.1=q.1/\RelV p.2 q.2
noncomputable def kV:Key->V
 |.inl i=>.int i
 |.inr x=>.str x
inductive HO where
 /-- a list -/
 |lst (xs:List V)
 /-- a tuple (never changes) -/
 |tup (xs:List V)
 /-- a dict whose keys are ints and texts;one whose keys are tuples of ints and texts (the empty one is both) -/
 |dK (kvs:List (Key×V))|dT (kvs:List (List Key×V))
 /-- a set of ints: its members,its size -/
 |set (S:Int->Bool) (n:Nat)
 /-- an instance of the class at C,its dict at dx,its attributes -/
 |ins (C dx:Addr) (fs:List (Str×V))
 /-- the dict of the instance at x -/
 |own (x:Addr)
 /-- the dict of an exception -/
 |xd (fs:List (Str×V))
 /-- a bound method,f of x -/
 |met (f x:Addr)
 /-- a range object lo,lo+1,.. below hi -/
 |rng (lo hi:Int)
 /-- a thing that is known to the object (the script;a dict while a loop walks it): read,never written while it is so -/
 |frz (o:Obj) (u:HO)
 /-- a code object's table -/
 |tbl (ps:Array Value)
 /-- any other thing,by what is true of its one object (a def of one's own: SetO a S n:=HO.ext fun h=>..) -/
 |ext (φ:Heap->Prop)
noncomputable abbrev Hp:=Addr->Option HO
noncomputable def upd(H:Hp)(a:Addr)(o:HO):Hp:=fun b=>if b=a then some o else H b
theorem af{H:Hp}{a:Addr}{o:HO}:upd H a o a=some o:=by unfold upd;rw[if_pos rfl]
theorem ay{H:Hp}{a b:Addr}{o:HO}(h:b≠a):upd H a o b=H b:=by unfold upd;rw[if_neg h]
theorem gj{H:Hp}{a b:Addr}{o u:HO}(h:H a=some o)(h':H b=some u)(d:o≠u):a≠b:=by
 intro e;subst e;rw[h]at h';exact d (Option.some.inj h')
theorem au{H:Hp}{a b:Addr}{o:HO}(h:H a=some o)(h':H b=none):a≠b:=by
 intro e;subst e;rw[h]at h';cases h'
section
variable (P:Program) (w:World)
noncomputable def Ds(h:Heap)(a:Addr):Prop:=∃o,h.get? a=some o/\o.dict=none
noncomputable def cW(H:Hp)(h:Heap)(a:Addr):HO->Prop
 |.lst xs=>xs.length<=sizeLine/\∃(its:List Value) (n:Nat),Vals xs its/\h.get? a=some {cls:=.type "list",data:=.seq its.toArray n}
 |.tup xs=>xs.length<=sizeLine/\∃its:List Value,Vals xs its/\IsTup h a its.toArray/\Ds h a
 |.dK kvs=>kvs.length<=sizeLine/\(a == sysModules)=false/\∃vs,KV kvs vs/\h.DictOf (cz P w) a vs
 |.dT kvs=>kvs.length<=sizeLine/\(a == sysModules)=false/\∃xs:List (List Key×Addr×Value),
   Paired (fun(p:List Key×V) (q:List Key×Addr×Value)=>p.1=q.1/\H q.2.1=some (.tup (p.1.map kV))/\RelV p.2 q.2.2) kvs xs /\
   ∃o es ep,h.get? a=some o/\o.ExactDict/\o.data=.dict es ep/\es.toList=xs.map (entryOfKey (tupleKind (cz P w)))/\(xs.map (·.1)).Nodup
 |.set S n=>h.SetOf (intKind P w) a S n
 |.ins C dx fs=>H dx=some (.own a)/\fs.length<=1000/\dx≠a/\h.get? a=some (PySem.W.instObj C dx) /\
   ∃mA,h.Ns1 dx mA/\(∀f,jc (fs.lookup f) (mA f))/\PySem.Within mA (fs.map (·.1))
 |.own _=>∃o,h.get? a=some o
 |.xd fs=>∃mA,h.Ns1 a mA/\∀f,jc (fs.lookup f) (mA f)
 |.rng lo hi=>∃t u v,h.get? a=some {cls:=.type "range",data:=.fields #[.int lo t,.int hi u,.int 1 v]}
 |.frz o u=>h.get? a=some o/\cW H h a u
 |.tbl ps=>h.get? a=some {cls:=.none,data:=.fields ps}
 |.met f x=>h.get? a=some (PySem.W.methodObj (.ref f) (.ref x))
 |.ext φ=>φ h/\(∃o,h.get? a=some o)/\∀h1 h2:Heap,φ h1->(∀o,h1.get? a=some o->h2.get? a=some o)->φ h2
noncomputable def jY(H:Hp)(h:Heap):Prop:=∀a o,H a=some o->cW P w H h a o
end
section
variable {P:Program}{w:World}{H H':Hp}{h h':Heap}{a:Addr}{o:HO}
theorem cW.lt(x:cW P w H h a o):a<h.objs.size:=by
 cases o with
 |lst xs=>obtain⟨_,_,_,_,e⟩:=x;exact Heap.lt_size e
 |tup xs=>obtain⟨_,_,_,p,_⟩:=x;exact p.lt
 |dK kvs=>obtain⟨_,_,_,_,o,_,_,e,_⟩:=x;exact Heap.lt_size e
 |dT kvs=>obtain⟨_,_,_,_,o,_,_,e,_⟩:=x;exact Heap.lt_size e
 |set S n=>obtain⟨o,_,_,_,e,_⟩:=x;exact Heap.lt_size e
 |ins C dx fs=>obtain⟨_,_,_,e,_⟩:=x;exact Heap.lt_size e
 |own y=>obtain⟨_,e⟩:=x;exact Heap.lt_size e
 |xd fs=>obtain⟨_,⟨_,_,_,e,_⟩,_⟩:=x;exact Heap.lt_size e
 |rng lo hi=>obtain⟨_,_,_,e⟩:=x;exact Heap.lt_size e
 |frz ob u=>obtain⟨e,_⟩:=x;exact Heap.lt_size e
 |tbl ps=>exact Heap.lt_size (show h.get? a=some _ from x)
 |met f y=>exact Heap.lt_size (show h.get? a=some _ from x)
 |ext φ=>obtain⟨_,⟨_,e⟩,_⟩:=x;exact Heap.lt_size e
theorem Paired.Am{α β:Type}{F G:α->β->Prop}:∀{l₁:List α}{l₂:List β},Paired F l₁ l₂->(∀a b,F a b->G a b)->Paired G l₁ l₂
 |_,_,.nil,_=>.nil
 |_,_,.cons r t,f=>.cons (f _ _ r) (Paired.Am t f)
theorem cW.stay(x:cW P w H h a o)(k:∀b u,(b=a\/H b=some (.own a))->h.get? b=some u->h'.get? b=some u)
  (ho:∀b,H b=some (.own a)->H' b=some (.own a)) (ht:∀b xs,H b=some (.tup xs)->H' b=some (.tup xs)):cW P w H' h' a o:=by
 induction o with
 |lst xs=>obtain⟨z,its,n,r,e⟩:=x;exact⟨z,its,n,r,k _ _ (.inl rfl) e⟩
 |tup xs=>obtain⟨z,its,r,⟨ob,e,c⟩,o2,e2,d2⟩:=x;exact⟨z,its,r,⟨ob,k _ _ (.inl rfl) e,c⟩,o2,k _ _ (.inl rfl) e2,d2⟩
 |dK kvs=>obtain⟨z,y,vs,r,ob,es,ep,e,c⟩:=x;exact⟨z,y,vs,r,ob,es,ep,k _ _ (.inl rfl) e,c⟩
 |dT kvs =>
  obtain⟨z,y,xs,r,ob,es,ep,e,c⟩:=x
  exact⟨z,y,xs,Paired.Am r fun p q z=>⟨z.1,ht _ _ z.2.1,z.2.2⟩,ob,es,ep,k _ _ (.inl rfl) e,c⟩
 |set S n=>obtain⟨ob,es,ep,t,e,c⟩:=x;exact⟨ob,es,ep,t,k _ _ (.inl rfl) e,c⟩
 |ins C dx fs =>
  obtain⟨d,z,ne,e,mA,⟨od,es,ep,e2,c⟩,r⟩:=x
  exact⟨ho _ d,z,ne,k _ _ (.inl rfl) e,mA,⟨od,es,ep,k _ _ (.inr d) e2,c⟩,r⟩
 |own y=>obtain⟨ob,e⟩:=x;exact⟨ob,k _ _ (.inl rfl) e⟩
 |xd fs=>obtain⟨mA,⟨od,es,ep,e,c⟩,r⟩:=x;exact⟨mA,⟨od,es,ep,k _ _ (.inl rfl) e,c⟩,r⟩
 |rng lo hi=>obtain⟨t,u,v,e⟩:=x;exact⟨t,u,v,k _ _ (.inl rfl) e⟩
 |frz ob u ih=>obtain⟨e,q⟩:=x;exact⟨k _ _ (.inl rfl) e,ih q⟩
 |tbl ps =>
  have e:h.get? a=some {cls:=.none,data:=.fields ps}:=x
  show h'.get? a=some {cls:=.none,data:=.fields ps}
  exact k a _ (.inl rfl) e
 |met f y =>
  have e:h.get? a=some (PySem.W.methodObj (.ref f) (.ref y)):=x
  show h'.get? a=some (PySem.W.methodObj (.ref f) (.ref y))
  exact k a _ (.inl rfl) e
 |ext φ=>obtain⟨p,⟨o,e⟩,st⟩:=x;exact⟨st _ _ p fun o q=>k _ _ (.inl rfl) q,⟨o,k _ _ (.inl rfl) e⟩,st⟩
theorem jY.lt(x:jY P w H h)(e:H a=some o):a<h.objs.size:=(x a o e).lt
theorem jY.fresh(x:jY P w H h)(e:h.objs.size<=a):H a=none:=by
 cases q:H a with
 |none=>rfl
 |some u=>exact absurd (Nat.lt_of_lt_of_le (x.lt q) e) (Nat.lt_irrefl _)
theorem jY.kept(x:jY P w H h)(k:∀b u,h.get? b=some u->h'.get? b=some u):jY P w H h':=fun a o e =>
 (x a o e).stay (fun b u _ q=>k b u q) (fun _ q=>q) fun _ _ q=>q
theorem jY.laid(x:jY P w H h)(k:∀b u,h.get? b=some u->h'.get? b=some u)(hp:h.objs.size<=a)(new:cW P w (upd H a o) h' a o):jY P w (upd H a o) h':=fun b u e=>by
 have hn:=x.fresh hp
 by_cases hb:b=a
 ·subst hb;rw[af]at e;cases e;exact new
 ·rw[ay hb]at e
  exact(x b u e).stay (fun c v _ q=>k c v q) (fun c q=>by rw[ay (au q hn)];exact q) fun c xs q=>by rw[ay (au q hn)];exact q
end
noncomputable def Rd(H:Hp)(a:Addr)(u:HO):Prop:=H a=some u\/∃o,H a=some (.frz o u)
theorem Rd.ok{P:Program}{w:World}{H:Hp}{h:Heap}{a:Addr}{u:HO}(r:Rd H a u)(x:jY P w H h):cW P w H h a u:=by
 rcases r with r|⟨o,r⟩
 ·exact x a u r
 ·obtain⟨_,q⟩:=x a _ r
  exact q
noncomputable def Bt:Option HO->Prop
 |some (.lst _)=>True
 |some (.dK _)=>True
 |some (.dT _)=>True
 |some (.set _ _)=>True
 |some (.ins _ _ _)=>True
 |some (.ext _)=>True
 |_=>False
section
variable {P:Program}{w:World}{H:Hp}{h h':Heap}{x e:Addr}{o':HO}
theorem jY.write(ok:jY P w H h)(mu:Bt (H x))(he:e=x\/H e=some (.own x))(k:∀b u,b≠e->h.get? b=some u->h'.get? b=some u)(heo:∃u,h'.get? e=some u)
  (new:cW P w (upd H x o') h' x o'):jY P w (upd H x o') h':=fun b u q=>by
 have nown:∀c y,H c=some (.own y)->c≠x:=fun c y r z=>by subst z;rw[r]at mu;exact mu
 have ntup:∀c xs,H c=some (.tup xs)->c≠x:=fun c xs r z=>by subst z;rw[r]at mu;exact mu
 by_cases hb:b=x
 ·subst hb;rw[af]at q;cases q;exact new
 ·rw[ay hb]at q
  by_cases hbe:b=e
  ·have q':H b=some (.own x):=by
    rcases he with z|z
    ·exact absurd (hbe.trans z) hb
    ·rw[hbe];exact z
   rw[q]at q';cases q'
   obtain⟨v,hv⟩:=heo
   exact⟨v,by rw[hbe];exact hv⟩
  ·refine(ok b u q).stay (fun c v hc r=>k c v ?_ r) (fun c r=>by rw[ay (nown c b r)];exact r) fun c xs r=>by rw[ay (ntup c xs r)];exact r
   rcases hc with rfl|hc
   ·exact hbe
   ·rintro rfl
    rcases he with z|z
    ·exact nown c b hc z
    ·rw[hc]at z;cases z;exact hb rfl
end
structure Un(fs ex:List Addr) (H H':Hp) (h h':Heap):Prop where
 keep:∀b o,h.get? b=some o->H b=none->b∉fs->b∉ex->h'.get? b=some o
 slot:∀b o,h.get? b=some o->H b=none->b∈fs->b∉ex->∃sl,h'.get? b=some {o with slots:=sl}
 free:∀b o,h.get? b=some o->H b=none->b∉ex->H' b=none
 there:∀b o,h.get? b=some o->b∉ex->∃o',h'.get? b=some o'
 tups:∀b xs,H b=some (.tup xs)->H' b=some (.tup xs)
 frzs:∀b o u,H b=some (.frz o u)->H' b=some (.frz o u)
 tbls:∀b ps,H b=some (.tbl ps)->∃more,H' b=some (.tbl (ps++more))
section
variable {fs fs' ex ex':List Addr}{H H1 H2:Hp}{h h1 h2 h':Heap}{a x e:Addr}{o:HO}
theorem Un.any(u:Un fs ex H H1 h h1){b:Addr}{ob:Obj}(q:h.get? b=some ob)(n:H b=none)(hx:b∉ex):∃sl,h1.get? b=some {ob with slots:=sl}:=by
 by_cases hb:b∈fs
 ·exact u.slot b ob q n hb hx
 ·exact⟨ob.slots,u.keep b ob q n hb hx⟩
theorem Un.trans(a:Un fs ex H H1 h h1)(b:Un fs ex H1 H2 h1 h2):Un fs ex H H2 h h2 where
 keep:=fun c ob q n hc hx=>b.keep c ob (a.keep c ob q n hc hx) (a.free c ob q n hx) hc hx
 slot:=fun c ob q n hc hx=>by
  obtain⟨sl,e1⟩:=a.slot c ob q n hc hx
  obtain⟨sl',e2⟩:=b.slot c _ e1 (a.free c ob q n hx) hc hx
  exact⟨sl',e2⟩
 free:=fun c ob q n hx=>by
  obtain⟨o',e1⟩:=a.there c ob q hx
  exact b.free c o' e1 (a.free c ob q n hx) hx
 there:=fun c ob q hx=>by
  obtain⟨o',e1⟩:=a.there c ob q hx
  exact b.there c o' e1 hx
 tups:=fun c xs q=>b.tups c xs (a.tups c xs q)
 frzs:=fun c ob xs q=>b.frzs c ob xs (a.frzs c ob xs q)
 tbls:=fun c ps q=>by
  obtain⟨m1,e1⟩:=a.tbls c ps q
  obtain⟨m2,e2⟩:=b.tbls c _ e1
  exact⟨m1++m2,by rw[e2,Array.append_assoc]⟩
theorem Un.kept(k:∀b u,h.get? b=some u->h'.get? b=some u):Un fs ex H H h h' :=
 ⟨fun b ob q _ _ _=>k b ob q,fun b ob q _ _ _=>⟨ob.slots,k b ob q⟩,fun _ _ _ n _=>n,fun b ob q _=>⟨ob,k b ob q⟩,fun _ _ q=>q,fun _ _ _ q=>q,fun _ ps q=>⟨#[],by rw[q];simp⟩⟩
theorem Un.refl:Un fs ex H H h h:=Un.kept fun _ _ q=>q
theorem Un.laid(k:∀b u,h.get? b=some u->h'.get? b=some u)(hp:h.objs.size<=a)(hn:H a=none):Un fs ex H (upd H a o) h h' where
 keep:=fun b u q _ _ _=>k b u q
 slot:=fun b u q _ _ _=>⟨u.slots,k b u q⟩
 free:=fun b u q n _=>by rw[ay (Nat.ne_of_lt (Nat.lt_of_lt_of_le (Heap.lt_size q) hp))];exact n
 there:=fun b u q _=>⟨u,k b u q⟩
 tups:=fun b xs q=>by rw[ay (au q hn)];exact q
 frzs:=fun b u xs q=>by rw[ay (au q hn)];exact q
 tbls:=fun b ps q=>⟨#[],by rw[ay (au q hn),q];simp⟩
theorem Un.write(mu:Bt (H x))(he:e=x\/H e=some (.own x))(k:∀b u,b≠e->h.get? b=some u->h'.get? b=some u)(heo:∃u,h'.get? e=some u):Un fs ex H (upd H x o) h h':=by
 have hx:∀b,H b=none->b≠x:=fun b n z=>by subst z;rw[n]at mu;exact mu
 have hb:∀b,H b=none->b≠e:=fun b n z=>by
  subst z
  rcases he with r|r
  ·exact hx b n r
  ·rw[n]at r;cases r
 have hm:∀b u,H b=some u->¬Bt (some u)->b≠x:=fun b u q nm z=>by subst z;rw[q]at mu;exact nm mu
 refine⟨fun b u q n _ _=>k b u (hb b n) q,fun b u q n _ _=>⟨u.slots,k b u (hb b n) q⟩,fun b u q n _=>by rw[ay (hx b n)];exact n,fun b u q _=>?_,
  fun b xs q=>by rw[ay (hm b _ q fun z=>z)];exact q,fun b u xs q=>by rw[ay (hm b _ q fun z=>z)];exact q,fun b ps q=>⟨#[],by rw[ay (hm b _ q fun z=>z),q];simp⟩⟩
 by_cases hbe:b=e
 ·subst hbe;exact heo
 ·exact⟨u,k b u hbe q⟩
end
noncomputable def Ct(h:Heap)(H:Hp):List Addr:=(List.range h.objs.size).filter fun a=>(H a).isSome
noncomputable def pW(h:Heap)(H:Hp):Heap:=PySem.W.hideAll h (Ct h H)
theorem uX(h:Heap)(H:Hp):(pW h H).objs.size=h.objs.size:=PySem.W.hideAll_size _ _
theorem vZ{h:Heap}{H:Hp}{b:Addr}{o:Obj}(e:h.get? b=some o)(n:H b=none):(pW h H).get? b=some o :=
 PySem.W.hideAll_get _ e fun hm=>by
  have q:(H b).isSome=true:=(List.mem_filter.mp hm).2
  rw[n]at q;simp at q
theorem yu{h:Heap}{H:Hp}{b:Addr}{o:Obj}(e:(pW h H).get? b=some o):h.get? b=some o/\H b=none:=by
 have e':h.get? b=some o:=PySem.W.of_hideAll (Ct h H) e
 refine⟨e',?_⟩
 cases q:H b with
 |none=>rfl
 |some x =>
  have hm:b∈Ct h H:=List.mem_filter.mpr ⟨List.mem_range.mpr (Heap.lt_size e'),by simp[q]⟩
  have z:(pW h H).get? b=none:=PySem.W.hideAll_none (Ct h H) hm
  rw[z]at e;cases e
structure Mod(K:PySem.W.Frag) (mg:Str->Option Value) (base:Heap):Prop where
 kin:K.In base
 glob:base.Ns mainGlobals mg
 blt:∃mb,base.Ns builtinsNs mb/\∀x:Str,x≠"__name__"->mb x=bootBuiltins x
 nolimit:base.NoLimit
structure Cx where
 prog:Program
 w:World
 K:PySem.W.Frag
 mg:Str->Option Value
 base:Heap
 A:Around
 N:List Str
 s₀:Shared
 H₀:Hp
 env:Env
 outer:List Env
 stack:List Env
 ex:List Addr
 fn:Str->Bool
 calm:Bool
 pn:List (Addr×Obj)
 xe:Value->Shared->Prop
noncomputable def frs(l:List Env):List Addr:=l.filterMap (·.frame)
noncomputable abbrev Cx.fs(X:Cx):List Addr:=frs X.outer
noncomputable def Cu(sc:Scope)(x:Str):Prop:=sc.names.lookup x=some .local\/sc.names.lookup x=some .cell\/sc.names.lookup x=some .free
noncomputable def Loc(sc:Scope)(x:Str):Prop:=sc.names.lookup x=some .local\/sc.names.lookup x=some .cell
noncomputable def Look(env:Env)(h:Heap)(m:Str->Option Value)(x:Str)(u:Value):Prop :=
 (env.kindOf x=some .local/\m x=some u)\/((env.kindOf x=some .cell\/env.kindOf x=some .free)/\∃c,env.cells.lookup x=some c/\h.IsCell c (some u))
structure Cx.Ok(X:Cx):Prop where
 mod:Mod X.K X.mg X.base
 kind:X.env.scope.kind=.function
 glob:X.env.globals=mainGlobals
 blt:X.env.builtins=builtinsNs
 above:X.s₀.heap.objs.size<=X.env.locals
 inj:∀x y c,X.env.cells.lookup x=some c->X.env.cells.lookup y=some c->x=y
 has:∀x,(X.env.kindOf x=some .cell\/X.env.kindOf x=some .free)->∃c,X.env.cells.lookup x=some c
 cab:∀x c,X.fn x=true->X.env.cells.lookup x=some c->X.s₀.heap.objs.size<=c
 hd:X.calm=true->X.A.handled=none
 frames:X.A.frames=some X.stack
 stk:X.stack=X.outer\/(X.stack=X.env::X.outer/\X.env.frame=some X.env.locals)
 exf:∀b∈X.ex,b≠X.env.locals/\∀x c,X.env.cells.lookup x=some c->c≠b
 bs:∀b o,X.base.get? b=some o->X.s₀.heap.get? b=some o/\X.H₀ b=none
 bsz:X.base.objs.size<=X.s₀.heap.objs.size
 noex:∀b o,X.base.get? b=some o->b∉X.ex
 exfs:∀b∈X.ex,b∉X.fs
 mJ:X.s₀.heap.FunFrames X.base X.outer
 frf:∀b∈X.fs,X.H₀ b=none
structure Inv(X:Cx) (pins:List (Addr×Obj)) (σ:List (Option V)) (H:Hp) (s:Shared):Prop where
 ok:X.Ok
 os:s.os=X.s₀.os
 bare:AllBare s.gens
 base:Un X.fs X.ex X.H₀ H X.s₀.heap s.heap
 loc:∃m,s.heap.Ns X.env.locals m/\∀(i:Nat) (x:Str) (v:V),X.N[i]?=some x->σ[i]?=some (some v)->Cu X.env.scope x->∃u,RelV v u/\Look X.env s.heap m x u
 cell:∀x c,X.env.cells.lookup x=some c->∃v,s.heap.IsCell c v
 free:H X.env.locals=none
 freeC:∀x c,X.env.cells.lookup x=some c->H c=none
 pin:∀p∈X.pn++pins,s.heap.get? p.1=some p.2/\H p.1=none/\p.1≠X.env.locals/\p.1∉X.fs/\∀v,p.2.data≠.cell v
 hok:jY X.prog X.w H s.heap
 len:σ.length=X.N.length
section
variable {X:Cx}{pins:List (Addr×Obj)}{σ:List (Option V)}{H H':Hp}{s:Shared}{h':Heap}
theorem Cx.Ok.CN(ok:X.Ok){b:Addr}{o:Obj}(e:X.base.get? b=some o):b∉X.fs:=fun hb=>by
 have:=(ok.mJ.mem hb).1
 rw[e]at this;cases this
theorem Inv.bs(I:Inv X pins σ H s):∀b o,X.base.get? b=some o->s.heap.get? b=some o/\H b=none:=fun b o e =>
 ⟨I.base.keep b o (I.ok.bs b o e).1 (I.ok.bs b o e).2 (I.ok.CN e) (I.ok.noex b o e),I.base.free b o (I.ok.bs b o e).1 (I.ok.bs b o e).2 (I.ok.noex b o e)⟩
theorem Inv.bk(I:Inv X pins σ H s):∀b o,X.base.get? b=some o->s.heap.get? b=some o:=fun b o e=>(I.bs b o e).1
theorem Inv.mod(I:Inv X pins σ H s):Mod X.K X.mg X.base:=I.ok.mod
theorem Inv.yq(I:Inv X pins σ H s):X.K.In s.heap:=I.ok.mod.kin.keeps I.bk
theorem Inv.lt(I:Inv X pins σ H s):X.env.locals<s.heap.objs.size:=let⟨_,hn,_⟩:=I.loc;hn.lt
theorem Inv.sz(I:Inv X pins σ H s):X.s₀.heap.objs.size<=s.heap.objs.size:=Nat.le_trans I.ok.above (Nat.le_of_lt I.lt)
theorem Inv.yw(I:Inv X pins σ H s){a:Addr}(h:s.heap.objs.size<=a):a∉X.fs:=fun hb=>by
 obtain⟨_,o,ho,_⟩:=I.ok.mJ.mem hb
 exact absurd (Nat.lt_of_lt_of_le (Heap.lt_size ho) (Nat.le_trans I.sz h)) (Nat.lt_irrefl _)
theorem Inv.An(I:Inv X pins σ H s):∀x c,X.env.cells.lookup x=some c->c≠X.env.locals:=fun x c e z=>by
 obtain⟨v,o,ho,hd⟩:=I.cell x c e
 obtain⟨m,⟨o',es,ep,ho',hd',_⟩,_⟩:=I.loc
 rw[z,ho']at ho;cases ho;rw[hd']at hd;cases hd
theorem Inv.mJ(I:Inv X pins σ H s):s.heap.FunFrames X.base X.outer:=by
 have all:∀(l:List Env),(∀b∈frs l,b∈X.fs)->X.s₀.heap.FunFrames X.base l->s.heap.FunFrames X.base l:=by
  intro l
  induction l with
  |nil=>intro _ _;trivial
  |cons env r ih =>
   intro hs hl
   obtain⟨hk,⟨L,o,hf,hn,ho,hd⟩,hr⟩:=hl
   have hL:L∈X.fs:=hs L (by unfold frs;rw[List.filterMap_cons,hf];exact List.mem_cons_self)
   obtain⟨sl,e⟩:=I.base.slot L o ho (I.ok.frf L hL) hL fun z=>I.ok.exfs L z hL
   exact⟨hk,⟨L,_,hf,hn,e,hd⟩,ih (fun b hb=>hs b (by unfold frs;rw[List.filterMap_cons,hf];exact List.mem_cons_of_mem _ hb)) hr⟩
 exact all X.outer (fun _ hb=>hb) I.ok.mJ
theorem Inv.stack(I:Inv X pins σ H s):s.heap.FunFrames X.base X.stack:=by
 rcases I.ok.stk with e|⟨e,hf⟩
 ·rw[e];exact I.mJ
 ·rw[e]
  obtain⟨m,hn,_⟩:=I.loc
  refine .cons (by rw[I.ok.kind];decide) hf hn ?_ I.mJ
  exact Heap.get?_none_of_le (Nat.le_trans I.ok.bsz I.ok.above)
theorem Inv.mK(I:Inv X pins σ H s):∀b∈frs X.stack,b∈X.env.locals::X.fs:=fun b hb=>by
 rcases I.ok.stk with e|⟨e,hf⟩
 ·rw[e]at hb;exact List.mem_cons_of_mem _ hb
 ·rw[e]at hb
  unfold frs at hb
  rw[List.filterMap_cons,hf]at hb
  exact hb
theorem Inv.tX(I:Inv X pins σ H s):∀b∈frs X.stack,H b=none:=fun b hb=>by
 rcases List.mem_cons.mp (I.mK b hb)with e|hb
 ·rw[e];exact I.free
 ·obtain⟨_,o,ho,_⟩:=I.ok.mJ.mem hb
  exact I.base.free b o ho (I.ok.frf b hb) fun z=>I.ok.exfs b z hb
theorem Inv.step{g':Array GenState}{t':Nat}{d':Drawn}{ch:List Addr}(I:Inv X pins σ H s)
  (hch:∀b∈ch,(b∈X.ex\/X.s₀.heap.objs.size<=b)/\b≠X.env.locals/\(∀x c,X.env.cells.lookup x=some c->c≠b)/\∀p∈X.pn++pins,p.1≠b)
  (keep:∀b o,b≠X.env.locals->b∉X.fs->b∉ch->s.heap.get? b=some o->H b=none->h'.get? b=some o)
  (slot:∀b o,b≠X.env.locals->b∈X.fs->b∉ch->s.heap.get? b=some o->H b=none->∃sl,h'.get? b=some {o with slots:=sl}) (free:∀b o,b∉ch->s.heap.get? b=some o->H b=none->H' b=none)
  (there:∀b o,b∉ch->s.heap.get? b=some o->∃o',h'.get? b=some o')
  (tups:∀b xs,H b=some (.tup xs)->H' b=some (.tup xs)) (frzs:∀b o u,H b=some (.frz o u)->H' b=some (.frz o u)) (tbls:∀b ps,H b=some (.tbl ps)->∃more,H' b=some (.tbl (ps++more)))
  (ns:∀m,s.heap.Ns X.env.locals m->h'.Ns X.env.locals m) (hok:jY X.prog X.w H' h') (hg:AllBare g') :
  Inv X pins σ H' {s with heap:=h',gens:=g',drawn:=d',toks:=t'}:=by
 have neL:∀b o,X.s₀.heap.get? b=some o->b≠X.env.locals:=fun b o e=>Nat.ne_of_lt (Nat.lt_of_lt_of_le (Heap.lt_size e) I.ok.above)
 have neC:∀b o,X.s₀.heap.get? b=some o->b∉X.ex->b∉ch:=fun b o e hx hb=>by
  rcases(hch b hb).1 with z|z
  ·exact hx z
  ·exact absurd (Nat.lt_of_lt_of_le (Heap.lt_size e) z) (Nat.lt_irrefl _)
 have cellK:∀x c,X.env.cells.lookup x=some c->∀v,s.heap.IsCell c v->h'.IsCell c v:=fun x c e v ⟨o,ho,hd⟩=>by
  have nch:c∉ch:=fun z=>(hch c z).2.2.1 x c e rfl
  by_cases hc:c∈X.fs
  ·obtain⟨sl,q⟩:=slot c o (I.An x c e) hc nch ho (I.freeC x c e)
   exact⟨_,q,hd⟩
  ·exact⟨o,keep c o (I.An x c e) hc nch ho (I.freeC x c e),hd⟩
 refine⟨I.ok,I.os,hg,⟨fun b o e n hb hx=>?_,fun b o e n hb hx=>?_,fun b o e n hx=>?_,fun b o e hx=>?_,fun b xs e=>tups b xs (I.base.tups b xs e),fun b o xs e=>frzs b o xs (I.base.frzs b o xs e),fun b ps e=>?_⟩,?_,fun x c e=>?_,?_,fun x c e=>?_,fun p hp=>?_,hok,I.len⟩
 ·exact keep b o (neL b o e) hb (neC b o e hx) (I.base.keep b o e n hb hx) (I.base.free b o e n hx)
 ·obtain⟨sl,e1⟩:=I.base.slot b o e n hb hx
  obtain⟨sl',e2⟩:=slot b _ (neL b o e) hb (neC b o e hx) e1 (I.base.free b o e n hx)
  exact⟨sl',e2⟩
 ·obtain⟨o',e1⟩:=I.base.there b o e hx
  exact free b o' (neC b o e hx) e1 (I.base.free b o e n hx)
 ·obtain⟨o',e1⟩:=I.base.there b o e hx
  exact there b o' (neC b o e hx) e1
 ·obtain⟨m1,e1⟩:=I.base.tbls b ps e
  obtain⟨m2,e2⟩:=tbls b _ e1
  exact⟨m1++m2,by rw[e2,Array.append_assoc]⟩
 ·obtain⟨m,hn,hl⟩:=I.loc
  refine⟨m,ns m hn,fun i x v e1 e2 e3=>?_⟩
  obtain⟨u,r,l⟩:=hl i x v e1 e2 e3
  refine⟨u,r,?_⟩
  rcases l with l|⟨k,c,e,z⟩
  ·exact .inl l
  ·exact .inr ⟨k,c,e,cellK x c e _ z⟩
 ·obtain⟨v,z⟩:=I.cell x c e
  exact⟨v,cellK x c e v z⟩
 ·obtain⟨m,⟨o,_,_,ho,_⟩,_⟩:=I.loc
  exact free _ o (fun z=>(hch _ z).2.1 rfl) ho I.free
 ·obtain⟨v,o,ho,hd⟩:=I.cell x c e
  exact free c o (fun z=>(hch c z).2.2.1 x c e rfl) ho (I.freeC x c e)
 ·obtain⟨e,n,ne,nf,d⟩:=I.pin p hp
  have nch:p.1∉ch:=fun z=>(hch p.1 z).2.2.2 p hp rfl
  exact⟨keep p.1 p.2 ne nf nch e n,free p.1 p.2 nch e n,ne,nf,d⟩
theorem Inv.un{t':Nat}(I:Inv X pins σ H s)(u:Un X.fs [] H H' s.heap h')(hok:jY X.prog X.w H' h'):Inv X pins σ H' {s with heap:=h',toks:=t'}:=by
 obtain⟨m,⟨o,es,ep,ho,r⟩,_⟩:=id I.loc
 obtain⟨sl,hL⟩:=u.any ho I.free (by simp)
 exact I.step (g':=s.gens) (d':=s.drawn) (ch:=[]) (fun _ z=>nomatch z) (fun b o _ hb _ e n=>u.keep b o e n hb (by simp)) (fun b o _ hb _ e n=>u.slot b o e n hb (by simp)) (fun b o _ e n=>u.free b o e n (by simp)) (fun b o _ e=>u.there b o e (by simp)) u.tups u.frzs u.tbls (fun m' hm=>by
  obtain⟨o',es',ep',ho',r'⟩:=hm
  rw[ho]at ho';cases ho'
  exact⟨_,es',ep',hL,r'⟩) hok I.bare
theorem Inv.call{g':Array GenState}{t':Nat}{d':Drawn}{ch:List Addr}(I:Inv X pins σ H s)(u:Un (frs X.stack) ch H H' s.heap h')(hok:jY X.prog X.w H' h')(hg:AllBare g')
  (hch:∀b∈ch,(b∈X.ex\/X.s₀.heap.objs.size<=b)/\b≠X.env.locals/\(∀x c,X.env.cells.lookup x=some c->c≠b)/\∀p∈X.pn++pins,p.1≠b) :
  Inv X pins σ H' {s with heap:=h',gens:=g',drawn:=d',toks:=t'}:=by
 obtain⟨m,⟨o,es,ep,ho,r⟩,_⟩:=id I.loc
 obtain⟨sl,hL⟩:=u.any ho I.free fun z=>(hch _ z).2.1 rfl
 exact I.step (ch:=ch) hch (fun b o hL hb hc e n=>u.keep b o e n (fun z=>(List.mem_cons.mp (I.mK b z)).elim hL hb) hc) (fun b o _ _ hc e n=>u.any e n hc) (fun b o hc e n=>u.free b o e n hc) (fun b o hc e=>u.there b o e hc) u.tups u.frzs u.tbls (fun m' hm=>by
  obtain⟨o',es',ep',ho',r'⟩:=hm
  rw[ho]at ho';cases ho'
  exact⟨_,es',ep',hL,r'⟩) hok hg
theorem Inv.turned{t':Nat}{it:Addr}(I:Inv X pins σ H s)(k:∀b o,b≠it->s.heap.get? b=some o->h'.get? b=some o)(hn:H it=none)(hL:it≠X.env.locals)
  (h1:it∈X.ex\/X.s₀.heap.objs.size<=it) (h2:∀x c,X.env.cells.lookup x=some c->c≠it) (h3:∀p∈X.pn++pins,p.1≠it):Inv X pins σ H {s with heap:=h',toks:=t'}:=by
 have nit:∀b u,H b=some u->b≠it:=fun b u e z=>by rw[z,hn]at e;cases e
 refine I.step (g':=s.gens) (d':=s.drawn) (ch:=[it]) (fun b hb=>?_) (fun b o _ _ hc e _=>k b o (fun z=>hc (by simp[z])) e) (fun b o _ _ hc e _=>⟨o.slots,k b o (fun z=>hc (by simp[z])) e⟩) (fun _ _ _ _ n=>n)
  (fun b o hc e=>⟨o,k b o (fun z=>hc (by simp[z])) e⟩) (fun _ _ e=>e) (fun _ _ _ e=>e) (fun b ps e=>⟨#[],by rw[e];simp⟩) (fun m hm=>?_) (fun b u e=>?_) I.bare
 ·have e:b=it:=by simpa using hb
  subst e
  exact⟨h1,hL,h2,h3⟩
 ·obtain⟨o,es,ep,ho,r⟩:=hm
  exact⟨o,es,ep,k _ o (Ne.symm hL) ho,r⟩
 ·refine(I.hok b u e).stay (fun c v hc q=>k c v ?_ q) (fun _ q=>q) fun _ _ q=>q
  rcases hc with z|z
  ·rw[z];exact nit b u e
  ·exact nit c _ z
theorem Inv.tok(I:Inv X pins σ H s)(t:Nat):Inv X pins σ H {s with toks:=t}:=I.un (h':=s.heap) (t':=t) Un.refl I.hok
theorem Inv.kept{t':Nat}(I:Inv X pins σ H s)(k:∀b u,s.heap.get? b=some u->h'.get? b=some u):Inv X pins σ H {s with heap:=h',toks:=t'}:=I.un (Un.kept k) (I.hok.kept k)
theorem Inv.laid{a:Addr}{o:HO}{t':Nat}(I:Inv X pins σ H s)(k:∀b u,s.heap.get? b=some u->h'.get? b=some u)(hp:s.heap.objs.size<=a)(new:cW X.prog X.w (upd H a o) h' a o) :
  Inv X pins σ (upd H a o) {s with heap:=h',toks:=t'}:=I.un (Un.laid k hp (I.hok.fresh hp)) (I.hok.laid k hp new)
theorem Inv.write{x e:Addr}{o:HO}{t':Nat}(I:Inv X pins σ H s)(mu:Bt (H x))(he:e=x\/H e=some (.own x))(k:∀b u,b≠e->s.heap.get? b=some u->h'.get? b=some u)(heo:∃u,h'.get? e=some u)
  (new:cW X.prog X.w (upd H x o) h' x o):Inv X pins σ (upd H x o) {s with heap:=h',toks:=t'}:=I.un (Un.write mu he k heo) (I.hok.write mu he k heo new)
theorem Inv.eY{pins':List (Addr×Obj)}(I:Inv X pins σ H s)(h:∀p∈pins',s.heap.get? p.1=some p.2/\H p.1=none/\p.1≠X.env.locals/\p.1∉X.fs/\∀v,p.2.data≠.cell v):Inv X pins' σ H s :=
 ⟨I.ok,I.os,I.bare,I.base,I.loc,I.cell,I.free,I.freeC,fun p hp=>(List.mem_append.mp hp).elim (fun z=>I.pin p (List.mem_append_left _ z)) (h p),I.hok,I.len⟩
theorem qQ{N:List Str}(hN:N.Nodup){i j:Nat}{x:Str}(a:N[i]?=some x)(b:N[j]?=some x):i=j:=by
 obtain⟨h1,e1⟩:=List.getElem?_eq_some_iff.mp a
 obtain⟨h2,e2⟩:=List.getElem?_eq_some_iff.mp b
 exact(List.getElem_inj hN).mp (e1.trans e2.symm)
theorem uY{M:Model}{A:Around}{E:Value->Shared->Prop}{i:Nat}{x:Str}{v:V}{u:Value}{Q:Unit->Shared->Prop}(I:Inv X pins σ H s)(hN:X.N.Nodup)(hi:X.N[i]?=some x)(hx:Loc X.env.scope x)(r:RelV v u)
  (h:∀s',Inv X pins (σ.set i (some v)) H s'->(∃a,Heap.SameBut a s.heap s'.heap/\(a=X.env.locals\/X.env.cells.lookup x=some a))->Q () s') (hf:X.fn x=true\/X.env.scope.names.lookup x=some .local:=by first|exact .inl rfl|exact .inr rfl|assumption):wpAny M A (storeName X.env x u) Q E s:=by
 obtain⟨m,hn,hl⟩:=id I.loc
 have hcls:(X.env.scope.kind == .class||(X.env.scope.kind == .module&&X.env.locals != X.env.globals))=false:=by rw[I.ok.kind];rfl
 have hiσ:i<σ.length:=by rw[I.len];exact(List.getElem?_eq_some_iff.mp hi).1
 have An:=I.An
 have tracked:∀{a:Addr}{h':Heap},(∃o,s.heap.get? a=some o/\H a=none)->Heap.SameBut a s.heap h'->jY X.prog X.w H h':=fun{a h'} ha hs b ob e=>by
  obtain⟨_,_,hfree⟩:=ha
  refine(I.hok b ob e).stay (fun c w' hc q=>(hs.2 c ?_).trans q) (fun _ q=>q) fun _ _ q=>q
  rintro rfl
  rcases hc with rfl|hc
  ·rw[hfree]at e;cases e
  ·rw[hfree]at hc;cases hc
 rcases hx with hk|hk
 ·refine wpAny_storeName_local hk hn (fun h' hn' hs=>?_) hcls
  obtain⟨oL,_,_,hoL,_⟩:=id hn
  refine h _ ⟨I.ok,I.os,I.bare,⟨fun b o e n hb hx=>?_,fun b o e n hb hx=>?_,I.base.free,fun b o e hx=>?_,I.base.tups,I.base.frzs,I.base.tbls⟩,⟨_,hn',fun j y v' e1 e2 e3=>?_⟩,fun y c e=>?_,I.free,I.freeC,fun p hp=>?_,tracked ⟨oL,hoL,I.free⟩ hs,by simpa using I.len⟩ ⟨_,hs,.inl rfl⟩
  ·exact(hs.2 b (Nat.ne_of_lt (Nat.lt_of_lt_of_le (Heap.lt_size e) I.ok.above))).trans (I.base.keep b o e n hb hx)
  ·obtain⟨sl,e1⟩:=I.base.slot b o e n hb hx
   exact⟨sl,(hs.2 b (Nat.ne_of_lt (Nat.lt_of_lt_of_le (Heap.lt_size e) I.ok.above))).trans e1⟩
  ·obtain⟨o',e1⟩:=I.base.there b o e hx
   exact⟨o',(hs.2 b (Nat.ne_of_lt (Nat.lt_of_lt_of_le (Heap.lt_size e) I.ok.above))).trans e1⟩
  ·by_cases hj:j=i
   ·subst hj
    rw[hi]at e1;cases e1
    rw[List.getElem?_set_self hiσ]at e2
    cases e2
    exact⟨u,r,.inl ⟨hk,by simp⟩⟩
   ·rw[List.getElem?_set_ne (Ne.symm hj)]at e2
    obtain⟨u',r',q⟩:=hl j y v' e1 e2 e3
    refine⟨u',r',?_⟩
    rcases q with⟨k,e⟩|⟨k,c,e,z⟩
    ·refine .inl ⟨k,?_⟩
     have:y≠x:=fun e=>hj (qQ hN e1 (e▸hi))
     simp[this,e]
    ·exact .inr ⟨k,c,e,z.sameBut hs (An y c e)⟩
  ·obtain⟨w',z⟩:=I.cell y c e
   exact⟨w',z.sameBut hs (An y c e)⟩
  ·obtain⟨e,n,ne,nf,d⟩:=I.pin p hp
   exact⟨(hs.2 p.1 ne).trans e,n,ne,nf,d⟩
 ·have hfn:X.fn x=true:=by
   rcases hf with z|z
   ·exact z
   ·rw[z]at hk;cases hk
  obtain⟨c,hc⟩:=I.ok.has x (.inl hk)
  obtain⟨w',z⟩:=I.cell x c hc
  refine wpAny_storeName_cell I.ok.kind hk hc z (fun h' hc' hs=>?_)
  obtain⟨oc,hoc,hocd⟩:=id z
  refine h {s with heap:=h'} ⟨I.ok,I.os,I.bare,⟨fun b o e n hb hx=>?_,fun b o e n hb hx=>?_,I.base.free,fun b o e hx=>?_,I.base.tups,I.base.frzs,I.base.tbls⟩,⟨m,hn.sameBut hs (Ne.symm (An x c hc)),fun j y v' e1 e2 e3=>?_⟩,fun y c' e=>?_,I.free,I.freeC,fun p hp=>?_,tracked ⟨oc,hoc,I.freeC x c hc⟩ hs,by simpa using I.len⟩ ⟨c,hs,.inr hc⟩
  ·exact(hs.2 b (Nat.ne_of_lt (Nat.lt_of_lt_of_le (Heap.lt_size e) (I.ok.cab x c hfn hc)))).trans (I.base.keep b o e n hb hx)
  ·obtain⟨sl,e1⟩:=I.base.slot b o e n hb hx
   exact⟨sl,(hs.2 b (Nat.ne_of_lt (Nat.lt_of_lt_of_le (Heap.lt_size e) (I.ok.cab x c hfn hc)))).trans e1⟩
  ·obtain⟨o',e1⟩:=I.base.there b o e hx
   exact⟨o',(hs.2 b (Nat.ne_of_lt (Nat.lt_of_lt_of_le (Heap.lt_size e) (I.ok.cab x c hfn hc)))).trans e1⟩
  ·by_cases hj:j=i
   ·subst hj
    rw[hi]at e1;cases e1
    rw[List.getElem?_set_self hiσ]at e2
    cases e2
    exact⟨u,r,.inr ⟨.inl hk,c,hc,hc'⟩⟩
   ·rw[List.getElem?_set_ne (Ne.symm hj)]at e2
    obtain⟨u',r',q⟩:=hl j y v' e1 e2 e3
    refine⟨u',r',?_⟩
    rcases q with q|⟨k,c',e,z'⟩
    ·exact .inl q
    ·refine .inr ⟨k,c',e,z'.sameBut hs ?_⟩
     rintro rfl
     exact hj (qQ hN e1 (I.ok.inj _ _ _ e hc▸hi))
  ·by_cases hcc:c'=c
   ·subst hcc;exact⟨_,hc'⟩
   ·obtain⟨w2,z2⟩:=I.cell y c' e
    exact⟨w2,z2.sameBut hs hcc⟩
  ·obtain⟨e,n,ne,nf,d⟩:=I.pin p hp
   refine⟨(hs.2 p.1 ?_).trans e,n,ne,nf,d⟩
   intro q
   rw[q,hoc]at e
   have q':oc=p.2:=Option.some.inj e
   exact d w' (by rw[←q'];exact hocd)
theorem jZ{M:Model}{A:Around}{E:Value->Shared->Prop}{i:Nat}{x:Str}{v:V}{u:Value}{Q:Unit->Shared->Prop}(I:Inv X pins σ H s)(hN:X.N.Nodup)(hi:X.N[i]?=some x)(hx:Loc X.env.scope x)(r:RelV v u)
  (h:∀s',Inv X pins (σ.set i (some v)) H s'->Q () s') (hf:X.fn x=true\/X.env.scope.names.lookup x=some .local:=by first|exact .inl rfl|exact .inr rfl|assumption):wpAny M A (storeName X.env x u) Q E s :=
 uY I hN hi hx r (fun s' I' _=>h s' I') hf
theorem Inv.Bu{s':Shared}{ch:List Addr}(I:Inv X pins σ H s)(ho:s'.os=s.os)(u:Un (frs X.stack) ch H H' s.heap s'.heap)(hok:jY X.prog X.w H' s'.heap)(hg:AllBare s'.gens)
  (hch:∀b∈ch,(b∈X.ex\/X.s₀.heap.objs.size<=b)/\b≠X.env.locals/\(∀x c,X.env.cells.lookup x=some c->c≠b)/\∀p∈X.pn++pins,p.1≠b):Inv X pins σ H' s':=by
 obtain⟨h',g',d',t',o'⟩:=s'
 have e:o'=s.os:=ho
 subst e
 exact I.call (g':=g') (t':=t') (d':=d') u hok hg hch
end
noncomputable abbrev XK:=Value->Option Addr->Hp->Prop
noncomputable abbrev St:=List (Option V)
noncomputable abbrev VK:=V->Hp->Prop
noncomputable abbrev TE:=St->Hp->VK->Prop
noncomputable abbrev TT:=St->Hp->(Bool->Hp->Prop)->Prop
noncomputable abbrev TA:=St->Hp->(List V->Hp->Prop)->Prop
structure Ends where
 nx:St->Hp->Prop
 rt:VK
 bk:St->Hp->Prop:=fun _ _=>False
 ct:St->Hp->Prop:=fun _ _=>False
noncomputable abbrev TS:=Ends->St->Hp->Prop
noncomputable def EP(X:Cx)(pins:List (Addr×Obj))(σ:St)(Q:VK)(u:Value)(s':Shared):Prop:=∃v H',Inv X pins σ H' s'/\RelV v u/\Q v H'
noncomputable def TP(X:Cx)(pins:List (Addr×Obj))(σ:St)(Q:Bool->Hp->Prop)(b:Bool)(s':Shared):Prop:=∃H',Inv X pins σ H' s'/\Q b H'
noncomputable def AP(X:Cx)(pins:List (Addr×Obj))(σ:St)(Q:List V->Hp->Prop)(us:List Value)(s':Shared):Prop:=∃vs H',Inv X pins σ H' s'/\Vals vs us/\Q vs H'
noncomputable def SP(X:Cx)(pins:List (Addr×Obj))(D:Ends)(f:Flow)(s':Shared):Prop :=
 match f with
 |.next=>∃σ' H',Inv X pins σ' H' s'/\D.nx σ' H'
 |.brk=>∃σ' H',Inv X pins σ' H' s'/\D.bk σ' H'
 |.cont=>∃σ' H',Inv X pins σ' H' s'/\D.ct σ' H'
 |.ret u=>∃v σ' H',Inv X pins σ' H' s'/\RelV v u/\D.rt v H'
noncomputable def PE(X:Cx)(e:Expr)(t:TE):Prop :=
 ∀(pins:List (Addr×Obj)) (s:Shared) (σ:St) (H:Hp) (Q:VK),Inv X pins σ H s->t σ H Q->wpAny (model X.prog X.w) X.A (eval e X.env) (EP X pins σ Q) X.xe s
noncomputable def PT(X:Cx)(e:Expr)(t:TT):Prop :=
 ∀(pins:List (Addr×Obj)) (s:Shared) (σ:St) (H:Hp) (Q:Bool->Hp->Prop),Inv X pins σ H s->t σ H Q->wpAny (model X.prog X.w) X.A (isTrue e X.env (eval e X.env)) (TP X pins σ Q) X.xe s
noncomputable def PW(X:Cx)(e:Expr)(t:TT):Prop :=
 ∀(whole:Sem Value) (pins:List (Addr×Obj)) (s:Shared) (σ:St) (H:Hp) (Q:Bool->Hp->Prop),Inv X pins σ H s->t σ H Q->wpAny (model X.prog X.w) X.A (isTrue e X.env whole) (TP X pins σ Q) X.xe s
theorem PW.pt{X:Cx}{e:Expr}{t:TT}(h:PW X e t):PT X e t:=h _
noncomputable def PA(X:Cx)(es:List Expr)(t:TA):Prop :=
 ∀(pos:Pos) (pins:List (Addr×Obj)) (s:Shared) (σ:St) (H:Hp) (Q:List V->Hp->Prop),Inv X pins σ H s->t σ H Q->wpAny (model X.prog X.w) X.A (spliced (backTo pos (starEach es X.env))) (AP X pins σ Q) X.xe s
noncomputable def PS(X:Cx)(st:Stmt)(t:TS):Prop :=
 ∀(pins:List (Addr×Obj)) (s:Shared) (σ:St) (H:Hp) (D:Ends),Inv X pins σ H s->t D σ H->wpAny (model X.prog X.w) X.A (exec st X.env) (SP X pins D) X.xe s
noncomputable def uZ(X:Cx)(st:List Stmt)(t:TS):Prop :=
 ∀(pins:List (Addr×Obj)) (s:Shared) (σ:St) (H:Hp) (D:Ends),Inv X pins σ H s->t D σ H->wpAny (model X.prog X.w) X.A (execs st X.env) (SP X pins D) X.xe s
theorem cK{α:Type}{t:Sem α}{Q Q':α->Shared->Prop}{M:Model}{A:Around}{E:Value->Shared->Prop}{s:Shared}(h:wpAny M A t Q E s)(hQ:∀a s,Q a s->Q' a s):wpAny M A t Q' E s:=wpAny_mono h hQ fun _ _ x=>x
section
variable {X:Cx}
noncomputable def iN(i:Nat):TE:=fun σ H Q=>∃v,σ[i]?=some (some v)/\Q v H
noncomputable def tC(v:V):TE:=fun _ H Q=>Q v H
theorem wc{i:Nat}{x:Str}{pos:Pos}(hN:X.N[i]?=some x)(hv:Cu X.env.scope x)(hd:(x == ("__debug__":Str))=false:=by decide)(hcd:(x == ("__classdict__":Str))=false:=by decide):PE X (.Name x pos) (iN i):=by
 intro pins s σ H Q I h
 obtain⟨v,e,h⟩:=h
 obtain⟨m,hn,hl⟩:=I.loc
 obtain⟨u,r,l⟩:=hl i x v hN e hv
 have fin:EP X pins σ Q u s:=⟨v,H,I,r,h⟩
 rcases l with⟨hk,hm⟩|⟨hk,c,hc,hcell⟩
 ·exact wpAny_Name (wpAny_loadName_local I.ok.kind hk hn hm fin) hd
 ·rcases hk with hk|hk
  ·exact wpAny_Name (wpAny_loadName_cell I.ok.kind hk hc hcell fin) hd
  ·exact wpAny_Name (wpAny_loadName_free I.ok.kind hk hc hcell fin hcd) hd
theorem aj{i j pos}:PE X (.Constant (.int i) j pos) (tC (.int i)):=fun _ _ _ H _ I h=>wpAny_Constant_int ⟨.int i,H,I.tok _,⟨_,rfl⟩,h⟩
theorem Bv{b j pos}:PE X (.Constant (.bool b) j pos) (tC (.bl b)):=fun _ _ _ H _ I h=>Constant_bool ⟨.bl b,H,I,rfl,h⟩
theorem az{x j pos}:PE X (.Constant (.str x) j pos) (tC (.str x)):=fun _ _ _ H _ I h=>Calls.Constant_str ⟨.str x,H,I.tok _,⟨_,rfl⟩,h⟩
noncomputable def Gl(X:Cx)(x:Str):Prop:=X.env.kindOf x=some .globalImplicit
theorem pX{E:Value->Shared->Prop}{pins:List (Addr×Obj)}{s:Shared}{σ:St}{H:Hp}{x:Str}{u:Value}{pos:Pos}{Q:Value->Shared->Prop}(I:Inv X pins σ H s)(hg:Gl X x)(hm:X.mg x=some u)(h:Q u s)
  (hd:(x == ("__debug__":Str))=false:=by decide):wpAny (model X.prog X.w) X.A (eval (.Name x pos) X.env) Q E s :=
 Calls.Name_function_global I.ok.kind hg (Calls.loadGlobal_global (by rw[I.ok.glob];exact I.mod.glob.keeps I.bk) hm h) hd
theorem jM{E:Value->Shared->Prop}{pins:List (Addr×Obj)}{s:Shared}{σ:St}{H:Hp}{x:Str}{u:Value}{pos:Pos}{Q:Value->Shared->Prop}(I:Inv X pins σ H s)(hg:Gl X x)(hm:X.mg x=none)(hv:bootBuiltins x=some u)(h:Q u s)
  (hn:x≠"__name__":=by decide) (hd:(x == ("__debug__":Str))=false:=by decide):wpAny (model X.prog X.w) X.A (eval (.Name x pos) X.env) Q E s:=by
 obtain⟨mb,h1,h2⟩:=I.mod.blt
 exact Calls.Name_function_global I.ok.kind hg (Calls.loadGlobal_builtin (by rw[I.ok.glob];exact I.mod.glob.keeps I.bk) hm (by rw[I.ok.blt];exact h1.keeps I.bk) ((h2 x hn).trans hv) h) hd
theorem pY{x:Str}{v:V}{u:Value}{pos:Pos}(hg:Gl X x)(hm:X.mg x=some u)(r:RelV v u)(hd:(x == ("__debug__":Str))=false:=by decide):PE X (.Name x pos) (tC v) :=
 fun _ _ _ H _ I h=>pX I hg hm ⟨v,H,I,r,h⟩ hd
theorem cY{x:Str}{v:V}{u:Value}{pos:Pos}(hg:Gl X x)(hm:X.mg x=none)(hv:bootBuiltins x=some u)(r:RelV v u)(hn:x≠"__name__":=by decide)(hd:(x == ("__debug__":Str))=false:=by decide):PE X (.Name x pos) (tC v) :=
 fun _ _ _ H _ I h=>jM I hg hm hv ⟨v,H,I,r,h⟩ hn hd
variable {a b:Expr}{ta tb:TE}{pos:Pos}
noncomputable def tB(t:TE):TT:=fun σ H Q=>t σ H fun x H1=>∃c,x=.bl c/\Q c H1
theorem dQ{e:Expr}{t:TE}(h:PE X e t)(he:∀whole,isTrue e X.env whole=(do let v ←whole;standAt e.pos;holding [v] (truthy v)):=by intro _;rfl):PT X e (tB t):=by
 intro pins s σ H Q I hw
 refine isTrue_plain (cK (h pins s σ H _ I hw) fun v s1 ⟨x,H1,I1,r1,q1⟩=>?_) (he _)
 obtain⟨d,rfl,q⟩:=q1
 cases r1
 exact wpAny_truthy_bool ⟨H1,I1,q⟩
variable {tA tB':TT}{rest:List Expr}
noncomputable def wd(t u:TT):TT:=fun σ H Q=>t σ H fun c H1=>if c=true then u σ H1 Q else Q false H1
noncomputable def Dt(t u:TT):TT:=fun σ H Q=>t σ H fun c H1=>if c=true then Q true H1 else u σ H1 Q
noncomputable def CO(t:TT):TT:=fun σ H Q=>t σ H fun c H1=>Q (!c) H1
theorem cE(ha:PT X a tA):PW X (.BoolOp .And [a] pos) tA:=by
 intro wh pins s σ H Q I h
 refine isTrue_and (cK (ha pins s σ H Q I h) fun c s1 e=>?_)
 cases c with
 |true=>exact isTrue_and_nil e
 |false=>exact e
theorem pZ(ha:PT X a tA):PW X (.BoolOp .Or [a] pos) tA:=by
 intro wh pins s σ H Q I h
 refine isTrue_or (cK (ha pins s σ H Q I h) fun c s1 e=>?_)
 cases c with
 |false=>exact isTrue_or_nil e
 |true=>exact e
theorem bW(ha:PT X a tA)(hb:PW X (.BoolOp .And (b::rest) pos) tB'):PW X (.BoolOp .And (a::b::rest) pos) (wd tA tB'):=by
 intro wh pins s σ H Q I h
 refine isTrue_and (cK (ha pins s σ H _ I h) fun c s1 ⟨H1,I1,q1⟩=>?_)
 cases c with
 |true=>exact hb wh pins s1 σ H1 Q I1 q1
 |false=>exact⟨H1,I1,q1⟩
theorem qR(ha:PT X a tA)(hb:PW X (.BoolOp .Or (b::rest) pos) tB'):PW X (.BoolOp .Or (a::b::rest) pos) (Dt tA tB'):=by
 intro wh pins s σ H Q I h
 refine isTrue_or (cK (ha pins s σ H _ I h) fun c s1 ⟨H1,I1,q1⟩=>?_)
 cases c with
 |true=>exact⟨H1,I1,q1⟩
 |false=>exact hb wh pins s1 σ H1 Q I1 q1
theorem Ao(ha:PT X a tA):PT X (.UnaryOp .Not a pos) (CO tA):=by
 intro pins s σ H Q I h
 exact isTrue_not (ha pins s σ H (fun c H1=>Q (!c) H1) I h)
end
noncomputable def cy(K:PySem.W.Frag)(H:Hp)(a:Addr)(xs:List V):Prop :=
 Rd H a (.lst xs) \/
  ∃(o:Obj) (its:Array Value) (n:Nat),K.lookup a=some o/\o.cls=.type "list"/\o.dict=none/\o.data=.seq its n/\its.size<=sizeLine/\Vals xs its.toList
noncomputable def bx(K:PySem.W.Frag)(H:Hp)(a:Addr)(xs:List V):Prop :=
 Rd H a (.tup xs) \/
  ∃(o:Obj) (its:Array Value) (n:Nat),K.lookup a=some o/\o.cls=.type "tuple"/\o.data=.seq its n/\its.size<=sizeLine/\Vals xs its.toList/\o.dict=none
noncomputable def CP:Value->Option V
 |.none=>some .gp
 |.bool b=>some (.bl b)
 |.int i _=>some (.int i)
 |.str x _=>some (.str x)
 |.bytes b _=>some (.byt b)
 |.float b _=>some (.flt b)
 |.ref a=>some (.ref a)
 |.type n=>some (.ty n)
 |_=>none
theorem RelV.abs{x:V}{u:Value}(r:RelV x u):CP u=some x:=by
 cases x with
 |gp=>cases r;rfl
 |bl _=>cases r;rfl
 |int _=>obtain⟨t,rfl⟩:=r;rfl
 |str _=>obtain⟨t,rfl⟩:=r;rfl
 |byt _=>obtain⟨t,rfl⟩:=r;rfl
 |flt _=>obtain⟨t,rfl⟩:=r;rfl
 |ref _=>cases r;rfl
 |ty _=>cases r;rfl
theorem RelV.inj{x y:V}{u:Value}(r:RelV x u)(q:RelV y u):x=y:=Option.some.inj (r.abs.symm.trans q.abs)
theorem Vals.inj:∀{xs ys:List V}{us:List Value},Vals xs us->Vals ys us->xs=ys
 |_,_,_,.nil,.nil=>rfl
 |_,_,_,.cons r t,.cons r' t'=>by rw[r.inj r',Vals.inj t t']
section
variable {X:Cx}{pins:List (Addr×Obj)}{σ:St}{H:Hp}{s:Shared}{a:Addr}{xs ys:List V}
theorem cy.of{K:PySem.W.Frag}(h:H a=some (.lst xs)):cy K H a xs:=.inl (.inl h)
theorem bx.of{K:PySem.W.Frag}(h:H a=some (.tup xs)):bx K H a xs:=.inl (.inl h)
theorem Inv.list(I:Inv X pins σ H s)(h:cy X.K H a xs):∃its:List Value,Vals xs its/\PlainL s.heap a its.toArray/\xs.length<=sizeLine:=by
 rcases h with h|⟨o,its,n,hk,hc,hd,hs,hz,r⟩
 ·obtain⟨z,its,n,r,e⟩:=h.ok I.hok
  exact⟨its,r,⟨_,n,e,rfl,rfl,rfl⟩,z⟩
 ·refine⟨its.toList,r,⟨o,n,I.yq a o hk,hc,hd,by simpa using hs⟩,?_⟩
  have e:=r.length
  simp only[Array.length_toList]at e
  omega
theorem Inv.tuple(I:Inv X pins σ H s)(h:bx X.K H a xs):∃its:List Value,Vals xs its/\IsTup s.heap a its.toArray/\xs.length<=sizeLine:=by
 rcases h with h|⟨o,its,n,hk,hc,hs,hz,r,_⟩
 ·obtain⟨z,its,r,p,_⟩:=h.ok I.hok
  exact⟨its,r,p,z⟩
 ·refine⟨its.toList,r,⟨o,I.yq a o hk,hc,n,by simpa using hs⟩,?_⟩
  have e:=r.length
  simp only[Array.length_toList]at e
  omega
theorem Inv.qS(I:Inv X pins σ H s)(h:cy X.K H a xs)(h':cy X.K H a ys):xs=ys:=by
 obtain⟨its,r,⟨o,n,e,_,_,d⟩,_⟩:=I.list h
 obtain⟨its',r',⟨o',n',e',_,_,d'⟩,_⟩:=I.list h'
 rw[e]at e';cases e'
 rw[d]at d'
 injection d' with d1 _
 have:its=its':=by simpa using congrArg Array.toList d1
 subst this
 exact r.inj r'
theorem Inv.kK(I:Inv X pins σ H s)(h:bx X.K H a xs)(h':bx X.K H a ys):xs=ys:=by
 obtain⟨its,r,⟨o,e,_,n,d⟩,_⟩:=I.tuple h
 obtain⟨its',r',⟨o',e',_,n',d'⟩,_⟩:=I.tuple h'
 rw[e]at e';cases e'
 rw[d]at d'
 injection d' with d1 _
 have:its=its':=by simpa using congrArg Array.toList d1
 subst this
 exact r.inj r'
end
noncomputable abbrev Cx.n9(X:Cx)(E:Value->Shared->Prop):Cx:={X with xe:=E}
noncomputable abbrev Cx.Bw(X:Cx):Cx:=X.n9 fun _ _=>False
theorem Cx.Ok.n9{X:Cx}(ok:X.Ok)(E:Value->Shared->Prop):(X.n9 E).Ok :=
 ⟨ok.mod,ok.kind,ok.glob,ok.blt,ok.above,ok.inj,ok.has,ok.cab,ok.hd,ok.frames,ok.stk,ok.exf,ok.bs,ok.bsz,ok.noex,ok.exfs,ok.mJ,ok.frf⟩
theorem Cx.Ok.jd{X:Cx}{E:Value->Shared->Prop}(ok:(X.n9 E).Ok):X.Ok :=
 ⟨ok.mod,ok.kind,ok.glob,ok.blt,ok.above,ok.inj,ok.has,ok.cab,ok.hd,ok.frames,ok.stk,ok.exf,ok.bs,ok.bsz,ok.noex,ok.exfs,ok.mJ,ok.frf⟩
section
variable {X:Cx}{pins:List (Addr×Obj)}{σ:St}{H:Hp}{s:Shared}{E:Value->Shared->Prop}
theorem Inv.n9(I:Inv X pins σ H s)(E:Value->Shared->Prop):Inv (X.n9 E) pins σ H s:=⟨I.ok.n9 E,I.os,I.bare,I.base,I.loc,I.cell,I.free,I.freeC,I.pin,I.hok,I.len⟩
theorem Inv.jd(I:Inv (X.n9 E) pins σ H s):Inv X pins σ H s:=⟨I.ok.jd,I.os,I.bare,I.base,I.loc,I.cell,I.free,I.freeC,I.pin,I.hok,I.len⟩
theorem SP.jd{D:Ends}{f:Flow}{s':Shared}(h:SP (X.n9 E) pins D f s'):SP X pins D f s':=by
 cases f with
 |next=>obtain⟨σ',H',I,q⟩:=h;exact⟨σ',H',I.jd,q⟩
 |brk=>obtain⟨σ',H',I,q⟩:=h;exact⟨σ',H',I.jd,q⟩
 |cont=>obtain⟨σ',H',I,q⟩:=h;exact⟨σ',H',I.jd,q⟩
 |ret u=>obtain⟨v,σ',H',I,r,q⟩:=h;exact⟨v,σ',H',I.jd,r,q⟩
theorem uZ.Bw{st:List Stmt}{t:TS}(h:uZ X.Bw st t):uZ X st t:=fun pins s σ H D I hw =>
 wpAny_mono (h pins s σ H D (I.n9 _) hw) (fun _ _ q=>q.jd) fun _ _ z=>False.elim z
end
section
variable {X:Cx}{st:Stmt}{rest:List Stmt}{t u:TS}{e:Expr}{te:TE}{pos:Pos}
noncomputable def zU:TS:=fun D σ H=>D.nx σ H
noncomputable def aE(t u:TS):TS:=fun D σ H=>t {D with nx:=u D} σ H
theorem fO:uZ X [] zU:=fun _ _ σ H _ I h=>wpAny_execs_nil ⟨σ,H,I,h⟩
theorem br(h1:PS X st t)(h2:uZ X rest u):uZ X (st::rest) (aE t u):=by
 intro pins s σ H D I h
 refine wpAny_execs_cons (cK (h1 pins s σ H {D with nx:=u D} I h) fun f s1 q=>?_)
 cases f with
 |next =>
  obtain⟨σ',H',I',q⟩:=q
  exact h2 pins s1 σ' H' D I' q
 |ret v=>exact q
 |brk=>exact q
 |cont=>exact q
theorem bR(h1:PS X st t):uZ X [st] t:=by
 intro pins s σ H D I h
 refine wpAny_execs_cons (cK (h1 pins s σ H D I h) fun f s1 q=>?_)
 cases f with
 |next=>exact wpAny_execs_nil q
 |ret v=>exact q
 |brk=>exact q
 |cont=>exact q
theorem Inv.quiet{pins:List (Addr×Obj)}{σ:St}{H:Hp}{s:Shared}(I:Inv X pins σ H s):interactive X.env=false:=by simp[interactive,I.ok.kind]
noncomputable def Bx(te:TE):TS:=fun D σ H=>te σ H fun _ H1=>D.nx σ H1
theorem qc(he:PE X e te)(hs:swapsWith e none pos.line X.env=pure false:=by rfl):PS X (.Expr e pos) (Bx te):=by
 intro pins s σ H D I h
 exact wpAny_Expr_any (cK (he pins s σ H _ I h) fun v s1 ⟨x,H1,I1,r1,q1⟩=>⟨σ,H1,I1,q1⟩) I.quiet hs
noncomputable def Aq(te:TE):TS:=fun D σ H=>te σ H D.rt
theorem bQ(he:PE X e te):PS X (.Return (some e) pos) (Aq te):=by
 intro pins s σ H D I h
 exact wpAny_Return_some (cK (he pins s σ H _ I h) fun v s1 ⟨x,H1,I1,r1,q1⟩=>⟨x,σ,H1,I1,r1,q1⟩)
noncomputable def u0(c:TT)(t u:TS):TS:=fun D σ H=>c σ H fun b H1=>if b=true then t D σ H1 else u D σ H1
theorem fj{c:Expr}{a b:List Stmt}{tc:TT}(hc:PT X c tc)(ha:uZ X a t)(hb:uZ X b u):PS X (.If c a b pos) (u0 tc t u):=by
 intro pins s σ H D I h
 refine wpAny_If (cK (hc pins s σ H _ I h) fun d s1 ⟨H1,I1,q1⟩=>?_)
 cases d with
 |true=>exact ha pins s1 σ H1 D I1 q1
 |false=>exact hb pins s1 σ H1 D I1 q1
end
noncomputable abbrev TG:=V->St->Hp->(St->Hp->Prop)->Prop
noncomputable abbrev zV:=List V->St->Hp->(St->Hp->Prop)->Prop
noncomputable def PG(X:Cx)(target:Expr)(t:TG):Prop :=
 ∀(pins:List (Addr×Obj)) (s:Shared) (σ:St) (H:Hp) (v:V) (u:Value) (Q:St->Hp->Prop),Inv X pins σ H s->RelV v u->t v σ H Q ->
  wpAny (model X.prog X.w) X.A (assign target X.env u) (fun _ s'=>∃σ' H',Inv X pins σ' H' s'/\Q σ' H') X.xe s
noncomputable def By(X:Cx)(ts:List Expr)(t:zV):Prop :=
 ∀(pins:List (Addr×Obj)) (s:Shared) (σ:St) (H:Hp) (vs:List V) (us:List Value) (Q:St->Hp->Prop),Inv X pins σ H s->Vals vs us->t vs σ H Q ->
  wpAny (model X.prog X.w) X.A (assignInOrder ((assignEach ts X.env).map (·.2)) us) (fun _ s'=>∃σ' H',Inv X pins σ' H' s'/\Q σ' H') X.xe s
noncomputable abbrev Ar:=V->V->V->Hp->(Hp->Prop)->Prop
noncomputable def BA(X:Cx)(t:Ar):Prop :=
 ∀(pins:List (Addr×Obj)) (s:Shared) (σ:St) (H:Hp) (o i v:V) (ov iv u:Value) (Q:Hp->Prop),Inv X pins σ H s->RelV o ov->RelV i iv->RelV v u->t o i v H Q ->
  wpAny (model X.prog X.w) X.A (setItem ov iv u) (fun _ s'=>∃H',Inv X pins σ H' s'/\Q H') X.xe s
section
variable {X:Cx}{pos:Pos}
noncomputable def dW(i:Nat):TG:=fun v σ H Q=>Q (σ.set i (some v)) H
theorem eZ{i:Nat}{x:Str}(hN:X.N.Nodup)(hi:X.N[i]?=some x)(hx:Loc X.env.scope x)(hf:X.fn x=true\/X.env.scope.names.lookup x=some .local:=by first|exact .inl rfl|exact .inr rfl|assumption):PG X (.Name x pos) (dW i):=by
 intro pins s σ H v u Q I r h
 exact wpAny_assign_Name (jZ I hN hi hx r (fun s' I'=>⟨_,H,I',h⟩) hf)
noncomputable def wg:zV:=fun vs σ H Q=>vs=[]/\Q σ H
noncomputable def jf(t:TG)(u:zV):zV:=fun vs σ H Q=>∃v r,vs=v::r/\t v σ H fun σ' H'=>u r σ' H' Q
theorem bz:By X [] wg:=by
 intro pins s σ H vs us Q I r h
 obtain⟨e,h⟩:=h
 subst e
 cases r
 exact assignInOrder_nil ⟨σ,H,I,h⟩
theorem aR{e:Expr}{es:List Expr}{t:TG}{u:zV}(h1:PG X e t)(h2:By X es u)
  (hs:(assignEach (e::es) X.env).map (·.2)=assign e X.env::(assignEach es X.env).map (·.2):=by rfl):By X (e::es) (jf t u):=by
 intro pins s σ H vs us Q I r h
 obtain⟨v,vr,e1,h⟩:=h
 subst e1
 cases r with
 |cons r rr =>
  rw[hs]
  refine assignInOrder_cons (cK (h1 pins s σ H _ _ _ I r h) fun _ s1 ⟨σ1,H1,I1,q1⟩=>?_)
  exact h2 pins s1 σ1 H1 _ _ Q I1 rr q1
noncomputable def vc(K:PySem.W.Frag)(n:Nat)(t:zV):TG:=fun v σ H Q=>∃a xs,v=.ref a/\bx K H a xs/\xs.length=n/\t xs σ H Q
theorem As{es:List Expr}{k:Nat}{t:zV}{n:Nat}(hc:X.calm=true)(h:By X es t)
  (hn:(assignEach es X.env).length=n:=by rfl) (hst:(assignEach es X.env).findIdx? (·.1)=none:=by rfl):PG X (.Tuple es k pos) (vc X.K n t):=by
 intro pins s σ H v u Q I r hw
 obtain⟨a,xs,e1,hq,hl,hw⟩:=hw
 subst e1
 cases r
 obtain⟨its,rv,ht,hz⟩:=I.tuple hq
 refine assign_Tuple_tuple (I.ok.hd hc) ht (by simp[hn,←hl,rv.length]) hst fun h' hx=>?_
 have I1:Inv X pins σ H {s with heap:=h'}:=I.kept (t':=s.toks) fun b o e=>hx b o (Nat.ne_of_lt (Heap.lt_size e)) e
 exact h pins _ σ H xs _ Q I1 (by simpa using rv) hw
noncomputable def CQ(to ti:TE)(t:Ar):TG:=fun v σ H Q=>to σ H fun o H1=>ti σ H1 fun i H2=>t o i v H2 fun H3=>Q σ H3
theorem sF{o i:Expr}{to ti:TE}{t:Ar}(ho:PE X o to)(hi:PE X i ti)(hs:BA X t)
  (ha:∀v,assign (.Subscript o i pos) X.env v=(do
   let ov ←holding [v] (eval o X.env)
   let iv ←holding [v,ov] (eval i X.env)
   standAt pos
   holding [v,ov,iv] (setItem ov iv v)
   release [v,ov,iv] []):=by intro _;rfl):PG X (.Subscript o i pos) (CQ to ti t):=by
 intro pins s σ H v u Q I r h
 rw[ha]
 refine wpAny_bind (wpAny_holding (cK (ho pins s σ H _ I h) fun ov s1 ⟨x,H1,I1,r1,q1⟩=>?_))
 refine wpAny_bind (wpAny_holding (cK (hi pins s1 σ H1 _ I1 q1) fun iv s2 ⟨y,H2,I2,r2,q2⟩=>?_))
 refine wpAny_bind (wpAny_standAt (wpAny_bind (wpAny_holding (cK (hs pins s2 σ H2 x y v ov iv u _ I2 r1 r2 r q2) fun _ s3 ⟨H3,I3,q3⟩=>?_))))
 exact wpAny_release ⟨σ,H3,I3,q3⟩
noncomputable def qd(te:TE)(g:TG):TS:=fun D σ H=>te σ H fun x H1=>g x σ H1 D.nx
theorem jN{tg e:Expr}{te:TE}{g:TG}(he:PE X e te)(hg:PG X tg g)(hs:swapsWithSole [tg] e pos.line X.env=pure false:=by rfl)(hw:swappedStores [tg] e X.env=pure none:=by rfl)
  (h1:(assignEach [tg] X.env).map (·.2)=[assign tg X.env]:=by rfl):PS X (.Assign [tg] e pos) (qd te g):=by
 intro pins s σ H D I h
 refine wpAny_Assign_stores (cK (he pins s σ H _ I h) fun v s1 ⟨x,H1,I1,r1,q1⟩=>?_) hs hw
 rw[h1]
 exact cK (hg pins s1 σ H1 x v _ I1 r1 q1) fun _ s2 q=>q
theorem fK{i:Nat}{x:Str}{e:Expr}{te:TE}{pos':Pos}(hN:X.N.Nodup)(hi:X.N[i]?=some x)(hx:Loc X.env.scope x)(he:PE X e te)(hs:swapsWith e (some (.Name x pos')) pos.line X.env=pure false:=by rfl)(hf:X.fn x=true\/X.env.scope.names.lookup x=some .local:=by first|exact .inl rfl|exact .inr rfl|assumption) :
  PS X (.Assign [.Name x pos'] e pos) (qd te (dW i)):=by
 intro pins s σ H D I h
 refine wpAny_Assign_Name (cK (he pins s σ H _ I h) fun v s1 ⟨y,H1,I1,r1,q1⟩=>?_) hs
 exact jZ I1 hN hi hx r1 (fun s2 I2=>⟨_,H1,I2,q1⟩) hf
noncomputable def CS(i j:Nat)(ta:TA):TS:=fun D σ H=>ta σ H fun vs H1=>∃v w,vs=[v,w]/\D.nx ((σ.set i (some v)).set j (some w)) H1
theorem Au{i j:Nat}{x y:Str}{a b:Expr}{ta:TA}{px py pt:Pos}{kt k2 pt2}(hc:X.calm=true)(hN:X.N.Nodup)(hi:X.N[i]?=some x)(hj:X.N[j]?=some y)(hij:i≠j)
  (hx:X.env.scope.names.lookup x=some .local) (hy:X.env.scope.names.lookup y=some .local) (ha:PA X [a,b] ta)
  (hw:swappedStores [.Tuple [.Name x px,.Name y py] kt pt] (.Tuple [a,b] k2 pt2) X.env=pure (some [x,y]))
  (hs:swapsWithSole [.Tuple [.Name x px,.Name y py] kt pt] (.Tuple [a,b] k2 pt2) pos.line X.env=pure false:=by rfl) :
  PS X (.Assign [.Tuple [.Name x px,.Name y py] kt pt] (.Tuple [a,b] k2 pt2) pos) (CS i j ta):=by
 intro pins s σ H D I h
 rw[exec_Assign_arm]
 refine wpAny_bind (wpAny_standAt ?_)
 rw[hs]
 refine wpAny_bind (wpAny_pure ?_)
 rw[if_neg (by decide)]
 refine wpAny_bind (Tuple_ (cK (ha _ pins s σ H _ I h) fun us s1 ⟨vs,H1,I1,r1,q1⟩=>?_))
 obtain⟨v,w,e1,q1⟩:=q1
 subst e1
 obtain⟨u1,u2,rfl,rv,rw'⟩:∃u1 u2,us=[u1,u2]/\RelV v u1/\RelV w u2:=by
  cases r1 with
  |cons p q =>
   cases q with
   |cons p' q' =>
    cases q'
    exact⟨_,_,rfl,p,p'⟩
 refine wpAny_newObj_type ?_ (by show 2<=sizeLine;decide)
 have I2:Inv X pins σ H1 {s1 with heap:=s1.heap.push {cls:=.type "tuple",data:=.seq [u1,u2].toArray}}:=I1.kept (t':=s1.toks) fun b o e=>Heap.get?_push_of_some _ e
 rw[hw]
 refine wpAny_bind (wpAny_pure ?_)
 show wpAny (model X.prog X.w) X.A (do rule "assign.swapped-stores";let items ←unpackItems (.ref s1.heap.objs.size) 2 none;assignInOrder [fun v=>bindName X.env y v,fun v=>bindName X.env x v] items.reverse;pure Flow.next) _ _ _
 refine wpAny_bind (wpAny_rule (wpAny_bind (unpackItems_tuple (items:=#[u1,u2]) (I.ok.hd hc) (IsTup.new s1.heap _) fun h' hx'=>?_)))
 have I3:=I2.kept (h':=h') (t':=s1.toks) fun b o e=>hx' b o (Nat.ne_of_lt (Heap.lt_size e)) e
 show wpAny _ _ (assignInOrder [fun v=>bindName X.env y v,fun v=>bindName X.env x v] [u2,u1]>>=fun _=>pure Flow.next) _ _ _
 refine wpAny_bind (assignInOrder_cons (wpAny_bindName (jZ I3 hN hj (.inl hy) rw' (fun s2 I4=>?_) (.inr hy))))
 refine assignInOrder_cons (wpAny_bindName (jZ I4 hN hi (.inl hx) rv (fun s3 I5=>assignInOrder_nil (wpAny_pure ?_)) (.inr hx)))
 rw[List.set_comm _ _ (Ne.symm hij)]at I5
 exact⟨_,H1,I5,q1⟩
end
section
variable {X:Cx}{pos:Pos}
noncomputable def Av(c:TT)(tb:TS):TS:=fun D σ H=>∃W:Nat->St->Hp->Prop,(∃m,W m σ H)/\∀m σ H,W m σ H ->
 c σ H fun b H1=>if b=true then ∃N:St->Hp->Prop,(∀σ' H',N σ' H'->∃m',m' < m/\W m' σ' H')/\tb {D with nx:=N,ct:=N,bk:=D.nx} σ H1 else D.nx σ H1
theorem qT{c:Expr}{body:List Stmt}{tc:TT}{tb:TS}(hp:PassesOwn (model X.prog X.w) X.A X.env X.xe)(hc:PT X c tc)(hb:uZ X body tb):PS X (.While c body [] pos) (Av tc tb):=by
 intro pins s σ H D I h
 obtain⟨W,⟨m0,w0⟩,turn⟩:=h
 refine wpAny_While (codeAny_whileLoop (fun n s'=>∃σ' H',Inv X pins σ' H' s'/\W n σ' H') ?_ m0 ⟨σ,H,I,w0⟩)
 rintro n s1 ⟨σ1,H1,I1,w1⟩
 refine wpAny_passesOwn hp (cK (hc pins s1 σ1 H1 _ I1 (turn n σ1 H1 w1)) fun b s2 ⟨H2,I2,q2⟩=>?_)
 cases b with
 |true =>
  obtain⟨N,hN,q2⟩:=q2
  rw[if_pos rfl]
  refine wpAny_passesOwn hp (cK (hb pins s2 σ1 H2 _ I2 q2) fun f s3 q3=>?_)
  cases f with
  |next =>
   obtain⟨σ3,H3,I3,n3⟩:=q3
   obtain⟨m',hm,w3⟩:=hN σ3 H3 n3
   exact⟨m',hm,σ3,H3,I3,w3⟩
  |cont =>
   obtain⟨σ3,H3,I3,n3⟩:=q3
   obtain⟨m',hm,w3⟩:=hN σ3 H3 n3
   exact⟨m',hm,σ3,H3,I3,w3⟩
  |brk=>exact q3
  |ret v=>exact q3
 |false =>
  rw[if_neg Bool.false_ne_true]
  exact wpAny_execs_nil ⟨σ1,H2,I2,q2⟩
end
structure It where
 go:Nat->Hp->Prop
 yld:Nat->Hp->V->Hp->Prop
 stop:Nat->Hp->Prop
noncomputable def lQ(X:Cx)(pins:List (Addr×Obj))(H:Hp)(b:Addr):Prop :=
 H b=none/\b≠X.env.locals/\b∉X.fs/\(b∈X.ex\/X.s₀.heap.objs.size<=b)/\(∀x c,X.env.cells.lookup x=some c->c≠b)/\∀p∈X.pn++pins,p.1≠b
theorem Inv.yx{X:Cx}{pins:List (Addr×Obj)}{σ:St}{H H':Hp}{s:Shared}{b:Addr}(I:Inv X pins σ H s)(hb:s.heap.objs.size<=b)(hn:H' b=none):lQ X pins H' b:=by
 refine⟨hn,Nat.ne_of_gt (Nat.lt_of_lt_of_le I.lt hb),I.yw hb,.inr (Nat.le_trans I.sz hb),fun x c e z=>?_,fun p hp z=>?_⟩
 ·obtain⟨v,q⟩:=I.cell x c e
  exact absurd (Nat.lt_of_lt_of_le q.lt (by rw[z];exact hb)) (Nat.lt_irrefl _)
 ·exact absurd (Nat.lt_of_lt_of_le (Heap.lt_size (I.pin p hp).1) (by rw[z];exact hb)) (Nat.lt_irrefl _)
structure Turn(P:Program) (w:World) (K:PySem.W.Frag) (tg:Expr) (J:It) (fp:List Addr) (it:Addr) (tn:Nat->Heap->Prop):Prop where
 mem:it∈fp
 obj:∀i h,tn i h->∀b∈fp,∃o,h.get? b=some o/\∀v,o.data≠.cell v
 keep:∀i h h',tn i h->(∀b∈fp,∀o,h.get? b=some o->h'.get? b=some o)->tn i h'
 item:∀(X:Cx),X.prog=P->X.w=w->X.K=K->X.calm=true->∀(i:Nat) (pins:List (Addr×Obj)) (s:Shared) (σ:St) (H:Hp) (E:Value->Shared->Prop),Inv X pins σ H s->(∀b∈fp,lQ X pins H b)->tn i s.heap->J.go i H ->
  wpAny (model P w) X.A (pyNext (.ref it)) (fun r s1=>∃u,r=some u /\
   wpAny (model P w) X.A (letOwnedTupleGo tg (.ref it) u) (fun _ s2=>∃x H',Inv X pins σ H' s2/\RelV x u/\J.yld i H x H'/\tn (i+1) s2.heap/\∀b∈fp,H' b=none) E s1) E s
 done:∀(X:Cx),X.prog=P->X.w=w->X.K=K->X.calm=true->∀(i:Nat) (pins:List (Addr×Obj)) (s:Shared) (σ:St) (H:Hp) (E:Value->Shared->Prop),Inv X pins σ H s->(∀b∈fp,lQ X pins H b)->tn i s.heap->J.stop i H ->
  wpAny (model P w) X.A (pyNext (.ref it)) (fun r s1=>r=none/\Inv X pins σ H s1) E s
 self:∀(A:Around) (i:Nat) (s:Shared) (Q:Value->Shared->Prop) (E:Value->Shared->Prop),tn i s.heap->Q (.ref it) s->wpAny (model P w) A (pyIter (.ref it)) Q E s
noncomputable abbrev TI:=St->Hp->(It->Hp->Prop)->Prop
noncomputable def Dj(X:Cx)(pins:List (Addr×Obj))(σ:St)(tg:Expr)(R:It->Hp->Prop)(itv:Value)(s2:Shared):Prop :=
 ∃(it:Addr) (fp:List Addr) (tn:Nat->Heap->Prop) (J:It) (H':Hp),itv=.ref it/\Inv X pins σ H' s2/\Turn X.prog X.w X.K tg J fp it tn/\tn 0 s2.heap/\(∀b∈fp,lQ X pins H' b)/\R J H'
noncomputable def PI(X:Cx)(tg iter:Expr)(wi:TI):Prop :=
 ∀(pins:List (Addr×Obj)) (s:Shared) (σ:St) (H:Hp) (R:It->Hp->Prop),Inv X pins σ H s->wi σ H R ->
  wpAny (model X.prog X.w) X.A (eval iter X.env) (fun v s1=>wpAny (model X.prog X.w) X.A (pyIter v) (Dj X pins σ tg R) X.xe s1) X.xe s
theorem wj {M : Model} {A : Around} {E : Value → Shared → Prop} {s : Shared} {tg : Expr} {it : Addr} {u : Value} {o : Obj} {n : String} {vs : Array Value} {Q : Unit → Shared → Prop} (ho : s.heap.get? it = some o) (hc : o.cls = .type n) (hd : o.data = .fields vs)
    (hn : ["enumerate", "zip", "dict_itemiterator", "dict_reverseitemiterator", "odict_iterator", "itertools.zip_longest", "itertools.pairwise"].contains n = false) (hQ : Q () s) : wpAny M A (letOwnedTupleGo tg (.ref it) u) Q E s := by
  unfold letOwnedTupleGo
  cases tg <;> first
    | exact wpAny_pure hQ
    | (cases u <;> first
        | exact wpAny_pure hQ
        | (refine wpAny_bind (wpAny_load ho ?_)
           rw [hc, hd]
           show wpAny M A (if (["enumerate", "zip", "dict_itemiterator", "dict_reverseitemiterator", "odict_iterator", "itertools.zip_longest", "itertools.pairwise"].contains n && vs[0]? == some (rawInt _)) = true then _ else _) Q E s
           rw [if_neg (by intro h; rw [hn, Bool.false_and] at h; cases h)]
           exact wpAny_pure hQ))
noncomputable def zW(K:PySem.W.Frag)(a:Addr):It :=
 ⟨fun i H=>∃xs x,cy K H a xs/\xs[i]?=some x,fun i H x H'=>H'=H/\∀xs,cy K H a xs->xs[i]?=some x,fun i H=>∃xs,cy K H a xs/\xs.length<=i⟩
noncomputable def vW(K:PySem.W.Frag)(a:Addr):It :=
 ⟨fun i H=>∃xs x,bx K H a xs/\xs[i]?=some x,fun i H x H'=>H'=H/\∀xs,bx K H a xs->xs[i]?=some x,fun i H=>∃xs,bx K H a xs/\xs.length<=i⟩
noncomputable def Aw(lo:Int)(n:Nat):It:=⟨fun i _=>i<n,fun i H x H'=>H'=H/\x=.int (lo+i),fun i _=>n<=i⟩
theorem vd{P:Program}{w:World}{K:PySem.W.Frag}{tg:Expr}(a it:Addr):Turn P w K tg (zW K a) [it] it (fun i h=>h.IsListIter it a i) where
 mem:=by simp
 obj:=fun i h st b hb=>by
  have e:b=it:=by simpa using hb
  subst e
  obtain⟨o,e,c,d⟩:=st
  exact⟨o,e,fun v z=>by rw[d]at z;cases z⟩
 keep:=fun i h h' st k=>st.at fun o e=>k it (by simp) o e
 item:=by
  intro X hP hw hK hc i pins s σ H E I hf st hg
  subst hP hw hK
  obtain⟨xs,x,hq,hx⟩:=hg
  obtain⟨its,rv,p,hz⟩:=I.list hq
  obtain⟨u,hu,ru⟩:=rv.get hx
  obtain⟨f0,f1,f2,f3,f4,f5⟩:=hf it (by simp)
  refine wpAny_pyNext_list_item st p.isList (x:=u) (by simpa using hu) fun h' st' sb=>?_
  have I1:Inv X pins σ H {s with heap:=h'}:=I.turned (t':=s.toks) (fun b o hb e=>(sb.2 b hb).trans e) f0 f1 f3 f4 f5
  obtain⟨o,e,c,d⟩:=id st'
  exact⟨u,rfl,wj (s:={s with heap:=h'}) e c d (by decide) ⟨x,H,I1,ru,⟨rfl,fun ys hy=>by rw[I.qS hy hq];exact hx⟩,st',fun b hb=>(hf b hb).1⟩⟩
 done:=by
  intro X hP hw hK hc i pins s σ H E I hf st hg
  subst hP hw hK
  obtain⟨xs,hq,hx⟩:=hg
  obtain⟨its,rv,p,hz⟩:=I.list hq
  obtain⟨f0,f1,f2,f3,f4,f5⟩:=hf it (by simp)
  have hl:=rv.length
  exact wpAny_pyNext_list_end (I.ok.hd hc) st p.isList (by simp;omega) fun h' eb=>⟨rfl,I.turned (t':=s.toks) (fun b o hb e=>eb b o hb e) f0 f1 f3 f4 f5⟩
 self:=fun _ _ _ _ _ st h=>wpAny_pyIter_listiter st h
theorem sG{P:Program}{w:World}{K:PySem.W.Frag}{tg:Expr}(a it:Addr):Turn P w K tg (vW K a) [it] it (fun i h=>h.IsTupleIter it a i) where
 mem:=by simp
 obj:=fun i h st b hb=>by
  have e:b=it:=by simpa using hb
  subst e
  obtain⟨o,e,c,d⟩:=st
  exact⟨o,e,fun v z=>by rw[d]at z;cases z⟩
 keep:=fun i h h' st k=>st.at fun o e=>k it (by simp) o e
 item:=by
  intro X hP hw hK hc i pins s σ H E I hf st hg
  subst hP hw hK
  obtain⟨xs,x,hq,hx⟩:=hg
  obtain⟨its,rv,p,hz⟩:=I.tuple hq
  obtain⟨u,hu,ru⟩:=rv.get hx
  obtain⟨f0,f1,f2,f3,f4,f5⟩:=hf it (by simp)
  refine wpAny_pyNext_tuple_item st (show s.heap.IsTuple a its.toArray from p) (x:=u) (by simpa using hu) fun h' st' sb=>?_
  have I1:Inv X pins σ H {s with heap:=h'}:=I.turned (t':=s.toks) (fun b o hb e=>(sb.2 b hb).trans e) f0 f1 f3 f4 f5
  obtain⟨o,e,c,d⟩:=id st'
  exact⟨u,rfl,wj (s:={s with heap:=h'}) e c d (by decide) ⟨x,H,I1,ru,⟨rfl,fun ys hy=>by rw[I.kK hy hq];exact hx⟩,st',fun b hb=>(hf b hb).1⟩⟩
 done:=by
  intro X hP hw hK hc i pins s σ H E I hf st hg
  subst hP hw hK
  obtain⟨xs,hq,hx⟩:=hg
  obtain⟨its,rv,p,hz⟩:=I.tuple hq
  obtain⟨f0,f1,f2,f3,f4,f5⟩:=hf it (by simp)
  have hl:=rv.length
  exact wpAny_pyNext_tuple_end (I.ok.hd hc) st (show s.heap.IsTuple a its.toArray from p) (by simp;omega) fun h' eb=>⟨rfl,I.turned (t':=s.toks) (fun b o hb e=>eb b o hb e) f0 f1 f3 f4 f5⟩
 self:=fun _ _ _ _ _ st h=>wpAny_pyIter_tupleiter st h
theorem sH{P:Program}{w:World}{K:PySem.W.Frag}{tg:Expr}(it:Addr)(lo:Int)(n:Nat):Turn P w K tg (Aw lo n) [it] it (fun i h=>IsRangeIter h it (lo+(i:Nat)*1) ((n:Int) - (i:Nat)) 1) where
 mem:=by simp
 obj:=fun i h st b hb=>by
  have e:b=it:=by simpa using hb
  subst e
  exact⟨_,st,fun v z=>by
   have z':Data.fields _=Data.cell v:=z
   cases z'⟩
 keep:=fun i h h' st k=>k it (by simp) _ st
 item:=by
  intro X hP hw hK hc i pins s σ H E I hf st hg
  subst hP hw hK
  obtain⟨f0,f1,f2,f3,f4,f5⟩:=hf it (by simp)
  have W:=Walks.range (prog:=X.prog) (w:=X.w) (I.ok.hd hc) it lo 1 n
  refine W.item i s _ _ hg st fun v h' tk hv st' kk=>?_
  obtain⟨t,rfl⟩:=hv
  have I1:Inv X pins σ H {s with heap:=h',toks:=tk}:=I.turned (fun b o hb e=>kk b o (by simpa using hb) e) f0 f1 f3 f4 f5
  refine⟨_,rfl,wj (s:={s with heap:=h',toks:=tk}) (n:="range_iterator") st' rfl rfl (by decide) ⟨.int (lo+i),H,I1,⟨t,?_⟩,⟨rfl,rfl⟩,st',fun b hb=>(hf b hb).1⟩⟩
  rw[Int.mul_one]
 done:=by
  intro X hP hw hK hc i pins s σ H E I hf st hg
  subst hP hw hK
  obtain⟨f0,f1,f2,f3,f4,f5⟩:=hf it (by simp)
  exact wpAny_pyNext_range_end (I.ok.hd hc) st (by have:n<=i:=hg;omega) fun h' eb=>⟨rfl,I.turned (t':=s.toks) (fun b o hb e=>eb b o hb e) f0 f1 f3 f4 f5⟩
 self:=fun _ _ _ _ _ st h=>wpAny_pyIter_rangeiter st h
section
variable {X:Cx}{tg:Expr}
noncomputable def BB(K:PySem.W.Frag)(tl:TE):TI:=fun σ H R=>tl σ H fun x H1=>∃a,x=.ref a/\(∃xs,cy K H1 a xs)/\R (zW K a) H1
noncomputable def CT(K:PySem.W.Frag)(tl:TE):TI:=fun σ H R=>tl σ H fun x H1=>∃a,x=.ref a/\(∃xs,bx K H1 a xs)/\R (vW K a) H1
theorem dw{l:Expr}{tl:TE}(hl:PE X l tl):PI X tg l (BB X.K tl):=by
 intro pins s σ H R I h
 refine cK (hl pins s σ H _ I h) fun v s1 ⟨x,H1,I1,r1,q1⟩=>?_
 obtain⟨a,e,⟨xs,hq⟩,q⟩:=q1
 subst e
 cases r1
 obtain⟨its,rv,p,hz⟩:=I1.list hq
 refine wpAny_pyIter_list p.isList ?_
 refine⟨s1.heap.objs.size,[s1.heap.objs.size],_,_,H1,rfl,I1.kept (t':=s1.toks) fun b o e=>Heap.get?_push_of_some _ e,vd a _,⟨_,Heap.get?_push_size _ rfl,rfl,rfl⟩,fun b hb=>?_,q⟩
 have e:b=s1.heap.objs.size:=by simpa using hb
 subst e
 exact I1.yx (Nat.le_refl _) (I1.hok.fresh (Nat.le_refl _))
theorem bX{l:Expr}{tl:TE}(hl:PE X l tl):PI X tg l (CT X.K tl):=by
 intro pins s σ H R I h
 refine cK (hl pins s σ H _ I h) fun v s1 ⟨x,H1,I1,r1,q1⟩=>?_
 obtain⟨a,e,⟨xs,hq⟩,q⟩:=q1
 subst e
 cases r1
 obtain⟨its,rv,p,hz⟩:=I1.tuple hq
 refine wpAny_pyIter_tuple (show s1.heap.IsTuple a its.toArray from p) ?_
 refine⟨s1.heap.objs.size,[s1.heap.objs.size],_,_,H1,rfl,I1.kept (t':=s1.toks) fun b o e=>Heap.get?_push_of_some _ e,sG a _,⟨_,Heap.get?_push_size _ rfl,rfl,rfl⟩,fun b hb=>?_,q⟩
 have e:b=s1.heap.objs.size:=by simpa using hb
 subst e
 exact I1.yx (Nat.le_refl _) (I1.hok.fresh (Nat.le_refl _))
theorem wm{pins:List (Addr×Obj)}{σ:St}{H:Hp}{s:Shared}{R:It->Hp->Prop}{E:Value->Shared->Prop}{lo hi:Int}{t u v:Tok}{tk:Nat}(I:Inv X pins σ H s)(h1:-(2 ^ 62)<=lo)(h2:lo<2 ^ 62)(h3:-(2 ^ 62)<=hi)(h4:hi<2 ^ 62)
  (q:R (Aw lo (hi-lo).toNat) H):wpAny (model X.prog X.w) X.A (pyIter (.ref s.heap.objs.size)) (Dj X pins σ tg R) E {s with heap:=s.heap.push {cls:=.type "range",data:=.fields #[.int lo t,.int hi u,.int 1 v]},toks:=tk}:=by
 refine wpAny_pyIter_range (IsRange.new ..) (small_one h1 h2 h3 h4) ?_
 have I1:Inv X pins σ H {s with heap:=s.heap.push {cls:=.type "range",data:=.fields #[.int lo t,.int hi u,.int 1 v]},toks:=tk}:=I.kept fun b o e=>Heap.get?_push_of_some _ e
 refine⟨(s.heap.push {cls:=.type "range",data:=.fields #[.int lo t,.int hi u,.int 1 v]}).objs.size,[(s.heap.push {cls:=.type "range",data:=.fields #[.int lo t,.int hi u,.int 1 v]}).objs.size],_,_,H,rfl,
  I1.kept (t':=tk) fun b o e=>Heap.get?_push_of_some _ e,sH _ lo (hi-lo).toNat,?_,fun b hb=>?_,q⟩
 ·have e1:lo+((0:Nat):Int)*1=lo:=by simp
  have e2:(((hi-lo).toNat:Nat):Int) - ((0:Nat):Int)=Builtin.Range.rangeSize lo hi 1:=by rw[rangeSize_one];split<;>omega
  show IsRangeIter _ _ (lo+((0:Nat):Int)*1) ((((hi-lo).toNat:Nat):Int) - ((0:Nat):Int)) 1
  rw[e1,e2]
  exact Heap.get?_push_size _ rfl
 ·have e:b=(s.heap.push {cls:=.type "range",data:=.fields #[.int lo t,.int hi u,.int 1 v]}).objs.size:=by simpa using hb
  subst e
  exact I1.yx (Nat.le_refl _) (I1.hok.fresh (Nat.le_refl _))
noncomputable def BC(ta:TA):TI:=fun σ H R=>ta σ H fun vs H1=>∃j:Int,vs=[.int j]/\-(2 ^ 62)<=j/\j<2 ^ 62/\R (Aw 0 j.toNat) H1
theorem ve{a:Expr}{ta:TA}{p pos:Pos}(hg:Gl X "range")(hm:X.mg "range"=none)(ha:PA X [a] ta)(hs:starEach [a] X.env=[(false,eval a X.env)]:=by rfl):PI X tg (.Call (.Name "range" p) [a] [] pos) (BC ta):=by
 intro pins s σ H R I h
 refine Call_ (jM I hg hm boot_range (PyProof.Rows.callWith_type1 (cK (ha pos pins s σ H _ I h) fun us s1 ⟨vs,H1,I1,r1,q1⟩=>?_) hs rfl))
 obtain⟨j,e,q1,q2,q⟩:=q1
 subst e
 cases r1 with
 |cons r rr =>
  cases rr
  obtain⟨t,rfl⟩:=r
  exact call_range_1 (wm I1 (by omega) (by omega) q1 q2 (by simpa using q))
noncomputable def CU(wi:TI)(g:TG)(tb:TS):TS:=fun D σ H=>wi σ H fun J H1=>∃W:Nat->Nat->St->Hp->Prop,(∃m,W 0 m σ H1)/\∀i m σ H,W i m σ H ->
 (J.stop i H/\D.nx σ H)\/(J.go i H/\∃N:St->Hp->Prop,(∀σ' H',N σ' H'->∃m',m' < m/\W (i+1) m' σ' H')/\∀x H',J.yld i H x H'->g x σ H' fun σ2 H2=>tb {D with nx:=N,ct:=N,bk:=D.nx} σ2 H2)
noncomputable def kL(fp:List Addr)(h:Heap):List (Addr×Obj):=fp.filterMap fun b=>(h.get? b).map fun o=>(b,o)
theorem eL{fp:List Addr}{h:Heap}{b:Addr}{o:Obj}(hb:b∈fp)(e:h.get? b=some o):(b,o)∈kL fp h:=List.mem_filterMap.mpr ⟨b,hb,by rw[e];rfl⟩
theorem vf{fp:List Addr}{h:Heap}{p:Addr×Obj}(hp:p∈kL fp h):p.1∈fp/\h.get? p.1=some p.2:=by
 obtain⟨b,hb,e⟩:=List.mem_filterMap.mp hp
 cases q:h.get? b with
 |none=>rw[q]at e;cases e
 |some o =>
  rw[q]at e
  have e':(b,o)=p:=Option.some.inj e
  subst e'
  exact⟨hb,q⟩
theorem Inv.pinned{pins:List (Addr×Obj)}{σ:St}{H:Hp}{s:Shared}{fp:List Addr}(I:Inv X pins σ H s)(hf:∀b∈fp,lQ X pins H b)(ho:∀b∈fp,∃o,s.heap.get? b=some o/\∀v,o.data≠.cell v):Inv X (pins++kL fp s.heap) σ H s :=
 I.eY fun p hp=>(List.mem_append.mp hp).elim (fun z=>I.pin p (List.mem_append_right _ z)) fun z=>by
  obtain⟨hb,e⟩:=vf z
  obtain⟨f0,f1,f2,_⟩:=hf p.1 hb
  obtain⟨o,e',d⟩:=ho p.1 hb
  rw[e]at e';cases e'
  exact⟨e,f0,f1,f2,d⟩
theorem Inv.mL{pins pl:List (Addr×Obj)}{σ:St}{H:Hp}{s:Shared}(I:Inv X (pins++pl) σ H s):Inv X pins σ H s:=I.eY fun p hp=>I.pin p (List.mem_append_right _ (List.mem_append_left _ hp))
theorem Ax{iter:Expr}{body:List Stmt}{wi:TI}{g:TG}{tb:TS}{pos:Pos}(hp:PassesOwn (model X.prog X.w) X.A X.env X.xe)(hc:X.calm=true)(hi:PI X tg iter wi)(hg:PG X tg g)(hb:uZ X body tb)
  (hs:∀x,foldedSetIterable iter X.env x=pure x:=by intro _;rfl):PS X (.For tg iter body [] pos) (CU wi g tb):=by
 intro pins s σ H D I h
 refine wpAny_For (cK (hi pins s σ H _ I h) fun v s1 h1=>cK h1 fun itv s2 h2=>?_) hs
 obtain⟨it,fp,tn,J,H2,e,I2,T,st2,f2,W,⟨m0,w0⟩,turn⟩:=h2
 subst e
 -- what stays true of the iterator's objects through the loop
 have stat:∀{H':Hp},(∀b∈fp,H' b=none)->∀b∈fp,lQ X pins H' b:=fun hn b hb=>⟨hn b hb,(f2 b hb).2⟩
 refine codeAny_forLoop_any (fun n s'=>∃i σ' H',Inv X pins σ' H' s'/\tn i s'.heap/\(∀b∈fp,H' b=none)/\W i n σ' H') ?_ m0 ⟨0,σ,H2,I2,st2,fun b hb=>(f2 b hb).1,w0⟩
 rintro n s3 ⟨i,σ3,H3,I3,st3,fr3,w3⟩
 rcases turn i n σ3 H3 w3 with⟨stop,qn⟩|⟨go,N,hN,step⟩
 ·refine wpAny_passesOwn hp (cK (T.done X rfl rfl rfl hc i pins s3 σ3 H3 X.xe I3 (stat fr3) st3 stop) fun r s4 ⟨hr,I4⟩=>?_)
  subst hr
  exact wpAny_execs_nil ⟨σ3,H3,I4,qn⟩
 ·refine wpAny_passesOwn hp (cK (T.item X rfl rfl rfl hc i pins s3 σ3 H3 X.xe I3 (stat fr3) st3 go) fun r s4 ⟨u,hr,h4⟩=>?_)
  subst hr
  refine wpAny_passesOwn hp (cK h4 fun _ s5 ⟨x,H5,I5,r5,y5,st5,fr5⟩=>?_)
  have I5':=I5.pinned (stat fr5) (T.obj _ _ st5)
  refine wpAny_passesOwn hp (cK (hg _ s5 σ3 H5 x u _ I5' r5 (step x H5 y5)) fun _ s6 ⟨σ6,H6,I6,q6⟩=>?_)
  refine wpAny_passesOwn hp (cK (hb _ s6 σ6 H6 _ I6 q6) fun f s7 q7=>?_)
  have again:∀{σ7:St}{H7:Hp},Inv X (pins++kL fp s5.heap) σ7 H7 s7->N σ7 H7->∃m,m<n/\∃i σ' H',Inv X pins σ' H' s7/\tn i s7.heap/\(∀b∈fp,H' b=none)/\W i m σ' H':=fun{σ7 H7} I7 n7=>by
   obtain⟨m',hm,w7⟩:=hN σ7 H7 n7
   refine⟨m',hm,i+1,σ7,H7,I7.mL,T.keep _ _ _ st5 fun b hb o e=>(I7.pin (b,o) (List.mem_append_right _ (List.mem_append_right _ (eL hb e)))).1,fun b hb=>?_,w7⟩
   obtain⟨o,e,d⟩:=T.obj _ _ st5 b hb
   exact(I7.pin (b,o) (List.mem_append_right _ (List.mem_append_right _ (eL hb e)))).2.1
  cases f with
  |next=>obtain⟨σ7,H7,I7,n7⟩:=q7;exact again I7 n7
  |cont=>obtain⟨σ7,H7,I7,n7⟩:=q7;exact again I7 n7
  |brk=>obtain⟨σ7,H7,I7,q7⟩:=q7;exact⟨σ7,H7,I7.mL,q7⟩
  |ret v=>obtain⟨x7,σ7,H7,I7,r7,q7⟩:=q7;exact⟨x7,σ7,H7,I7.mL,r7,q7⟩
end
theorem qU{K:PySem.W.Frag}{a:Addr}{xs:List V}{g:TG}{tb:TS}{D:Ends}{σ:St}{H:Hp}(Pv:Nat->St->Hp->Prop)(h0:Pv 0 σ H)(hl:∀i σ H,i<=xs.length->Pv i σ H->cy K H a xs)
  (hs:∀i x σ H,xs[i]?=some x->Pv i σ H->g x σ H fun σ2 H2=>tb {D with nx:=Pv (i+1),ct:=Pv (i+1),bk:=D.nx} σ2 H2) (hd:∀σ H,Pv xs.length σ H->D.nx σ H) :
  ∃W:Nat->Nat->St->Hp->Prop,(∃m,W 0 m σ H)/\∀i m σ H,W i m σ H ->
   ((zW K a).stop i H/\D.nx σ H)\/((zW K a).go i H/\∃N:St->Hp->Prop,(∀σ' H',N σ' H'->∃m',m' < m/\W (i+1) m' σ' H')/\∀x H',(zW K a).yld i H x H'->g x σ H' fun σ2 H2=>tb {D with nx:=N,ct:=N,bk:=D.nx} σ2 H2):=by
 refine⟨fun i m σ H=>m=xs.length-i/\i<=xs.length/\Pv i σ H,⟨xs.length,by simp,Nat.zero_le _,h0⟩,?_⟩
 rintro i m σ H ⟨rfl,hi,p⟩
 have q:=hl i σ H hi p
 by_cases hlt:i<xs.length
 ·refine .inr ⟨⟨xs,xs[i],q,by simp[hlt]⟩,Pv (i+1),fun σ' H' p'=>⟨xs.length - (i+1),by omega,rfl,hlt,p'⟩,fun x H' y=>?_⟩
  obtain⟨e,y⟩:=y
  subst e
  exact hs i x σ _ (y xs q) p
 ·have e:i=xs.length:=by omega
  subst e
  exact .inl ⟨⟨xs,q,Nat.le_refl _⟩,hd σ H p⟩
theorem fP{K:PySem.W.Frag}{a:Addr}{xs:List V}{g:TG}{tb:TS}{D:Ends}{σ:St}{H:Hp}(Pv:Nat->St->Hp->Prop)(h0:Pv 0 σ H)(hl:∀i σ H,i<=xs.length->Pv i σ H->bx K H a xs)
  (hs:∀i x σ H,xs[i]?=some x->Pv i σ H->g x σ H fun σ2 H2=>tb {D with nx:=Pv (i+1),ct:=Pv (i+1),bk:=D.nx} σ2 H2) (hd:∀σ H,Pv xs.length σ H->D.nx σ H) :
  ∃W:Nat->Nat->St->Hp->Prop,(∃m,W 0 m σ H)/\∀i m σ H,W i m σ H ->
   ((vW K a).stop i H/\D.nx σ H)\/((vW K a).go i H/\∃N:St->Hp->Prop,(∀σ' H',N σ' H'->∃m',m' < m/\W (i+1) m' σ' H')/\∀x H',(vW K a).yld i H x H'->g x σ H' fun σ2 H2=>tb {D with nx:=N,ct:=N,bk:=D.nx} σ2 H2):=by
 refine⟨fun i m σ H=>m=xs.length-i/\i<=xs.length/\Pv i σ H,⟨xs.length,by simp,Nat.zero_le _,h0⟩,?_⟩
 rintro i m σ H ⟨rfl,hi,p⟩
 have q:=hl i σ H hi p
 by_cases hlt:i<xs.length
 ·refine .inr ⟨⟨xs,xs[i],q,by simp[hlt]⟩,Pv (i+1),fun σ' H' p'=>⟨xs.length - (i+1),by omega,rfl,hlt,p'⟩,fun x H' y=>?_⟩
  obtain⟨e,y⟩:=y
  subst e
  exact hs i x σ _ (y xs q) p
 ·have e:i=xs.length:=by omega
  subst e
  exact .inl ⟨⟨xs,q,Nat.le_refl _⟩,hd σ H p⟩
theorem iz{lo:Int}{n:Nat}{g:TG}{tb:TS}{D:Ends}{σ:St}{H:Hp}(Pv:Nat->St->Hp->Prop)(h0:Pv 0 σ H)
  (hs:∀i σ H,i<n->Pv i σ H->g (.int (lo+i)) σ H fun σ2 H2=>tb {D with nx:=Pv (i+1),ct:=Pv (i+1),bk:=D.nx} σ2 H2) (hd:∀σ H,Pv n σ H->D.nx σ H) :
  ∃W:Nat->Nat->St->Hp->Prop,(∃m,W 0 m σ H)/\∀i m σ H,W i m σ H ->
   ((Aw lo n).stop i H/\D.nx σ H)\/((Aw lo n).go i H/\∃N:St->Hp->Prop,(∀σ' H',N σ' H'->∃m',m' < m/\W (i+1) m' σ' H')/\∀x H',(Aw lo n).yld i H x H'->g x σ H' fun σ2 H2=>tb {D with nx:=N,ct:=N,bk:=D.nx} σ2 H2):=by
 refine⟨fun i m σ H=>m=n-i/\i<=n/\Pv i σ H,⟨n,by simp,Nat.zero_le _,h0⟩,?_⟩
 rintro i m σ H ⟨rfl,hi,p⟩
 by_cases hlt:i<n
 ·refine .inr ⟨hlt,Pv (i+1),fun σ' H' p'=>⟨n - (i+1),by omega,rfl,hlt,p'⟩,fun x H' y=>?_⟩
  obtain⟨e,y⟩:=y
  subst e y
  exact hs i σ _ hlt p
 ·have e:i=n:=by omega
  subst e
  exact .inl ⟨Nat.le_refl _,hd σ H p⟩
noncomputable abbrev R2:=V->V->Hp->VK->Prop
noncomputable def kJ(X:Cx)(f:Value->Value->Sem Value)(r:R2):Prop :=
 ∀(pins:List (Addr×Obj)) (s:Shared) (σ:St) (H:Hp) (x y:V) (v u:Value) (Q:VK),Inv X pins σ H s->RelV x v->RelV y u->r x y H Q ->
  wpAny (model X.prog X.w) X.A (f v u) (EP X pins σ Q) X.xe s
noncomputable def CV(X:Cx)(f:Value->Sem Value)(r:V->Hp->VK->Prop):Prop :=
 ∀(pins:List (Addr×Obj)) (s:Shared) (σ:St) (H:Hp) (x:V) (v:Value) (Q:VK),Inv X pins σ H s->RelV x v->r x H Q ->
  wpAny (model X.prog X.w) X.A (f v) (EP X pins σ Q) X.xe s
noncomputable def fN(X:Cx)(f:Value)(r:List V->Hp->VK->Prop):Prop :=
 ∀(pins:List (Addr×Obj)) (s:Shared) (σ:St) (H:Hp) (xs:List V) (us:List Value) (Q:VK),Inv X pins σ H s->Vals xs us->r xs H Q ->
  wpAny (model X.prog X.w) X.A (call f us) (EP X pins σ Q) X.xe s
noncomputable def CW(X:Cx)(r:V->Hp->(Bool->Hp->Prop)->Prop):Prop :=
 ∀(pins:List (Addr×Obj)) (s:Shared) (σ:St) (H:Hp) (x:V) (v:Value) (Q:Bool->Hp->Prop),Inv X pins σ H s->RelV x v->r x H Q ->
  wpAny (model X.prog X.w) X.A (truthy v) (TP X pins σ Q) X.xe s
noncomputable def vh(r:R2)(ta tb:TE):TE:=fun σ H Q=>ta σ H fun x H1=>tb σ H1 fun y H2=>r x y H2 Q
noncomputable def Du(r:V->Hp->VK->Prop)(ta:TE):TE:=fun σ H Q=>ta σ H fun x H1=>r x H1 Q
noncomputable def rI(C:Int->Int->Prop)(g:Int->Int->V):R2:=fun x y H Q=>∃i j,x=.int i/\y=.int j/\C i j/\Q (g i j) H
noncomputable def zX(g:Int->Int->V):R2:=fun x y H Q=>∃i j,x=.int i/\y=.int j/\Q (g i j) H
noncomputable def rU(g:Int->V):V->Hp->VK->Prop:=fun x H Q=>∃i,x=.int i/\Q (g i) H
section
variable {X:Cx}{a b c:Expr}{ta tb tc:TE}{pos:Pos}
theorem Ay(ha:PE X a ta)(hb:PE X b tb){pins:List (Addr×Obj)}{s:Shared}{σ:St}{H:Hp}{R:V->V->Hp->Prop}(I:Inv X pins σ H s)
  (h:ta σ H fun x H1=>tb σ H1 fun y H2=>R x y H2) {Q:Value->Shared->Prop}{f:Value->Value->Sem Value}
  (hf:∀v u s2 x y H2,Inv X pins σ H2 s2->RelV x v->RelV y u->R x y H2->wpAny (model X.prog X.w) X.A (f v u) Q X.xe s2) :
  wpAny (model X.prog X.w) X.A (eval a X.env) (fun v s₁=>wpAny (model X.prog X.w) X.A (eval b X.env) (fun u s₂=>wpAny (model X.prog X.w) X.A (f v u) Q X.xe s₂) X.xe s₁) X.xe s:=by
 refine cK (ha pins s σ H _ I h) fun v s1 ⟨x,H1,I1,r1,q1⟩=>?_
 refine cK (hb pins s1 σ H1 _ I1 q1) fun u s2 ⟨y,H2,I2,r2,q2⟩=>?_
 exact hf v u s2 x y H2 I2 r1 r2 q2
theorem aJ{op:Operator}{r:R2}(ho:kJ X (binaryOp op) r)(ha:PE X a ta)(hb:PE X b tb):PE X (.BinOp a op b pos) (vh r ta tb):=by
 intro pins s σ H Q I h
 exact wpAny_BinOp (Ay ha hb I h fun v u s2 x y H2 I2 rx ry q=>ho pins s2 σ H2 x y v u Q I2 rx ry q)
theorem lD{op:UnaryOp}{r:V->Hp->VK->Prop}(ho:CV X (unaryOp op) r)(ha:PE X a ta):PE X (.UnaryOp op a pos) (Du r ta):=by
 intro pins s σ H Q I h
 exact UnaryOp_ (cK (ha pins s σ H _ I h) fun v s1 ⟨x,H1,I1,r1,q1⟩=>ho pins s1 σ H1 x v Q I1 r1 q1)
theorem Cv{f:Value->Value->Sem Value}{C:Int->Int->Prop}{g:Int->Int->Int}
  (rule:∀(i j:Int) (t u:Tok) (s:Shared) (Q:Value->Shared->Prop) (E:Value->Shared->Prop),C i j->Q (.int (g i j) s.toks) {s with toks:=s.toks+1}->wpAny (model X.prog X.w) X.A (f (.int i t) (.int j u)) Q E s) :
  kJ X f (rI C fun i j=>.int (g i j)):=by
 intro pins s σ H x y v u Q I rx ry h
 obtain⟨i,j,rfl,rfl,hc,q⟩:=h
 obtain⟨t,rfl⟩:=rx
 obtain⟨t',rfl⟩:=ry
 exact rule i j t t' s _ _ hc ⟨.int (g i j),H,I.tok _,⟨_,rfl⟩,q⟩
theorem BE{f:Value->Value->Sem Value}{g:Int->Int->Int}
  (rule:∀(i j:Int) (t u:Tok) (s:Shared) (Q:Value->Shared->Prop) (E:Value->Shared->Prop),Q (.int (g i j) s.toks) {s with toks:=s.toks+1}->wpAny (model X.prog X.w) X.A (f (.int i t) (.int j u)) Q E s) :
  kJ X f (zX fun i j=>.int (g i j)):=by
 intro pins s σ H x y v u Q I rx ry h
 obtain⟨i,j,rfl,rfl,q⟩:=h
 obtain⟨t,rfl⟩:=rx
 obtain⟨t',rfl⟩:=ry
 exact rule i j t t' s _ _ ⟨.int (g i j),H,I.tok _,⟨_,rfl⟩,q⟩
theorem Az{f:Value->Value->Sem Value}{g:Int->Int->Bool}
  (rule:∀(i j:Int) (t u:Tok) (s:Shared) (Q:Value->Shared->Prop) (E:Value->Shared->Prop),Q (.bool (g i j)) s->wpAny (model X.prog X.w) X.A (f (.int i t) (.int j u)) Q E s) :
  kJ X f (zX fun i j=>.bl (g i j)):=by
 intro pins s σ H x y v u Q I rx ry h
 obtain⟨i,j,rfl,rfl,q⟩:=h
 obtain⟨t,rfl⟩:=rx
 obtain⟨t',rfl⟩:=ry
 exact rule i j t t' s _ _ ⟨.bl (g i j),H,I,rfl,q⟩
noncomputable def BF(i j:Int):Prop:=0<j/\j<1073741824
noncomputable def BG(i j:Int):Prop:=0<=j/\j<=1000000/\i.natAbs<2 ^ 64
noncomputable def yy(i j:Int):Prop:=(-(2 ^ 64)<i/\i<2 ^ 64)\/(-(2 ^ 64)<j/\j<2 ^ 64)
theorem yy.ok{i j:Int}(h:yy i j):IntMulOk i j:=by
 rcases h with⟨h1,h2⟩|⟨h1,h2⟩
 ·exact .of_left (intBits_le_64 h1 h2)
 ·exact .of_right (intBits_le_64 h1 h2)
theorem cJ:kJ X (binaryOp .Add) (zX fun i j=>.int (i+j)):=BE fun _ _ _ _ _ _ _ q=>add_int q
theorem bu:kJ X (binaryOp .Sub) (zX fun i j=>.int (i-j)):=BE fun _ _ _ _ _ _ _ q=>sub_int q
theorem fL:kJ X (binaryOp .Mult) (rI yy fun i j=>.int (i*j)):=Cv fun _ _ _ _ _ _ _ hc q=>mul_int q hc.ok
theorem gM:kJ X (binaryOp .FloorDiv) (rI BF fun i j=>.int (i / j)):=Cv fun i j _ _ _ _ _ hc q=>by
 have h1:(0:Int)<j:=hc.1
 have h2:j<1073741824:=hc.2
 exact floordiv_int (by omega) (by rw[Int.fdiv_eq_ediv_of_nonneg i (by omega)];exact q) (.inl (PyProof.noPylong_small (by omega)))
theorem eu:kJ X (binaryOp .Mod) (rI (fun _ j=>0<j) fun i j=>.int (i % j)):=Cv fun i j _ _ _ _ _ hc q=>by
 have h1:(0:Int)<j:=hc
 exact mod_int' (by omega) (by rw[Int.fmod_eq_emod_of_nonneg i (by omega)];exact q)
theorem AA:kJ X (binaryOp .Pow) (rI BG fun i j=>.int (i ^ j.toNat)):=Cv fun _ _ _ _ _ _ _ hc q=>pow_int_small hc.1 hc.2.1 hc.2.2 q
theorem Dv{f:Value->Sem Value}{g:Int->Int}
  (rule:∀(i:Int) (t:Tok) (s:Shared) (Q:Value->Shared->Prop) (E:Value->Shared->Prop),Q (.int (g i) s.toks) {s with toks:=s.toks+1}->wpAny (model X.prog X.w) X.A (f (.int i t)) Q E s) :
  CV X f (rU fun i=>.int (g i)):=by
 intro pins s σ H x v Q I rx h
 obtain⟨i,rfl,q⟩:=h
 obtain⟨t,rfl⟩:=rx
 exact rule i t s _ _ ⟨.int (g i),H,I.tok _,⟨_,rfl⟩,q⟩
theorem ji:CV X (unaryOp .USub) (rU fun i=>.int (-i)):=Dv fun _ _ _ _ _ q=>neg_int q
end
noncomputable def BH:V->V->Bool
 |.gp,.gp=>true|.gp,.int _=>true|.int _,.gp=>true|.gp,.bl _=>true|.bl _,.gp=>true|.gp,.str _=>true|.str _,.gp=>true
 |.int _,.int _=>true|.bl _,.bl _=>true|.str _,.str _=>true|.byt _,.byt _=>true
 |.int _,.str _=>true|.str _,.int _=>true|.bl _,.str _=>true|.str _,.bl _=>true
 |_,_=>false
noncomputable def Dk:R2:=fun x y H Q=>BH x y=true/\Q (.bl (decide (x=y))) H
noncomputable def Dw:R2:=fun x y H Q=>BH x y=true/\Q (.bl (!decide (x=y))) H
theorem tY{i j:Int}:decide (V.int i=V.int j)=(i == j):=by
 rw[Bool.eq_iff_iff]
 simp
theorem wo{i j:Bool}:decide (V.bl i=V.bl j)=(i == j):=by
 rw[Bool.eq_iff_iff]
 simp
theorem tZ{i j:Str}:decide (V.str i=V.str j)=(i == j):=by
 rw[Bool.eq_iff_iff]
 simp
theorem t9{i j:Array UInt8}:decide (V.byt i=V.byt j)=(i.toList == j.toList):=by
 rw[Bool.eq_iff_iff]
 cases i
 cases j
 simp
section
variable {X:Cx}{a b c:Expr}{ta tb tc:TE}{pos:Pos}
theorem bK{pins:List (Addr×Obj)}{σ:St}{H:Hp}{s:Shared}{Q:VK}{k k':Bool}(I:Inv X pins σ H s)(q:Q (.bl k) H)(e:k=k'):EP X pins σ Q (.bool k') s:=by
 subst e
 exact⟨.bl k,H,I,rfl,q⟩
theorem bJ:kJ X (compareOp .Eq) Dk:=by
 intro pins s σ H x y v u Q I rx ry h
 obtain⟨hs,q⟩:=h
 cases x with
 |gp =>
  cases rx
  cases y with
  |gp=>cases ry;exact PySem.EqNone.eq_none_none (bK I q (by simp))
  |bl j=>cases ry;exact PySem.EqNone.eq_none_bool (bK I q (by simp))
  |int j=>obtain⟨t',rfl⟩:=ry;exact PySem.EqNone.eq_none_int (bK I q (by simp))
  |str j=>obtain⟨t',rfl⟩:=ry;exact PySem.EqNone.eq_none_str (bK I q (by simp))
  |_=>exact absurd (show false=true from hs) Bool.false_ne_true
 |bl i =>
  cases rx
  cases y with
  |gp=>cases ry;exact PySem.EqNone.eq_bool_none (bK I q (by simp))
  |bl j=>cases ry;exact eq_bool (bK I q wo)
  |str j=>obtain⟨t',rfl⟩:=ry;exact PySem.EqMixed.eq_bool_str (bK I q (by simp))
  |_=>exact absurd (show false=true from hs) Bool.false_ne_true
 |int i =>
  obtain⟨t,rfl⟩:=rx
  cases y with
  |gp=>cases ry;exact PySem.EqNone.eq_int_none (bK I q (by simp))
  |int j=>obtain⟨t',rfl⟩:=ry;exact eq_int (bK I q tY)
  |str j=>obtain⟨t',rfl⟩:=ry;exact PySem.EqMixed.eq_int_str (bK I q (by simp))
  |_=>exact absurd (show false=true from hs) Bool.false_ne_true
 |str i =>
  obtain⟨t,rfl⟩:=rx
  cases y with
  |gp=>cases ry;exact PySem.EqNone.eq_str_none (bK I q (by simp))
  |bl j=>cases ry;exact PySem.EqMixed.eq_str_bool (bK I q (by simp))
  |int j=>obtain⟨t',rfl⟩:=ry;exact PySem.EqMixed.eq_str_int (bK I q (by simp))
  |str j=>obtain⟨t',rfl⟩:=ry;exact eq_str (bK I q tZ)
  |_=>exact absurd (show false=true from hs) Bool.false_ne_true
 |byt i =>
  obtain⟨t,rfl⟩:=rx
  cases y with
  |byt j=>obtain⟨t',rfl⟩:=ry;exact PySem.W.eq_bytes (bK I q t9)
  |_=>exact absurd (show false=true from hs) Bool.false_ne_true
 |_=>cases y<;>exact absurd (show false=true from hs) Bool.false_ne_true
theorem BI:kJ X (compareOp .NotEq) Dw:=by
 intro pins s σ H x y v u Q I rx ry h
 obtain⟨hs,q⟩:=h
 cases x with
 |gp =>
  cases rx
  cases y with
  |gp=>cases ry;exact PySem.EqNone.ne_none_none (bK I q (by simp))
  |bl j=>cases ry;exact PySem.EqNone.ne_none_bool (bK I q (by simp))
  |int j=>obtain⟨t',rfl⟩:=ry;exact PySem.EqNone.ne_none_int (bK I q (by simp))
  |str j=>obtain⟨t',rfl⟩:=ry;exact PySem.EqNone.ne_none_str (bK I q (by simp))
  |_=>exact absurd (show false=true from hs) Bool.false_ne_true
 |bl i =>
  cases rx
  cases y with
  |gp=>cases ry;exact PySem.EqNone.ne_bool_none (bK I q (by simp))
  |bl j=>cases ry;exact ne_bool (bK I q (congrArg not wo))
  |str j=>obtain⟨t',rfl⟩:=ry;exact PySem.EqMixed.ne_bool_str (bK I q (by simp))
  |_=>exact absurd (show false=true from hs) Bool.false_ne_true
 |int i =>
  obtain⟨t,rfl⟩:=rx
  cases y with
  |gp=>cases ry;exact PySem.EqNone.ne_int_none (bK I q (by simp))
  |int j=>obtain⟨t',rfl⟩:=ry;exact ne_int (bK I q (congrArg not tY))
  |str j=>obtain⟨t',rfl⟩:=ry;exact PySem.EqMixed.ne_int_str (bK I q (by simp))
  |_=>exact absurd (show false=true from hs) Bool.false_ne_true
 |str i =>
  obtain⟨t,rfl⟩:=rx
  cases y with
  |gp=>cases ry;exact PySem.EqNone.ne_str_none (bK I q (by simp))
  |bl j=>cases ry;exact PySem.EqMixed.ne_str_bool (bK I q (by simp))
  |int j=>obtain⟨t',rfl⟩:=ry;exact PySem.EqMixed.ne_str_int (bK I q (by simp))
  |str j=>obtain⟨t',rfl⟩:=ry;exact ne_str (bK I q (congrArg not tZ))
  |_=>exact absurd (show false=true from hs) Bool.false_ne_true
 |byt i =>
  obtain⟨t,rfl⟩:=rx
  cases y with
  |byt j=>obtain⟨t',rfl⟩:=ry;exact PySem.W.ne_bytes (bK I q (congrArg not t9))
  |_=>exact absurd (show false=true from hs) Bool.false_ne_true
 |_=>cases y<;>exact absurd (show false=true from hs) Bool.false_ne_true
theorem j0:kJ X (compareOp .Lt) (zX fun i j=>.bl (decide (i<j))):=Az fun _ _ _ _ _ _ _ q=>lt_int q
theorem iX:kJ X (compareOp .Gt) (zX fun i j=>.bl (decide (j<i))):=Az fun _ _ _ _ _ _ _ q=>gt_int q
theorem BJ:kJ X (compareOp .GtE) (zX fun i j=>.bl (decide (j<=i))):=Az fun _ _ _ _ _ _ _ q=>ge_int q
theorem bF(b:Expr){op:CmpOp}(h:op≠.In:=by decide)(h2:op≠.NotIn:=by decide):behindInMarks op b=false:=by
 have e1:(op == CmpOp.In)=false:=by cases op<;>first|rfl|exact absurd rfl h
 have e2:(op == CmpOp.NotIn)=false:=by cases op<;>first|rfl|exact absurd rfl h2
 cases b<;>simp[behindInMarks,e1,e2]
theorem qe{op:CmpOp}{r:R2}(ho:kJ X (compareOp op) r)(ha:PE X a ta)(hb:PE X b tb)(hm:behindInMarks op b=false):PE X (.Compare a [op] [b] pos) (vh r ta tb):=by
 intro pins s σ H Q I h
 exact wpAny_Compare1 (Ay ha hb I h fun v u s2 x y H2 I2 rx ry q=>ho pins s2 σ H2 x y v u Q I2 rx ry q) hm
noncomputable def ua(t:TE):TT:=fun σ H Q=>t σ H fun x H'=>∃k,x=.bl k/\Q k H'
theorem aM{op:CmpOp}{r:R2}(ho:kJ X (compareOp op) r)(ha:PE X a ta)(hb:PE X b tb)(hm:behindInMarks op b=false):PT X (.Compare a [op] [b] pos) (ua (vh r ta tb)):=by
 intro pins s σ H Q I h
 refine wpAny_isTrue_Compare1 (cK (ha pins s σ H _ I h) fun v s1 ⟨x,H1,I1,r1,q1⟩=>cK (hb pins s1 σ H1 _ I1 q1) fun u s2 ⟨y,H2,I2,r2,q2⟩ =>
  cK (ho pins s2 σ H2 x y v u _ I2 r1 r2 q2) fun c s3 ⟨z,H3,I3,r3,k,e,q3⟩=>?_) hm
 subst e
 cases r3
 exact wpAny_truthy_bool ⟨H3,I3,q3⟩
noncomputable def AB(K:PySem.W.Frag)(x:V)(H:Hp)(k:Bool):Prop :=
 match x with
 |.gp=>k=false
 |.bl b=>k=b
 |.int i=>k=(i != 0)
 |.str y=>y.length<=sizeLine/\k=((y.length:Int) != 0)
 |.byt y=>y.size<=sizeLine/\k=((y.size:Int) != 0)
 |.ref p=>(∃xs,cy K H p xs/\k=!xs.isEmpty)\/(∃xs,bx K H p xs/\k=!xs.isEmpty)\/∃kvs,H p=some (.dK kvs)/\k=!kvs.isEmpty
 |_=>False
theorem sI{κ:Type}{kvs:List (κ×V)}{vs:List (κ×Value)}(r:KV kvs vs):(!vs.isEmpty)=!kvs.isEmpty:=by
 cases r<;>rfl
theorem mO{xs:List V}{its:List Value}(r:Vals xs its):(!its.toArray.isEmpty)=!xs.isEmpty:=by
 cases r<;>simp
theorem jO:(sizeLine:Nat)<2 ^ 63:=by rw[sizeLine_eq];decide
theorem AD:CW X (fun x H Q=>∃k,AB X.K x H k/\Q k H):=by
 intro pins s σ H x v Q I rx h
 obtain⟨k,e,q⟩:=h
 have hl:=jO
 have hs:sizeLine=16777216:=sizeLine_eq
 cases x with
 |gp =>
  cases rx
  have e':k=false:=e
  subst e'
  exact truthy_none ⟨H,I,q⟩
 |bl b =>
  cases rx
  have e':k=b:=e
  subst e'
  exact wpAny_truthy_bool ⟨H,I,q⟩
 |int i =>
  obtain⟨t,rfl⟩:=rx
  have e':k=(i != 0):=e
  subst e'
  exact PySem.P.truthy_int ⟨H,I,q⟩
 |str y =>
  obtain⟨t,rfl⟩:=rx
  obtain⟨hy,e'⟩:y.length<=sizeLine/\k=((y.length:Int) != 0):=e
  subst e'
  exact PySem.P.truthy_str (by omega) ⟨H,I.tok _,q⟩
 |byt y =>
  obtain⟨t,rfl⟩:=rx
  obtain⟨hy,e'⟩:y.size<=sizeLine/\k=((y.size:Int) != 0):=e
  subst e'
  exact PySem.W.truthy_bytes (by omega) ⟨H,I.tok _,q⟩
 |ref p =>
  cases rx
  have e':(∃xs,cy X.K H p xs/\k=!xs.isEmpty)\/(∃xs,bx X.K H p xs/\k=!xs.isEmpty)\/∃kvs,H p=some (.dK kvs)/\k=!kvs.isEmpty:=e
  rcases e' with⟨xs,hx,e'⟩|⟨xs,hx,e'⟩|⟨kvs,hx,e'⟩
  ·subst e'
   obtain⟨its,r,pl,hz⟩:=I.list hx
   have hlen:=r.length
   exact wpAny_truthy_list pl.isList (by simp only[List.size_toArray];omega) ⟨H,I.tok _,by rw[mO r];exact q⟩
  ·subst e'
   obtain⟨its,r,pl,hz⟩:=I.tuple hx
   have hlen:=r.length
   exact truthy_tuple pl (by simp only[List.size_toArray];omega) ⟨H,I.tok _,by rw[mO r];exact q⟩
  ·subst e'
   obtain⟨hz,hS,vs,r,m⟩:kvs.length<=sizeLine/\(p == sysModules)=false/\∃vs,KV kvs vs/\s.heap.DictOf (cz X.prog X.w) p vs:=I.hok p _ hx
   have hlen:kvs.length=vs.length:=Paired.length r
   exact wpAny_truthy_dict hS m (by omega) ⟨H,I.tok _,by rw[sI r];exact q⟩
 |_=>exact(show False from e).elim
theorem wq(ha:PE X a ta)(he:∀whole,isTrue a X.env whole=(do let v ←whole;standAt a.pos;holding [v] (truthy v))) :
  PT X a (fun σ H Q=>ta σ H fun x H'=>∃k,AB X.K x H' k/\Q k H'):=by
 intro pins s σ H Q I h
 exact isTrue_plain (cK (ha pins s σ H _ I h) fun v s1 ⟨x,H1,I1,r1,q1⟩=>AD pins s1 σ H1 x v Q I1 r1 q1) (he _)
theorem iO:kJ X (binaryOp .Add) (fun x y H Q=>∃i j,x=.str i/\y=.str j/\i.length+j.length<=sizeLine/\Q (.str (i++j)) H):=by
 intro pins s σ H x y v u Q I rx ry h
 obtain⟨i,j,rfl,rfl,hz,q⟩:=h
 obtain⟨t,rfl⟩:=rx
 obtain⟨t',rfl⟩:=ry
 exact add_str (fun t' tk=>⟨.str (i++j),H,I.tok _,⟨_,rfl⟩,q⟩) hz
theorem vals1{x:V}{us:List Value}(r:Vals [x] us):∃u,us=[u]/\RelV x u:=by
 cases r with
 |cons r1 r2=>cases r2;exact⟨_,rfl,r1⟩
theorem vals2{x y:V}{us:List Value}(r:Vals [x,y] us):∃u w',us=[u,w']/\RelV x u/\RelV y w':=by
 cases r with
 |cons r1 r2 =>
  cases r2 with
  |cons r3 r4=>cases r4;exact⟨_,_,rfl,r1,r3⟩
theorem jA(hc:X.calm=true):fN X (.builtin "max") (fun xs H Q=>∃i j,xs=[.int i,.int j]/\Q (.int (if j>i then j else i)) H):=by
 intro pins s σ H xs us Q I r h
 obtain⟨i,j,rfl,q⟩:=h
 obtain⟨u,w',rfl,⟨t,rfl⟩,⟨t',rfl⟩⟩:=vals2 r
 refine max_two_ints (I.ok.hd hc) fun h' tk k=>⟨_,H,I.kept k,?_,q⟩
 by_cases hj:j>i
 ·rw[if_pos hj,if_pos hj];exact⟨_,rfl⟩
 ·rw[if_neg hj,if_neg hj];exact⟨_,rfl⟩
theorem oJ:fN X (.type "int") (fun xs H Q=>(∃i,xs=[.int i]/\Q (.int i) H)\/∃k,xs=[.bl k]/\Q (.int (if k then 1 else 0)) H):=by
 intro pins s σ H xs us Q I r h
 rcases h with⟨i,rfl,q⟩|⟨k,rfl,q⟩
 ·obtain⟨u,rfl,t,rfl⟩:=vals1 r
  exact call_int_int ⟨.int i,H,I,⟨_,rfl⟩,q⟩
 ·obtain⟨u,rfl,r1⟩:=vals1 r
  cases r1
  exact call_int_bool ⟨.int (if k then 1 else 0),H,I.tok _,⟨_,rfl⟩,q⟩
end
section
variable {prog:Program}{w:World}{A:Around}{E:Value->Shared->Prop}{s:Shared}{K:PySem.W.Frag}{x dx C f:Addr}{mA:Str->Option Value}{name:Str}{v:Value}
end
noncomputable def yz(f:Str)(v:V):List (Str×V)->List (Str×V)
 | []=>[(f,v)]
 |(g,x)::r=>if g=f then(g,v)::r else(g,x)::yz f v r
theorem jc.some_of{v:V}{o:Option Value}(r:jc (some v) o):∃u,o=some u/\RelV v u:=by
 cases o with
 |none=>exact(show False from r).elim
 |some u=>exact⟨u,rfl,r⟩
section
variable {P:Program}{w:World}{H H':Hp}{h h':Heap}{a C dx:Addr}{fs fs':List (Str×V)}
end
section
variable {X:Cx}{pins:List (Addr×Obj)}{σ:St}{H:Hp}{s:Shared}{a C dx:Addr}{fs:List (Str×V)}{f:Str}{v:V}{A:Around}{E:Value->Shared->Prop}
end
section
variable {X:Cx}{o e value:Expr}{f:Str}{pos pos' tpos:Pos}{ta tv:TE}
end
section
variable {X:Cx}{pins:List (Addr×Obj)}{σ:St}{H:Hp}{s:Shared}{A:Around}{E:Value->Shared->Prop}{Q:Value->Shared->Prop}{c:Value}{b:Bool}
end
structure iq(k:Nat) (A:Around):Prop where
 hd:A.handled=none
 dp:A.depth+3*k+5<recursionLimit
 un:A.units+16*k+200<cLine
 gd:A.guards=some []
theorem iq.mono{j k:Nat}{A:Around}(r:iq k A)(h:j<=k):iq j A:=⟨r.hd,by have:=r.dp;omega,by have:=r.un;omega,r.gd⟩
theorem iq.deeper{k:Nat}{A:Around}(r:iq (k+1) A)(env:Env):iq k (A.deeper env) :=
 ⟨r.hd,by have:=r.dp;show A.depth+1+3*k+5<_;omega,by have:=r.un;show A.units+3+16*k+200<_;omega,r.gd⟩
theorem iq.depth{k:Nat}{A:Around}(r:iq k A):A.depth<recursionLimit:=by have:=r.dp;omega
theorem iq.units{k:Nat}{A:Around}(r:iq k A):A.units+64<cLine:=by have:=r.un;omega
noncomputable def mQ:TA:=fun _ H Q=>Q [] H
noncomputable def iA(ta:TE)(tr:TA):TA:=fun σ H Q=>ta σ H fun x H1=>tr σ H1 fun xs H2=>Q (x::xs) H2
section
variable {X:Cx}{e:Expr}{es:List Expr}{te:TE}{t:TA}{pos:Pos}
theorem ao:PA X [] mQ:=fun _ _ _ _ H Q I h=>Calls.spliced_nil ⟨[],H,I,.nil,h⟩
theorem aA(ha:PE X e te)(hr:PA X es t)(hs:starEach (e::es) X.env=(false,eval e X.env)::starEach es X.env:=by rfl):PA X (e::es) (iA te t):=by
 intro pos pins s σ H Q I h
 rw[hs]
 show wpAny _ _ (spliced ((false,eval e X.env)::backTo pos (starEach es X.env))) _ _ s
 refine Calls.spliced_cons (cK (ha pins s σ H _ I h) fun u s1 ⟨x,H1,I1,r1,q1⟩=>?_)
 exact cK (hr pos pins s1 σ H1 _ I1 q1) fun us s2 ⟨xs,H2,I2,r2,q2⟩=>⟨x::xs,H2,I2,.cons r1 r2,q2⟩
noncomputable def qV(t:TA):TE:=fun σ H Q=>t σ H fun xs H1=>xs.length<=sizeLine/\∀p,H1 p=none->Q (.ref p) (upd H1 p (.tup xs))
noncomputable def AE(t:TA):TE:=fun σ H Q=>t σ H fun xs H1=>xs.length<=sizeLine/\∀p,H1 p=none->Q (.ref p) (upd H1 p (.lst xs))
theorem cQ{x1}(h:PA X es t):PE X (.Tuple es x1 pos) (qV t):=by
 intro pins s σ H Q I hq
 refine wpAny_Tuple_spliced (cK (h pos pins s σ H _ I hq) fun us s1 ⟨xs,H1,I1,r,z,q⟩=>⟨by rw[←r.length];exact z,?_⟩)
 have hf:H1 s1.heap.objs.size=none:=I1.hok.fresh (Nat.le_refl _)
 refine⟨.ref s1.heap.objs.size,upd H1 s1.heap.objs.size (.tup xs),I1.laid (t':=s1.toks) (fun b u e=>Heap.get?_push_of_some _ e) (Nat.le_refl _) ?_,rfl,q _ hf⟩
 exact⟨z,us,r,⟨_,Heap.get?_push_size _ rfl,rfl,_,rfl⟩,_,Heap.get?_push_size _ rfl,rfl⟩
theorem bf(h:PA X es t):PE X (.List es pos) (AE t):=by
 intro pins s σ H Q I hq
 refine wpAny_List_spliced (cK (h pos pins s σ H _ I hq) fun us s1 ⟨xs,H1,I1,r,z,q⟩=>⟨by rw[←r.length];exact z,?_⟩)
 have hf:H1 s1.heap.objs.size=none:=I1.hok.fresh (Nat.le_refl _)
 refine⟨.ref s1.heap.objs.size,upd H1 s1.heap.objs.size (.lst xs),I1.laid (t':=s1.toks) (fun b u e=>Heap.get?_push_of_some _ e) (Nat.le_refl _) ?_,rfl,q _ hf⟩
 exact⟨z,us,0,r,Heap.get?_push_size _ rfl⟩
end
noncomputable abbrev Sp:=List V->Hp->VK->XK->Prop
noncomputable abbrev vX:=List Env->Hp->Shared->XK->Value->Shared->Prop
structure yC(P:Program) (w:World) (K:PySem.W.Frag) (mg:Str->Option Value) (base:Heap) (A:Around) (outer:List Env) (s:Shared) (H:Hp):Prop where
 frames:A.frames=some outer
 mod:Mod K mg base
 bs:∀b o,base.get? b=some o->s.heap.get? b=some o/\H b=none
 bsz:base.objs.size<=s.heap.objs.size
 mJ:s.heap.FunFrames base outer
 frf:∀b∈frs outer,H b=none
 hok:jY P w H s.heap
 bare:AllBare s.gens
noncomputable def CE(outer:List Env)(P:Program)(w:World)(H:Hp)(s:Shared)(Q:VK)(u:Value)(s':Shared):Prop :=
 ∃v H',s'.os=s.os/\AllBare s'.gens/\Un (frs outer) [] H H' s.heap s'.heap/\jY P w H' s'.heap/\RelV v u/\Q v H'
noncomputable def CR(CX:vX)(outer:List Env)(P:Program)(w:World)(H:Hp)(s:Shared)(Q:VK)(E:XK)(r:Result)(s':Shared):Prop :=
 match r with
 |.ok (.ret u)=>CE outer P w H s Q u s'
 |.ok _=>False
 |.error e=>CX outer H s E e s'
structure bT(P:Program) (w:World) (K:PySem.W.Frag) (mg:Str->Option Value) (base:Heap) (CX:vX) (k:Nat) (f:Addr) (fd:FuncData) (ps:List Str) (sp:Sp):Prop where
 len:∀vs H Q E,sp vs H Q E->vs.length=ps.length
 run:∀(A:Around) (outer:List Env) (s:Shared) (H:Hp) (args:Args) (us:List Value) (vs:List V) (Q:VK) (E:XK),iq k A->yC P w K mg base A outer s H->BindsTo s fd args (ps.zip us)->Vals vs us->sp vs H Q E ->
  codeAny (model P w) A (.call (.ref f) args) (CR CX outer P w H s Q E) s
section
variable {X:Cx}{pins:List (Addr×Obj)}{σ:St}{H:Hp}{s s':Shared}
theorem Inv.CY(I:Inv X pins σ H s):yC X.prog X.w X.K X.mg X.base X.A X.stack s H :=
 ⟨I.ok.frames,I.ok.mod,I.bs,Nat.le_trans I.ok.bsz I.sz,I.stack,I.tX,I.hok,I.bare⟩
theorem Inv.after{Q:VK}{u:Value}(I:Inv X pins σ H s)(h:CE X.stack X.prog X.w H s Q u s'):EP X pins σ Q u s':=by
 obtain⟨v,H',os,bare,un,hok,r,q⟩:=h
 obtain⟨hh,g,d,t,os'⟩:=s'
 obtain rfl:os'=s.os:=os
 exact⟨v,H',I.call (h':=hh) (g':=g) (d':=d) (t':=t) (ch:=[]) un hok bare (fun b z=>absurd z (by simp)),r,q⟩
end
noncomputable def wu(sp:Sp)(dvs:List V)(E:XK)(t:TA):TE:=fun σ H Q=>t σ H fun vs H1=>sp (vs++dvs) H1 Q E
noncomputable def Binds(K:PySem.W.Frag)(fd:FuncData)(ps:List Str)(ds:List Value):Prop :=
 ∀(s:Shared) (us:List Value),K.In s.heap->(us++ds).length=ps.length->BindsTo s fd ⟨us,[]⟩ (ps.zip (us++ds))
theorem Binds.all{K:PySem.W.Frag}{fd:FuncData}{ps:List Str}(h:∀us:List Value,us.length=ps.length->bindArgs fd ⟨us,[]⟩=pure (ps.zip us)):Binds K fd ps []:=fun s us _ hl=>by
 rw[List.append_nil]at hl⊢
 exact .of_eq (h us hl)
noncomputable def Passes(CX:vX)(X:Cx)(E:XK):Prop:=∀(pins:List (Addr×Obj)) (σ:St) (H:Hp) (s:Shared) (e:Value) (s':Shared),Inv X pins σ H s->CX X.stack H s E e s'->X.xe e s'
section
variable {X:Cx}{CX:vX}{k:Nat}{f C:Addr}{fd:FuncData}{ps:List Str}{sp:Sp}{dvs:List V}{ds:List Value}{E:XK}{x m:Str}{p pos apos:Pos}{e o:Expr}{es:List Expr}{ta:TE}{t:TA}
theorem wC{pins:List (Addr×Obj)}{σ:St}{H:Hp}{s:Shared}{Q:VK}{us:List Value}{vs:List V}(F:bT X.prog X.w X.K X.mg X.base CX k f fd ps sp)(hr:iq k X.A)(hb:Binds X.K fd ps ds)(hd:Vals dvs ds)(hx:Passes CX X E)
  (I:Inv X pins σ H s) (r:Vals vs us) (h:sp (vs++dvs) H Q E):wpAny (model X.prog X.w) X.A (call (.ref f) us) (EP X pins σ Q) X.xe s:=by
 have r2:Vals (vs++dvs) (us++ds):=r.append hd
 have hl:(us++ds).length=ps.length:=by rw[←r2.length];exact F.len _ _ _ _ h
 refine wpAny_call (codeAny_mono (F.run X.A X.stack s H ⟨us,[]⟩ (us++ds) (vs++dvs) Q E hr I.CY (hb s us I.yq hl) r2 h) fun r s' hq=>?_)
 cases r with
 |error e=>exact hx pins σ H s e s' I hq
 |ok fl =>
  cases fl with
  |ret u=>exact I.after hq
  |next=>exact False.elim hq
  |brk=>exact False.elim hq
  |cont=>exact False.elim hq
theorem gQ(F:bT X.prog X.w X.K X.mg X.base CX k f fd ps sp)(hr:iq k X.A)(hg:Gl X x)(hm:X.mg x=some (.ref f))(hk:PySem.W.keepIn X.K (.ref f)=true)(hb:Binds X.K fd ps ds)(hd:Vals dvs ds)(hx:Passes CX X E)
  (ha:PA X (e::es) t) (hdb:(x == ("__debug__":Str))=false:=by decide) (he:starEach (e::es) X.env=(false,eval e X.env)::starEach es X.env:=by rfl) (hpl:(backTo pos (starEach es X.env)).any (·.1)=false:=by rfl) :
  PE X (.Call (.Name x p) (e::es) [] pos) (wu sp dvs E t):=by
 intro pins s σ H Q I h
 refine wpAny_Call_Name_kw (pX I hg hm ?_ hdb)
 refine PySem.W.callWith_K (h₀:=X.base) I.ok.mod.kin hk (cK (ha pos pins s σ H _ I h) fun us s1 ⟨vs,H1,I1,r,q⟩=>⟨I1.yq,?_⟩) he hpl
 exact wC F hr hb hd hx I1 r q
theorem mR(F:bT X.prog X.w X.K X.mg X.base CX k f fd ps sp)(hr:iq k X.A)(hg:Gl X x)(hm:X.mg x=some (.ref f))(hk:PySem.W.keepIn X.K (.ref f)=true)(hb:Binds X.K fd ps ds)(hd:Vals dvs ds)(hx:Passes CX X E)
  (hdb:(x == ("__debug__":Str))=false:=by decide):PE X (.Call (.Name x p) [] [] pos) (wu sp dvs E mQ):=by
 intro pins s σ H Q I h
 refine wpAny_Call_Name_kw (pX I hg hm ?_ hdb)
 exact PySem.W.callWith_K0 I.yq hk (wC (us:=[]) F hr hb hd hx I .nil h)
end
section
variable {X:Cx}{CX:vX}{k:Nat}{f C:Addr}{fd:FuncData}{ps ks:List Str}{sp:Sp}{E:XK}{x m:Str}{p pos apos kpos:Pos}{e o:Expr}{es:List Expr}{kws:List Keyword}{te ta:TE}{t tk:TA}{nm:Option Str}
variable {g:List Value->List Value->List Value}{gV:List V->List V->List V}
end
structure aN(N P:List Str) (sc:Scope):Prop where
 kind:sc.kind=.function
 co:sc.isCoroutine=false
 gen:sc.isGenerator=false
 nd:N.Nodup
 pre:N.take P.length=P
 par:∀x∈P,sc.names.lookup x=some .local\/sc.names.lookup x=some .cell
 nofree:∀y∈sc.names,y.2≠.free
theorem oM{kindOf:Str->Option NameKind}{x:Str}:∀{binds:List (Str×Value)}{m:Str->Option Value},(∀v,(x,v)∉binds)->bindL kindOf binds m x=m x
 | [],_,_=>rfl
 |(n,v)::r,m,h=>by
  unfold bindL
  rw[oM fun w hw=>h w (List.mem_cons_of_mem _ hw)]
  split
  ·have:x≠n:=by rintro rfl;exact h v List.mem_cons_self
   simp[this]
  ·rfl
theorem oO{kindOf:Str->Option NameKind}{x:Str}:∀{binds:List (Str×Value)}{m:Str->Option Value},(∀v,(x,v)∉binds)->bindC kindOf binds m x=m x
 | [],_,_=>rfl
 |(n,v)::r,m,h=>by
  unfold bindC
  rw[oO fun w hw=>h w (List.mem_cons_of_mem _ hw)]
  split
  ·rfl
  ·have:x≠n:=by rintro rfl;exact h v List.mem_cons_self
   simp[this]
theorem oQ{kindOf:Str->Option NameKind}{x:Str}{v:Value}:∀{P:List Str}{vs:List Value}{i:Nat}{m:Str->Option Value},P.Nodup->P[i]?=some x->vs[i]?=some v->kindOf x=some .local ->
  bindL kindOf (P.zip vs) m x=some v
 | [],_,_,_,_,h,_,_=>by simp at h
 |_::_,[],_,_,_,_,h,_=>by simp at h
 |p::P,w::vs,0,m,nd,h1,h2,hk=>by
  simp at h1 h2;subst h1;subst h2
  show bindL kindOf ((p,w)::P.zip vs) m p=_
  unfold bindL
  rw[oM fun v hv=>(List.nodup_cons.mp nd).1 (List.of_mem_zip hv).1,if_pos hk]
  simp
 |p::P,w::vs,i+1,m,nd,h1,h2,hk=>by
  show bindL kindOf ((p,w)::P.zip vs) m x=_
  unfold bindL
  exact oQ (i:=i) (List.nodup_cons.mp nd).2 (by simpa using h1) (by simpa using h2) hk
theorem oS{kindOf:Str->Option NameKind}{x:Str}{v:Value}:∀{P:List Str}{vs:List Value}{i:Nat}{m:Str->Option Value},P.Nodup->P[i]?=some x->vs[i]?=some v->kindOf x≠some .local ->
  bindC kindOf (P.zip vs) m x=some v
 | [],_,_,_,_,h,_,_=>by simp at h
 |_::_,[],_,_,_,_,h,_=>by simp at h
 |p::P,w::vs,0,m,nd,h1,h2,hk=>by
  simp at h1 h2;subst h1;subst h2
  show bindC kindOf ((p,w)::P.zip vs) m p=_
  unfold bindC
  rw[oO fun v hv=>(List.nodup_cons.mp nd).1 (List.of_mem_zip hv).1,if_neg hk]
  simp
 |p::P,w::vs,i+1,m,nd,h1,h2,hk=>by
  show bindC kindOf ((p,w)::P.zip vs) m x=_
  unfold bindC
  exact oS (i:=i) (List.nodup_cons.mp nd).2 (by simpa using h1) (by simpa using h2) hk
noncomputable def start(N:List Str)(vs:List V):St:=vs.map some++List.replicate (N.length-vs.length) none
noncomputable def sJ(CX:vX)(P:Program)(w:World)(K:PySem.W.Frag)(mg:Str->Option Value)(base:Heap)(N:List Str)(qual:Str)(scope:Scope)(f:Addr)(cd:Value)(A:Around)(outer:List Env)(s:Shared)(H:Hp)(E:XK):Cx where
 prog:=P
 w:=w
 K:=K
 mg:=mg
 base:=base
 A:=A.deeper (envOfC qual scope s.heap.objs.size f cd)
 N:=N
 s₀:=s
 H₀:=H
 env:=envOfC qual scope s.heap.objs.size f cd
 outer:=outer
 stack:=envOfC qual scope s.heap.objs.size f cd::outer
 ex:=[]
 calm:=true
 fn:=fun _=>true
 pn:=[]
 xe:=fun e s'=>wpAny (model P w) (A.deeper (envOfC qual scope s.heap.objs.size f cd)) (leaving (envOfC qual scope s.heap.objs.size f cd) e) (fun _ s''=>CX outer H s E e s'') (fun e' s''=>CX outer H s E e' s'') s'
theorem qW{sc:Scope}{n:Nat}{x:Str}(h:sc.names.lookup x=some .cell):∃c,(cellsFrom n sc.names []).lookup x=some c:=by
 have q:=PySem.W.cellsFrom_some sc.names n [] (.inl h)
 exact Option.isSome_iff_exists.mp q
theorem vj{CX:vX}{P:Program}{w:World}{K:PySem.W.Frag}{mg:Str->Option Value}{base:Heap}{N ps:List Str}{qual:Str}{scope:Scope}{f:Addr}{cd:Value}{A:Around}{outer:List Env}{s s1:Shared}{H:Hp}{E:XK}{us:List Value}{vs:List V}
  (S:aN N ps scope) (hd:A.handled=none) (e0:yC P w K mg base A outer s H) (hl:vs.length=ps.length) (r:Vals vs us)
  (x:InCallC s s.heap.objs.size (bindL (envOfC qual scope s.heap.objs.size f cd).kindOf (ps.zip us) fun _=>none) (cellsFrom (s.heap.objs.size+1) scope.names []) (bindC (envOfC qual scope s.heap.objs.size f cd).kindOf (ps.zip us) fun _=>none) s1) :
  Inv (sJ CX P w K mg base N qual scope f cd A outer s H E) [] (start N vs) H s1:=by
 have hpl:ps.length<=N.length:=by have:=congrArg List.length S.pre;rw[List.length_take]at this;omega
 obtain⟨h1,tk,rfl,hk⟩:=x.done
 have noA:∀b:Addr,b∉(sJ CX P w K mg base N qual scope f cd A outer s H E).ex:=fun b z=>absurd (show b∈([]:List Addr)from z) (by simp)
 refine⟨⟨e0.mod,S.kind,rfl,rfl,Nat.le_refl _,fun y z c h1 h2=>?_,fun y hy=>?_,fun y c _ h=>?_,fun _=>hd,Around.frames_deeper e0.frames,.inr ⟨rfl,rfl⟩,fun b z=>absurd z (noA b),e0.bs,e0.bsz,fun b _ _=>noA b,fun b z=>absurd z (noA b),e0.mJ,e0.frf⟩,
  rfl,e0.bare,Un.kept hk,⟨_,x.toInCall.ns,fun i y v h1 h2 h3=>?_⟩,fun y c h=>⟨_,x.cell y c h⟩,e0.hok.fresh (Nat.le_refl _),fun y c h=>?_,fun p hp=>absurd (show p∈([]:List (Addr×Obj))from hp) (by simp),e0.hok.kept hk,?_⟩
 ·exact name_of_addr x.apart (PySem.mem_of_lookup h1) (PySem.mem_of_lookup h2)
 ·have hy:scope.names.lookup y=some .cell\/scope.names.lookup y=some .free:=hy
  rcases hy with hy|hy
  ·exact qW hy
  ·exact absurd rfl (S.nofree _ (PySem.mem_of_lookup hy))
 ·exact Nat.le_of_lt (x.above y c (PySem.mem_of_lookup h))
 ·have hi:i<vs.length:=by
   unfold start at h2
   by_cases hi:i<vs.length
   ·exact hi
   ·rw[List.getElem?_append_right (by simpa using hi)]at h2
    rw[List.getElem?_replicate]at h2
    split at h2<;>cases h2
  have ha:vs[i]?=some v:=by
   unfold start at h2
   rw[List.getElem?_append_left (by simpa using hi),List.getElem?_map]at h2
   cases e:vs[i]? with
   |none=>rw[e]at h2;cases h2
   |some a=>rw[e]at h2;cases h2;rfl
  obtain⟨u,hu,rv⟩:=r.get ha
  have hp:ps[i]?=some y:=by
   rw[←S.pre,List.getElem?_take_of_lt (by omega)];exact h1
  have ndP:ps.Nodup:=by rw[←S.pre];exact S.nd.sublist (List.take_sublist _ _)
  refine⟨u,rv,?_⟩
  rcases S.par y (List.mem_of_getElem? hp)with k|k
  ·exact .inl ⟨k,oQ ndP hp hu k⟩
  ·obtain⟨c,e⟩:=qW (n:=s.heap.objs.size+1) k
   refine .inr ⟨.inl k,c,e,?_⟩
   have q:=x.cell y c e
   rw[oS ndP hp hu (by show scope.names.lookup y≠_;rw[k];decide)]at q
   exact q
 ·exact e0.hok.fresh (Nat.le_of_lt (x.above y c (PySem.mem_of_lookup h)))
 ·unfold start
  show _=N.length
  rw[List.length_append,List.length_map,List.length_replicate]
  omega
theorem BK{CX:vX}{P:Program}{w:World}{K:PySem.W.Frag}{mg:Str->Option Value}{base:Heap}{k:Nat}{f:Addr}{name qual:Str}{params:Arguments}{body:List Stmt}{scope:Scope}{dV kV doc pm cdv ct oc:Value}{an od:Option Addr}
  {osl:Array (Option Value)}{N ps:List Str}{sp:Sp}(lk:K.lookup f=some ⟨oc,od,.func (PySem.W.fnOf name qual params body scope dV kV doc pm an cdv ct),osl⟩) (hcd:PySem.W.codeIn K cdv qual=true) (S:aN N ps scope)
  (len:∀vs H Q E,sp vs H Q E->vs.length=ps.length)
  (hbody:∀(A:Around) (outer:List Env) (s:Shared) (H:Hp) (vs:List V) (Q:VK) (E:XK),iq k (A.deeper (envOfC qual scope s.heap.objs.size f cdv))->sp vs H Q E ->
   ∃t,uZ (sJ CX P w K mg base N qual scope f cdv A outer s H E) body t/\t {nx:=fun _ H'=>Q .gp H',rt:=Q} (start N vs) H) :
  bT P w K mg base CX (k+1) f (PySem.W.fnOf name qual params body scope dV kV doc pm an cdv ct) ps sp:=by
 refine⟨len,fun A outer s H args us vs Q E hr e0 hb r hsp=>?_⟩
 have hl:=len _ _ _ _ hsp
 have KX:K.In s.heap:=e0.mod.kin.keeps fun b o e=>(e0.bs b o e).1
 have lim:s.heap.NoLimit:=e0.mod.nolimit.keeps fun b o e=>(e0.bs b o e).1
 have hkind:∀y∈ps.zip us,scope.names.lookup y.1=some .local\/(scope.names.lookup y.1=some .cell/\((cellsFrom (s.heap.objs.size+1) scope.names []).lookup y.1).isSome=true):=fun⟨n,v⟩ hy=>by
  rcases S.par n (List.of_mem_zip hy).1 with q|q
  ·exact .inl q
  ·exact .inr ⟨q,PySem.W.cellsFrom_some _ _ _ (.inl q)⟩
 refine codeAny_call_function hr.depth (KX _ _ lk) rfl S.co S.gen rfl (PySem.W.codeRec_of KX hcd) (hb _ _ _ _ ?_)
 refine wpAny_newFunctionEnv_cells S.kind hkind fun env he s1 x=>?_
 subst he
 refine⟨lim.keeps x.toInCall.keep,codeAny_func ?_⟩
 obtain⟨t,ht,hq⟩:=hbody A outer s H vs Q E (hr.deeper _) hsp
 have I:Inv (sJ CX P w K mg base N qual scope f cdv A outer s H E) [] (start N vs) H s1:=vj S hr.hd e0 hl r x
 refine wpAny_mono (ht [] s1 (start N vs) H _ I hq) (fun fl s' hs=>?_) fun e s' hs=>hs
 have fin:∀{σ':St}{H':Hp}{v:V}{u:Value},Inv (sJ CX P w K mg base N qual scope f cdv A outer s H E) [] σ' H' s'->RelV v u->Q v H'->CE outer P w H s Q u s' :=
  fun{σ' H' v u} J rv q=>⟨v,H',J.os,J.bare,J.base,J.hok,rv,q⟩
 cases fl with
 |ret u =>
  obtain⟨v,σ',H',J,rv,q⟩:=hs
  exact fin J rv q
 |next =>
  obtain⟨σ',H',J,q⟩:=hs
  exact fin (v:=V.gp) (u:=Value.none) J rfl q
 |brk =>
  obtain⟨_,_,_,q⟩:=hs
  exact False.elim q
 |cont =>
  obtain⟨_,_,_,q⟩:=hs
  exact False.elim q
section
variable {X:Cx}{x:Str}{p pos:Pos}{e:Expr}{es:List Expr}{t:TA}{id T:String}{r:List V->Hp->VK->Prop}
noncomputable def BL(r:List V->Hp->VK->Prop)(t:TA):TE:=fun σ H Q=>t σ H fun vs H1=>r vs H1 Q
theorem j3(hc:fN X (.builtin id) r)(hg:Gl X x)(hm:X.mg x=none)(hv:bootBuiltins x=some (.builtin id))(ha:PA X (e::es) t)(hn:x≠"__name__":=by decide)(hdb:(x == ("__debug__":Str))=false:=by decide)
  (he:starEach (e::es) X.env=(false,eval e X.env)::starEach es X.env:=by rfl) (hpl:(backTo pos (starEach es X.env)).any (·.1)=false:=by rfl):PE X (.Call (.Name x p) (e::es) [] pos) (BL r t):=by
 intro pins s σ H Q I h
 refine wpAny_Call_Name_kw (jM I hg hm hv ?_ hn hdb)
 exact PyProof.Rows.callWith_builtin1 (cK (ha pos pins s σ H _ I h) fun us s1 ⟨vs,H1,I1,r1,q1⟩=>hc pins s1 σ H1 vs us Q I1 r1 q1) he hpl
theorem vm(hc:fN X (.type T) r)(hg:Gl X x)(hm:X.mg x=none)(hv:bootBuiltins x=some (.type T))(ha:PA X (e::es) t)(hn:x≠"__name__":=by decide)(hdb:(x == ("__debug__":Str))=false:=by decide)
  (he:starEach (e::es) X.env=(false,eval e X.env)::starEach es X.env:=by rfl) (hpl:(backTo pos (starEach es X.env)).any (·.1)=false:=by rfl):PE X (.Call (.Name x p) (e::es) [] pos) (BL r t):=by
 intro pins s σ H Q I h
 refine wpAny_Call_Name_kw (jM I hg hm hv ?_ hn hdb)
 exact PyProof.Rows.callWith_type1 (cK (ha pos pins s σ H _ I h) fun us s1 ⟨vs,H1,I1,r1,q1⟩=>hc pins s1 σ H1 vs us Q I1 r1 q1) he hpl
end
end L2
namespace HT
open PySem PyProof.Rows
section
open PySem.SeqAt
open PySem.AutoSeq1 (wpAny_loadPart')
open PySem.MeetsSeq PySem.MeetsSeq2 PySem.MeetsSeq3
end
section
variable {prog:Program}{w:World}{A:Around}{E:Value->Shared->Prop}{s:Shared}
theorem yD{t b:Addr}{vs ws:List Value}{Q:Value->Shared->Prop}(ht:IsTup s.heap t vs.toArray)(hb:IsTup s.heap b ws.toArray)(hv:vs≠[])
  (h1:ws=[]->Q (.ref t) s) (h2:ws≠[]->Q (.ref s.heap.objs.size) {s with heap:=s.heap.push {cls:=.type "tuple",data:=.seq (vs++ws).toArray}})
  (hsz:vs.length+ws.length<=sizeLine):wpAny (model prog w) A (binaryOp .Add (.ref t) (.ref b)) Q E s:=by
 obtain⟨⟨cls,dd,data,sl⟩,ho,hc,n,hd⟩:=id ht
 obtain⟨⟨cls2,dd2,data2,sl2⟩,ho2,hc2,n2,hd2⟩:=id hb
 simp only at hc hd hc2 hd2
 subst hc hd hc2 hd2
 have e:vs.toArray++ws.toArray=(vs++ws).toArray:=by simp
 by_cases hw:ws=[]
 ·exact concat_meets ⟨_,ho,rfl⟩ ⟨_,ho2,rfl⟩ noFill_tuple_add seq_tuple_add PySem.F.slot_tuple_add PySem.F.entry_tuple_add (PySem.F.args_tuple_add_2 _ _)
   (tuple_addW1 t b vs.toArray ws.toArray n n2 dd dd2 sl sl2 (by simpa using hv) (by simp[hw])) ⟨ho,ho2,h1 hw⟩
 ·refine concat_meets ⟨_,ho,rfl⟩ ⟨_,ho2,rfl⟩ noFill_tuple_add seq_tuple_add PySem.F.slot_tuple_add PySem.F.entry_tuple_add (PySem.F.args_tuple_add_2 _ _)
   (tuple_addW2 t b vs.toArray ws.toArray n n2 dd dd2 sl sl2 (by simpa using hv) (by simpa using hw) (by rw[List.size_toArray,List.size_toArray];exact hsz)) ⟨ho,ho2,?_⟩
  rw[e]
  exact h2 hw
noncomputable def eM(n d:Nat):Option Int->Nat
 |none=>d
 |some v=>if v<0 then(v+(n:Int)).toNat else min v.toNat n
theorem mS(n d:Nat):eM n d none=d:=rfl
theorem jB(n d k:Nat):eM n d (some (k:Int))=min k n:=by
 show(if(k:Int)<0 then((k:Int)+(n:Int)).toNat else min (k:Int).toNat n)=min k n
 rw[if_neg (by omega),Int.toNat_natCast]
theorem AF(n d:Nat)(hd:d<=n)(o:Option Int):eM n d o<=n:=by
 cases o with
 |none=>exact hd
 |some v =>
  show(if v<0 then(v+(n:Int)).toNat else min v.toNat n)<=n
  by_cases hv:v<0
  ·rw[if_pos hv];omega
  ·rw[if_neg hv];exact Nat.min_le_right _ _
theorem uc(v:Int)(n d:Nat):(if v<0 then max (v+(n:Int)) 0 else min v (n:Int))=((eM n d (some v):Nat):Int):=by
 show(if v<0 then max (v+(n:Int)) 0 else min v (n:Int))=(((if v<0 then(v+(n:Int)).toNat else min v.toNat n):Nat):Int)
 by_cases hv:v<0
 ·simp only[if_pos hv];omega
 ·simp only[if_neg hv];omega
theorem sL(lo hi:Option Int)(n:Nat):Builtin.Slice.sliceAdjust lo hi 1 (n:Int)=(((eM n 0 lo:Nat):Int),((eM n n hi:Nat):Int)):=by
 have h1:¬((1:Int)<0):=by omega
 unfold Builtin.Slice.sliceAdjust
 simp only[h1,if_false]
 refine Prod.ext ?_ ?_
 ·cases lo with
  |none=>rfl
  |some v=>exact uc v n 0
 ·cases hi with
  |none=>rfl
  |some v=>exact uc v n n
theorem sN(i j:Nat):Builtin.Slice.slicePlaces (i:Int) (j:Int) 1=j-i:=by
 unfold Builtin.Slice.slicePlaces
 have h1:(1:Int)>0:=by omega
 simp only[h1,if_true,Int.ediv_one]
 split<;>omega
theorem mT{v:Value}{o:Option Int}{Q:Option Int->Shared->Prop}(p:IsPart v o)(h:Q o s):wpAny (model prog w) A (Builtin.Slice.slicePartIndex v) Q E s:=by
 cases p with
 |none=>exact slicePart_none h
 |int i t=>exact slicePart_int h
theorem kO{sl:Addr}{vl vu:Value}{lo hi:Option Int}{n:Nat}{Q:Int×Int×Nat->Shared->Prop}(hs:s.heap.IsSliceOf sl vl vu .none)(pl:IsPart vl lo)(pu:IsPart vu hi)
  (h:Q (((eM n 0 lo:Nat):Int),1,eM n n hi-eM n 0 lo) s):wpAny (model prog w) A (Builtin.Slice.sliceApplied (.ref sl) (pure (n:Int))) Q E s:=by
 obtain⟨os,hos,hcs,hds⟩:=id hs
 unfold Builtin.Slice.sliceApplied Builtin.Slice.sliceFields
 refine wpAny_bind (wpAny_bind (wpAny_field hos hds (x:=vl) rfl (wpAny_bind (wpAny_field hos hds (x:=vu) rfl (wpAny_bind (wpAny_field hos hds (x:=.none) rfl (wpAny_pure ?_)))))))
 refine wpAny_bind (slicePart_none ?_)
 show wpAny _ _ (if((1:Int) == 0)=true then _ else _) _ _ s
 rw[if_neg (by decide)]
 refine wpAny_bind (mT pl (wpAny_bind (mT pu (wpAny_bind (wpAny_pure ?_)))))
 show wpAny _ _ (match Builtin.Slice.sliceAdjust lo hi 1 (n:Int)with|(lo,hi)=>pure (lo,(1:Int),Builtin.Slice.slicePlaces lo hi 1)) _ _ s
 rw[sL lo hi n]
 show wpAny _ _ (pure (((eM n 0 lo:Nat):Int),(1:Int),Builtin.Slice.slicePlaces ((eM n 0 lo:Nat):Int) ((eM n n hi:Nat):Int) 1)) _ _ s
 rw[sN]
 exact wpAny_pure h
theorem wD(xs:Array Value)(i k:Nat):((List.range k).filterMap fun(m:Nat)=>xs[((i:Int)+(m:Int)*1).toNat]?).toArray=((xs.toList.drop i).take k).toArray:=by
 have e:(fun(m:Nat)=>xs[((i:Int)+(m:Int)*1).toNat]?)=fun m=>xs[i+m]?:=by
  funext m
  have:((i:Int)+(m:Int)*1).toNat=i+m:=by omega
  rw[this]
 rw[e]
 have:=pick_run xs i k
 rw[List.filterMap_map]at this
 have e2:((fun x=>xs[x]?) ∘ fun x=>i+x)=fun m=>xs[i+m]?:=rfl
 rw[e2]at this
 rw[this]
theorem j4{t sl:Addr}{items:Array Value}{vl vu:Value}{lo hi:Option Int}{Q:Value->Shared->Prop}(ht:IsTup s.heap t items)(hs:s.heap.IsSliceOf sl vl vu .none)(pl:IsPart vl lo)(pu:IsPart vu hi)
  (hw:¬(eM items.size 0 lo=0/\eM items.size items.size hi=items.size))
  (h:Q (.ref s.heap.objs.size) {s with heap:=s.heap.push {cls:=.type "tuple",data:=.seq ((items.toList.drop (eM items.size 0 lo)).take (eM items.size items.size hi-eM items.size 0 lo)).toArray}})
  (hsz:items.size<=sizeLine):wpAny (model prog w) A (getItem (.ref t) (.ref sl)) Q E s:=by
 have htake:sizeOk (.seq ((items.toList.drop (eM items.size 0 lo)).take (eM items.size items.size hi-eM items.size 0 lo)).toArray):=by
  show((items.toList.drop (eM items.size 0 lo)).take (eM items.size items.size hi-eM items.size 0 lo)).toArray.size<=sizeLine
  rw[List.size_toArray,List.length_take,List.length_drop,Array.length_toList]
  omega
 have hj:eM items.size items.size hi<=items.size:=AF _ _ (Nat.le_refl _) hi
 obtain⟨os,hos,hcs,hds⟩:=id hs
 have hTs:s.TypeIs (.ref sl) "slice":=⟨os,hos,hcs⟩
 unfold getItem
 try with_reducible refine wpAny_holding ?_
 first|refine wpAny_bind (wpAny_pure ?_)|skip
 refine wpAny_bind (wpAny_sequenceKey ht.typeIs (by decide) ?_)
 refine wpAny_bind (wpAny_callSpecial?_slot (name:=Str.ofString "__getitem__") ht.typeIs PyProof.Rows.slot_tuple_getitem
  (wpAny_call_entry PyProof.Rows.slot_tuple_getitem ht.typeIs entry_tuple_getitem ?_ (args_tuple_getitem _ _)))
 show wpAny _ _ (Builtin.Tuple.tupleItemsOf (.ref t)>>=_) _ _ s
 refine wpAny_bind (tupleItemsOf_ ht ?_)
 refine wpAny_bind (wpAny_typeOf hTs ?_)
 rw[if_pos (by decide)]
 refine wpAny_bind (kO hs pl pu ?_)
 have hno:¬((((eM items.size 0 lo:Nat):Int) == 0&&(1:Int) == 1&&(eM items.size items.size hi-eM items.size 0 lo) == items.size)=true):=by
  intro q
  rw[Bool.and_eq_true,Bool.and_eq_true]at q
  have q1:((eM items.size 0 lo:Nat):Int)=0:=eq_of_beq q.1.1
  have q2:eM items.size items.size hi-eM items.size 0 lo=items.size:=eq_of_beq q.2
  exact hw ⟨by omega,by omega⟩
 show wpAny _ _ (if(((eM items.size 0 lo:Nat):Int) == 0&&(1:Int) == 1&&(eM items.size items.size hi-eM items.size 0 lo) == items.size)=true then _ else _) _ _ s
 rw[if_neg hno,wD]
 first
  |exact wpAny_bind (m:=Builtin.Tuple.tupleExact _) (wpAny_newObj_type (wpAny_pure ⟨_,rfl,wpAny_pure h⟩) htake)
  |exact wpAny_bind (m:=Builtin.Tuple.tupleExact _) (wpAny_newObj_type (wpAny_bind (wpAny_pure (wpAny_pure ⟨_,rfl,wpAny_pure h⟩))) htake)
  |exact wpAny_bind (wpAny_bind (m:=Builtin.Tuple.tupleExact _) (wpAny_newObj_type (wpAny_pure (wpAny_pure ⟨_,rfl,wpAny_pure h⟩)) htake))
  |exact wpAny_bind (wpAny_bind (m:=Builtin.Tuple.tupleExact _) (wpAny_newObj_type (wpAny_pure ⟨_,rfl,wpAny_pure h⟩) htake))
end
end HT
namespace L2
open PySem PySem.Spec PyProof.Rows
noncomputable abbrev TO:=St->Hp->(Option Int->Hp->Prop)->Prop
noncomputable def PO(X:Cx)(e:Option Expr)(t:TO):Prop :=
 ∀(pins:List (Addr×Obj)) (s:Shared) (σ:St) (H:Hp) (Q:Option Int->Hp->Prop),Inv X pins σ H s->t σ H Q ->
  wpAny (model X.prog X.w) X.A (evalPart e X.env) (fun u s'=>∃o H',Inv X pins σ H' s'/\IsPart u o/\Q o H') X.xe s
noncomputable def yE:TO:=fun _ H Q=>Q none H
noncomputable def BN(t:TE):TO:=fun σ H Q=>t σ H fun x H1=>∃i,x=.int i/\Q (some i) H1
theorem intsAre_of{ns:List Int}:∀{us:List Value},Vals (ns.map V.int) us->IntsAre us ns:=by
 induction ns with
 |nil=>intro us r;rw[List.map_nil]at r;cases r;exact .nil
 |cons n ns ih =>
  intro us r
  rw[List.map_cons]at r
  cases r with
  |cons r1 r2 =>
   obtain⟨t,e⟩:=r1
   subst e
   exact .cons n t (ih r2)
section
variable {X:Cx}{e:Expr}{te:TE}{lo hi:Option Expr}{tl th:TO}{pos p2:Pos}
theorem dH:PO X none yE:=by
 intro pins s σ H Q I h
 rw[evalPart_none]
 exact wpAny_pure ⟨none,H,I,.none,h⟩
theorem cf(h:PE X e te):PO X (some e) (BN te):=by
 intro pins s σ H Q I hw
 rw[evalPart_some]
 refine cK (h pins s σ H _ I hw) fun u s1 ⟨x,H1,I1,r1,q1⟩=>?_
 obtain⟨i,rfl,q⟩:=q1
 obtain⟨t,rfl⟩:=r1
 exact⟨some i,H1,I1,.int i t,q⟩
noncomputable def BO(X:Cx)(r:V->Option Int->Option Int->Hp->VK->Prop):Prop :=
 ∀(pins:List (Addr×Obj)) (s:Shared) (σ:St) (H:Hp) (x:V) (v vl vu:Value) (lo hi:Option Int) (sl:Addr) (Q:VK),Inv X pins σ H s->RelV x v->s.heap.IsSliceOf sl vl vu .none->IsPart vl lo->IsPart vu hi->r x lo hi H Q ->
  ∃T id,typeLookup (.type T) "__getitem__"=pure (some (.builtin id))/\s.TypeIs v T/\wpAny (model X.prog X.w) X.A (getItem v (.ref sl)) (EP X pins σ Q) X.xe s
noncomputable def Dy(r:V->Option Int->Option Int->Hp->VK->Prop)(te:TE)(tl th:TO):TE:=fun σ H Q=>te σ H fun x H1=>tl σ H1 fun l H2=>th σ H2 fun u H3=>r x l u H3 Q
theorem cO{r:V->Option Int->Option Int->Hp->VK->Prop}(hr:BO X r)(he:PE X e te)(hl:PO X lo tl)(hu:PO X hi th):PE X (.Subscript e (.Slice lo hi none p2) pos) (Dy r te tl th):=by
 intro pins s σ H Q I h
 refine Subscript_ (cK (he pins s σ H _ I h) fun v s1 ⟨x,H1,I1,r1,q1⟩=>?_)
 refine wpAny_Slice (cK (hl pins s1 σ H1 _ I1 q1) fun vl s2 ⟨l,H2,I2,pl,q2⟩=>cK (hu pins s2 σ H2 _ I2 q2) fun vu s3 ⟨u,H3,I3,pu,q3⟩=>?_)
 rw[evalPart_none]
 refine wpAny_pure ?_
 have I4:Inv X pins σ H3 {s3 with heap:=s3.heap.push {cls:=.type "slice",data:=.fields #[vl,vu,.none]}}:=I3.kept (t':=s3.toks) fun b ob q=>Heap.get?_push_of_some _ q
 obtain⟨T,id,hT,ht,hg⟩:=hr pins {s3 with heap:=s3.heap.push {cls:=.type "slice",data:=.fields #[vl,vu,.none]}} σ H3 x v vl vu l u s3.heap.objs.size Q I4 r1 (Heap.IsSliceOf.new ..) pl pu q3
 show wpAny (model X.prog X.w) X.A (subscriptTail e (.Slice lo hi none p2) v (.ref s3.heap.objs.size)) (EP X pins σ Q) X.xe {s3 with heap:=s3.heap.push {cls:=.type "slice",data:=.fields #[vl,vu,.none]}}
 exact tail_any (ops:=[.ref s3.heap.objs.size,v]) ht hT hg (by with_unfolding_all rfl)
noncomputable def cB(xs:List V)(lo hi:Option Int):List V:=(xs.drop (HT.eM xs.length 0 lo)).take (HT.eM xs.length xs.length hi-HT.eM xs.length 0 lo)
theorem lE(xs:List V)(lo hi:Option Int):(cB xs lo hi).length<=xs.length:=by
 unfold cB
 rw[List.length_take,List.length_drop]
 omega
noncomputable def CZ(K:PySem.W.Frag):V->Option Int->Option Int->Hp->VK->Prop:=fun x lo hi H Q=>∃a xs,x=.ref a/\bx K H a xs /\
 ¬(HT.eM xs.length 0 lo=0/\HT.eM xs.length xs.length hi=xs.length)/\∀p,H p=none->Q (.ref p) (upd H p (.tup (cB xs lo hi)))
theorem sO:BO X (CZ X.K):=by
 intro pins s σ H x v vl vu lo hi sl Q I rx hs pl pu h
 obtain⟨a,xs,rfl,hx,hw,q⟩:=h
 cases rx
 obtain⟨its,r,ht,hz⟩:=I.tuple hx
 have hlen:its.toArray.size=xs.length:=by rw[List.size_toArray];exact r.length.symm
 refine⟨"tuple",_,PyProof.Rows.slot_tuple_getitem.lookup,ht.typeIs,?_⟩
 refine HT.j4 ht hs pl pu (by rw[hlen];exact hw) ?_ (by rw[hlen];exact hz)
 rw[hlen]
 refine⟨.ref s.heap.objs.size,_,I.laid (t':=s.toks) (o:=.tup (cB xs lo hi)) (fun b ob q=>Heap.get?_push_of_some _ q) (Nat.le_refl _) ?_,rfl,q _ (I.hok.fresh (Nat.le_refl _))⟩
 exact⟨Nat.le_trans (lE xs lo hi) hz,_,(r.drop (HT.eM xs.length 0 lo)).take (HT.eM xs.length xs.length hi-HT.eM xs.length 0 lo),IsTup.new _ _,_,Heap.get?_push_size _ rfl,rfl⟩
noncomputable def zY(K:PySem.W.Frag):R2:=fun x y H Q=>∃a b xs ys,x=.ref a/\y=.ref b/\bx K H a xs/\bx K H b ys/\xs≠[]/\xs.length+ys.length<=sizeLine /\
 (ys=[]->Q (.ref a) H)/\(ys≠[]->∀p,H p=none->Q (.ref p) (upd H p (.tup (xs++ys))))
theorem Vals.qf{xs:List V}{us:List Value}(r:Vals xs us):us=[]↔xs=[]:=by
 cases r with
 |nil=>simp
 |cons _ _=>simp
theorem yF:kJ X (binaryOp .Add) (zY X.K):=by
 intro pins s σ H x y v u Q I rx ry h
 obtain⟨a,b,xs,ys,rfl,rfl,ha,hb,hx,hz,q1,q2⟩:=h
 cases rx
 cases ry
 obtain⟨its,r1,p1,_⟩:=I.tuple ha
 obtain⟨its2,r2,p2,_⟩:=I.tuple hb
 refine HT.yD p1 p2 (fun z=>hx (r1.qf.mp z)) (fun z=>⟨.ref a,H,I,rfl,q1 (r2.qf.mp z)⟩) (fun z=>?_) (by rw[←r1.length,←r2.length];exact hz)
 refine⟨.ref s.heap.objs.size,_,I.laid (t':=s.toks) (o:=.tup (xs++ys)) (fun b ob q=>Heap.get?_push_of_some _ q) (Nat.le_refl _) ?_,rfl,q2 (fun w=>z (r2.qf.mpr w)) _ (I.hok.fresh (Nat.le_refl _))⟩
 exact⟨by rw[List.length_append];exact hz,_,r1.append r2,IsTup.new _ _,_,Heap.get?_push_size _ rfl,rfl⟩
end
noncomputable def yr(n:Nat)(i:Int):Option Nat:=if 0<=i then(if i<n then some i.toNat else none)else if -(n:Int)<=i then some (i+n).toNat else none
noncomputable def jC{α:Type}(xs:List α)(i:Int):Option α:=(yr xs.length i).bind fun j=>xs[j]?
theorem ud{n:Nat}{i:Int}{j:Nat}(h:yr n i=some j):seqIndex? i n=some j/\j<n/\-(n:Int)<=i/\i<n:=by
 unfold yr at h
 by_cases h0:0<=i
 ·rw[if_pos h0]at h
  by_cases h1:i<n
  ·rw[if_pos h1]at h
   have e:i.toNat=j:=Option.some.inj h
   exact⟨by rw[seqIndex_of h0 h1,e],by omega,by omega,h1⟩
  ·rw[if_neg h1]at h;cases h
 ·rw[if_neg h0]at h
  by_cases h1:-(n:Int)<=i
  ·rw[if_pos h1]at h
   have e:(i+n).toNat=j:=Option.some.inj h
   exact⟨by rw[seqIndex_neg (by omega) h1,e],by omega,h1,by omega⟩
  ·rw[if_neg h1]at h;cases h
theorem qg{α:Type}{xs:List α}{i:Int}{v:α}(h:jC xs i=some v):∃j,seqIndex? i xs.length=some j/\xs[j]?=some v/\j<xs.length/\-(xs.length:Int)<=i/\i<xs.length:=by
 unfold jC at h
 cases e:yr xs.length i with
 |none=>rw[e]at h;cases h
 |some j =>
  rw[e]at h
  obtain⟨h1,h2,h3,h4⟩:=ud e
  exact⟨j,h1,h,h2,h3,h4⟩
theorem cF{α:Type}{xs:List α}{j:Nat}{v:α}(h:xs[j]?=some v):jC xs (j:Int)=some v:=by
 have hj:j<xs.length:=(List.getElem?_eq_some_iff.mp h).1
 have e:yr xs.length (j:Int)=some j:=by
  unfold yr
  rw[if_pos (by omega),if_pos (by omega)];simp
 unfold jC;rw[e];exact h
noncomputable def yG(b:Expr):Prop:=∀o i,subscripted b false o i=operate [o,i] (getItem o i)
noncomputable def vY(X:Cx)(r:R2):Prop :=
 ∀(value slice:Expr) (pins:List (Addr×Obj)) (s:Shared) (σ:St) (H:Hp) (x y:V) (v u:Value) (Q:VK),Inv X pins σ H s->RelV x v->RelV y u->r x y H Q ->
  subscripted slice false v u=operate [v,u] (getItem v u)->wpAny (model X.prog X.w) X.A (subscriptTail value slice v u) (EP X pins σ Q) X.xe s
noncomputable def Cw(X:Cx)(id:String)(r:V->List V->Hp->VK->Prop):Prop :=
 ∀(pins:List (Addr×Obj)) (s:Shared) (σ:St) (H:Hp) (x:V) (xs:List V) (v:Value) (us:List Value) (Q:VK),Inv X pins σ H s->RelV x v->Vals xs us->r x xs H Q ->
  wpAny (model X.prog X.w) X.A (call (.builtin id) (v::us)) (EP X pins σ Q) X.xe s
section
variable {X:Cx}{a b:Expr}{ta tb:TE}{pos:Pos}
theorem vY.or{r r':R2}(h:vY X r)(h':vY X r'):vY X (fun x y H Q=>r x y H Q\/r' x y H Q):=by
 intro value slice pins s σ H x y v u Q I rx ry q hs
 rcases q with q|q
 ·exact h value slice pins s σ H x y v u Q I rx ry q hs
 ·exact h' value slice pins s σ H x y v u Q I rx ry q hs
theorem gm{r:R2}(hr:vY X r)(ha:PE X a ta)(hb:PE X b tb)(hs:yG b):PE X (.Subscript a b pos) (vh r ta tb):=by
 intro pins s σ H Q I h
 exact Subscript_ (Ay ha hb I h fun v u s2 x y H2 I2 rx ry q=>hr a b pins s2 σ H2 x y v u Q I2 rx ry q (hs _ _))
noncomputable def AG(K:PySem.W.Frag):R2:=fun x y H Q=>∃p xs i v,x=.ref p/\y=.int i/\cy K H p xs/\jC xs i=some v/\Q v H
noncomputable def sQ(K:PySem.W.Frag):R2:=fun x y H Q=>∃p xs i v,x=.ref p/\y=.int i/\bx K H p xs/\jC xs i=some v/\Q v H
noncomputable def BP:R2:=fun x y H Q=>∃z i c,x=.str z/\y=.int i/\z.length<=sizeLine/\jC z.cps.toList i=some c/\Q (.str ⟨#[c]⟩) H
theorem bg:vY X (AG X.K):=by
 intro value slice pins s σ H x y v u Q I rx ry h hs
 obtain⟨p,xs,i,z,rfl,rfl,hq,he,q⟩:=h
 cases rx
 obtain⟨t,rfl⟩:=ry
 obtain⟨its,r,pl,hz⟩:=I.list hq
 obtain⟨j,h1,h2,h3,h4,h5⟩:=qg he
 obtain⟨w,ew,rw'⟩:=r.get h2
 have hl:=r.length
 have hn:=jO
 have fin:EP X pins σ Q w s:=⟨z,H,I,rw',q⟩
 by_cases h0:0<=i
 ·have hj:i.toNat=j:=by
   rw[seqIndex_of h0 h5]at h1
   exact Option.some.inj h1
  exact item_listR pl.isList h0 (by omega) (by rw[hj];simpa using ew) fin hs
 ·have hj:(i+(its.toArray.size:Int)).toNat=j:=by
   rw[seqIndex_neg (by omega) h4]at h1
   rw[List.size_toArray,←hl]
   exact Option.some.inj h1
  exact subscriptTail_builtinR (x:=w) pl.isList.typeIs slot_list_getitem.lookup
   (wpAny_getItem_list_neg (Q:=fun r s'=>r=w/\EP X pins σ Q r s') pl.isList (by omega) (by rw[List.size_toArray]<;>omega) (by omega) (by rw[hj];simpa using ew) ⟨rfl,fin⟩) hs
theorem aD:vY X (sQ X.K):=by
 intro value slice pins s σ H x y v u Q I rx ry h hs
 obtain⟨p,xs,i,z,rfl,rfl,hq,he,q⟩:=h
 cases rx
 obtain⟨t,rfl⟩:=ry
 obtain⟨its,r,pl,hz⟩:=I.tuple hq
 obtain⟨j,h1,h2,h3,h4,h5⟩:=qg he
 obtain⟨w,ew,rw'⟩:=r.get h2
 have hl:=r.length
 have hn:=jO
 have fin:EP X pins σ Q w s:=⟨z,H,I,rw',q⟩
 exact subscriptTail_builtinR (x:=w) pl.typeIs slot_tuple_getitem.lookup
  (getItem_tuple (j:=j) (Q:=fun r s'=>r=w/\EP X pins σ Q r s') pl (by omega) (by omega) (by rw[List.size_toArray,←hl];exact h1) (by simpa using ew) ⟨rfl,fin⟩) hs
theorem qh:vY X BP:=by
 intro value slice pins s σ H x y v u Q I rx ry h hs
 obtain⟨z,i,c,rfl,rfl,hz,he,q⟩:=h
 obtain⟨t,rfl⟩:=rx
 obtain⟨t',rfl⟩:=ry
 obtain⟨j,h1,h2,h3,h4,h5⟩:=qg he
 have hl:z.cps.toList.length=z.length:=by simp[Str.length]
 rw[hl]at h1 h4 h5
 have hn:=jO
 exact tail_any (typeIs_str s z t) slot_str_getitem.lookup (getItem_str (c:=c) (by
  have e1:decide (i < -(2 ^ 63:Int))=false:=decide_eq_false (by omega)
  have e2:decide (i ≥ 2 ^ 63)=false:=decide_eq_false (by omega)
  rw[e1,e2,Bool.or_false]) (by rw[h1];simpa using h2) ⟨.str ⟨#[c]⟩,H,I.tok _,⟨_,rfl⟩,q⟩) hs
noncomputable def Dl(K:PySem.W.Frag):R2:=fun x y H Q=>AG K x y H Q\/sQ K x y H Q\/BP x y H Q
theorem qi:vY X (Dl X.K):=bg.or (aD.or qh)
theorem sR(its:List Value)(n j:Nat)(u:Value):Obj.mapSeq (·.setIfInBounds j u) {cls:=.type "list",data:=.seq its.toArray n}={cls:=.type "list",data:=.seq (its.set j u).toArray n}:=by
 simp[Obj.mapSeq]
theorem Inv.lst{pins:List (Addr×Obj)}{σ:St}{H:Hp}{s:Shared}{p:Addr}{xs:List V}(I:Inv X pins σ H s)(h:H p=some (.lst xs)) :
  ∃(its:List Value) (n:Nat),Vals xs its/\s.heap.get? p=some {cls:=.type "list",data:=.seq its.toArray n}/\xs.length<=sizeLine:=by
 obtain⟨z,its,n,r,e⟩:=I.hok p _ h
 exact⟨its,n,r,e,z⟩
theorem Inv.AH{pins:List (Addr×Obj)}{σ:St}{H:Hp}{s:Shared}{p:Addr}{xs ys:List V}{its its':List Value}{n n':Nat}{f:Obj->Obj}(I:Inv X pins σ H s)(h:H p=some (.lst xs))
  (ho:s.heap.get? p=some {cls:=.type "list",data:=.seq its.toArray n}) (hf:f {cls:=.type "list",data:=.seq its.toArray n}={cls:=.type "list",data:=.seq its'.toArray n'}) (r:Vals ys its') (hz:ys.length<=sizeLine) (t:Nat) :
  Inv X pins σ (upd H p (.lst ys)) {s with heap:=s.heap.update p f,toks:=t}:=by
 have e:(s.heap.update p f).get? p=some {cls:=.type "list",data:=.seq its'.toArray n'}:=by
  rw[Heap.get?_update_self f ho (by rw[hf]<;>rfl),hf]
 refine I.write (x:=p) (e:=p) (by rw[h];trivial) (.inl rfl) (fun b u hb q=>(Heap.get?_update_other _ _ (Ne.symm hb)).trans q) ⟨_,e⟩ ?_
 exact⟨hz,its',n',r,e⟩
noncomputable def BQ:V->V->V->Hp->(Hp->Prop)->Prop:=fun o i v H Q=>∃p xs k j,o=.ref p/\i=.int k/\H p=some (.lst xs)/\yr xs.length k=some j/\Q (upd H p (.lst (xs.set j v)))
theorem set_list:BA X BQ:=by
 intro pins s σ H o i v ov iv u Q I ro ri rv h
 obtain⟨p,xs,k,j,rfl,rfl,hp,hj,q⟩:=h
 cases ro
 obtain⟨t,rfl⟩:=ri
 obtain⟨its,n,r,ho,hz⟩:=I.lst hp
 obtain⟨h1,h2,h3,h4⟩:=ud hj
 have hl:=r.length
 have hn:=jO
 have I':Inv X pins σ (upd H p (.lst (xs.set j v))) {s with heap:=s.heap.update p (Obj.mapSeq (·.setIfInBounds j u))} :=
  I.AH hp ho (sR its n j u) (r.set rv j) (by rw[List.length_set];exact hz) s.toks
 by_cases h0:0<=k
 ·have hk:k.toNat=j:=by
   rw[seqIndex_of h0 h4]at h1
   exact Option.some.inj h1
  exact PySem.W.ki_setAt ho h0 (by omega) (by rw[List.size_toArray,←hl];exact h4) (by rw[hk];exact⟨_,I',q⟩)
 ·have hk:(k+(its.toArray.size:Int)).toNat=j:=by
   rw[seqIndex_neg (by omega) h3]at h1
   rw[List.size_toArray,←hl]
   exact Option.some.inj h1
  exact PySem.W.ki_setBack ho (by omega) (by rw[List.size_toArray,←hl];exact h3) (by omega) (by rw[hk];exact⟨_,I',q⟩)
theorem qj(lo hi:Option Int)(n:Nat):(sliceBounds lo hi none n).1=((HT.eM n 0 lo:Nat):Int)/\(sliceBounds lo hi none n).2.1=((HT.eM n n hi:Nat):Int)/\(sliceBounds lo hi none n).2.2=1:=by
 refine⟨?_,?_,rfl⟩
 ·cases lo with
  |none=>simp[sliceBounds,HT.eM]
  |some i =>
   simp only[sliceBounds,HT.eM,Option.getD_none,show(1:Int)>0 by decide,if_true]
   by_cases h:i<0
   ·simp only[h,if_true]<;>omega
   ·simp only[h,if_false]<;>omega
 ·cases hi with
  |none=>simp[sliceBounds,HT.eM]
  |some i =>
   simp only[sliceBounds,HT.eM,Option.getD_none,show(1:Int)>0 by decide,if_true]
   by_cases h:i<0
   ·simp only[h,if_true]<;>omega
   ·simp only[h,if_false]<;>omega
theorem oh(its:List Value)(lo hi:Option Int):slicePick its.toArray lo hi none=((its.drop (HT.eM its.length 0 lo)).take (HT.eM its.length its.length hi-HT.eM its.length 0 lo)).toArray:=by
 obtain⟨h1,h2,h3⟩:=qj lo hi its.toArray.size
 unfold slicePick
 rw[h1,h2,h3]
 simp only[sliceRange_one,pick_run,List.size_toArray]<;>rfl
noncomputable def BR(K:PySem.W.Frag):V->Option Int->Option Int->Hp->VK->Prop:=fun x lo hi H Q=>∃a xs,x=.ref a/\cy K H a xs/\∀p,H p=none->Q (.ref p) (upd H p (.lst (cB xs lo hi)))
theorem fQ:BO X (BR X.K):=by
 intro pins s σ H x v vl vu lo hi sl Q I rx hs pl pu h
 obtain⟨a,xs,rfl,hx,q⟩:=h
 cases rx
 obtain⟨its,r,ht,hz⟩:=I.list hx
 have hlen:=r.length
 refine⟨"list",_,slot_list_getitem.lookup,ht.isList.typeIs,?_⟩
 refine wpAny_getItem_list_slice ht.isList hs pl pu .none (by simp) ?_ (by rw[List.size_toArray]<;>omega)
 rw[oh,←hlen]
 refine⟨.ref s.heap.objs.size,_,I.laid (t':=s.toks) (o:=.lst (cB xs lo hi)) (fun b ob q=>Heap.get?_push_of_some _ q) (Nat.le_refl _) ?_,rfl,q _ (I.hok.fresh (Nat.le_refl _))⟩
 exact⟨Nat.le_trans (lE xs lo hi) hz,_,0,(r.drop (HT.eM xs.length 0 lo)).take (HT.eM xs.length xs.length hi-HT.eM xs.length 0 lo),Heap.get?_push_size _ rfl⟩
noncomputable def jH:V->Bool
 |.gp=>true
 |.bl _=>true
 |.int _=>true
 |.str _=>true
 |_=>false
noncomputable def yt:V->V->Bool
 |.gp,.gp=>true
 |.bl a,.bl b=>a == b
 |.bl a,.int b=>(if a then 1 else 0) == b
 |.int a,.bl b=>a == (if b then 1 else 0)
 |.int a,.int b=>a == b
 |.str a,.str b=>a == b
 |_,_=>false
theorem AJ{A:Around}{s:Shared}{y x:V}{u v:Value}(ry:RelV y u)(rx:RelV x v)(fy:jH y=true)(fx:jH x=true):SeqAt.EqAt A s u v (yt y x):=by
 cases y with
 |gp =>
  cases ry
  cases x with
  |gp=>cases rx;exact SeqAt.EqAt.same _
  |bl b=>cases rx;exact SeqAt.EqAt.none_bool b
  |int b=>obtain⟨t,rfl⟩:=rx;exact SeqAt.EqAt.none_int b t
  |str b=>obtain⟨t,rfl⟩:=rx;exact SeqAt.EqAt.none_str b t
  |_=>exact absurd (show false=true from fx) Bool.false_ne_true
 |bl a =>
  cases ry
  cases x with
  |gp=>cases rx;exact SeqAt.EqAt.bool_none a
  |bl b=>cases rx;exact SeqAt.EqAt.bool_bool a b
  |int b=>obtain⟨t,rfl⟩:=rx;exact SeqAt.EqAt.bool_int a b t
  |str b=>obtain⟨t,rfl⟩:=rx;exact SeqAt.EqAt.bool_str a b t
  |_=>exact absurd (show false=true from fx) Bool.false_ne_true
 |int a =>
  obtain⟨t',rfl⟩:=ry
  cases x with
  |gp=>cases rx;exact SeqAt.EqAt.int_none a t'
  |bl b=>cases rx;exact SeqAt.EqAt.int_bool a t' b
  |int b=>obtain⟨t,rfl⟩:=rx;exact SeqAt.EqAt.int_int a t' b t
  |str b=>obtain⟨t,rfl⟩:=rx;exact SeqAt.EqAt.int_str a t' b t
  |_=>exact absurd (show false=true from fx) Bool.false_ne_true
 |str a =>
  obtain⟨t',rfl⟩:=ry
  cases x with
  |gp=>cases rx;exact SeqAt.EqAt.str_none a t'
  |bl b=>cases rx;exact SeqAt.EqAt.str_bool a t' b
  |int b=>obtain⟨t,rfl⟩:=rx;exact SeqAt.EqAt.str_int a t' b t
  |str b=>obtain⟨t,rfl⟩:=rx;exact SeqAt.EqAt.str_str a t' b t
  |_=>exact absurd (show false=true from fx) Bool.false_ne_true
 |_=>exact absurd (show false=true from fy) Bool.false_ne_true
noncomputable def sS(x:V)(u:Value):Bool:=match u with
 |.none=>yt .gp x
 |.bool b=>yt (.bl b) x
 |.int i _=>yt (.int i) x
 |.str z _=>yt (.str z) x
 |_=>false
theorem wF{x y:V}{u:Value}(r:RelV y u)(f:jH y=true):sS x u=yt y x:=by
 cases y with
 |gp=>cases r;rfl
 |bl b=>cases r;rfl
 |int i=>obtain⟨t,rfl⟩:=r;rfl
 |str z=>obtain⟨t,rfl⟩:=r;rfl
 |_=>exact absurd (show false=true from f) Bool.false_ne_true
theorem j5{x:V}:∀{xs:List V}{us:List Value},Vals xs us->xs.all jH=true->us.any (sS x)=xs.any fun y=>yt y x
 |_,_,.nil,_=>rfl
 |y::xs,u::us,.cons r t,f=>by
  rw[List.all_cons,Bool.and_eq_true]at f
  rw[List.any_cons,List.any_cons,wF r f.1,j5 t f.2]
theorem jj{A:Around}{s:Shared}{x:V}{v:Value}(rx:RelV x v)(fx:jH x=true):∀{xs:List V}{us:List Value},Vals xs us->xs.all jH=true->∀u∈us,SeqAt.EqAt A s u v (sS x u)
 |_,_,.nil,_=>fun u hu=>by cases hu
 |y::xs,u::us,.cons r t,f=>fun u' hu=>by
  rw[List.all_cons,Bool.and_eq_true]at f
  rcases List.mem_cons.mp hu with rfl|hu
  ·rw[wF r f.1];exact AJ r rx f.1 fx
  ·exact jj rx fx t f.2 u' hu
noncomputable def BS(x:V)(xs:List V):Bool:=xs.any fun y=>yt y x
noncomputable def Cy(K:PySem.W.Frag)(neg:Bool):R2:=fun x y H Q=>∃p xs,y=.ref p/\(cy K H p xs\/bx K H p xs)/\jH x=true/\xs.all jH=true/\Q (.bl (if neg then !BS x xs else BS x xs)) H
theorem eN:kJ X (compareOp .In) (Cy X.K false):=by
 intro pins s σ H x y v u Q I rx ry h
 obtain⟨p,xs,rfl,hq,fx,fs,q⟩:=h
 cases ry
 rcases hq with hq|hq
 ·obtain⟨its,r,pl,hz⟩:=I.list hq
  refine SeqAt.in_listAt (sS x) pl.isList (fun w hw=>jj rx fx r fs w (by simpa using hw)) ⟨.bl _,H,I,rfl,?_⟩
  rw[show its.toArray.any (sS x)=its.any (sS x) by simp,j5 r fs]
  exact q
 ·obtain⟨its,r,pl,hz⟩:=I.tuple hq
  refine SeqAt.in_tupleAt (sS x) pl (fun w hw=>jj rx fx r fs w (by simpa using hw)) ⟨.bl _,H,I,rfl,?_⟩
  rw[show its.toArray.any (sS x)=its.any (sS x) by simp,j5 r fs]
  exact q
theorem qk:kJ X (compareOp .NotIn) (Cy X.K true):=by
 intro pins s σ H x y v u Q I rx ry h
 obtain⟨p,xs,rfl,hq,fx,fs,q⟩:=h
 cases ry
 rcases hq with hq|hq
 ·obtain⟨its,r,pl,hz⟩:=I.list hq
  refine SeqAt.notIn_listAt (sS x) pl.isList (fun w hw=>jj rx fx r fs w (by simpa using hw)) ⟨.bl _,H,I,rfl,?_⟩
  rw[show its.toArray.any (sS x)=its.any (sS x) by simp,j5 r fs]
  exact q
 ·obtain⟨its,r,pl,hz⟩:=I.tuple hq
  refine SeqAt.notIn_tupleAt (sS x) pl (fun w hw=>jj rx fx r fs w (by simpa using hw)) ⟨.bl _,H,I,rfl,?_⟩
  rw[show its.toArray.any (sS x)=its.any (sS x) by simp,j5 r fs]
  exact q
theorem aB:fN X (.builtin "len") (fun xs H Q=>∃p ys,xs=[.ref p]/\(cy X.K H p ys\/bx X.K H p ys)/\Q (.int ys.length) H):=by
 intro pins s σ H xs us Q I r h
 obtain⟨p,ys,rfl,hq,q⟩:=h
 obtain⟨u,rfl,rx⟩:=vals1 r
 cases rx
 have hn:=jO
 rcases hq with hq|hq
 ·obtain⟨its,r',pl,hz⟩:=I.list hq
  have hlen:=r'.length
  exact Calls.call_len_list pl.isList (by simp only[List.size_toArray]<;>omega) ⟨.int ys.length,H,I.tok _,⟨s.toks+1,by rw[List.size_toArray,hlen]⟩,q⟩
 ·obtain⟨its,r',pl,hz⟩:=I.tuple hq
  have hlen:=r'.length
  exact len_tuple pl (by simp only[List.size_toArray]<;>omega) ⟨.int ys.length,H,I.tok _,⟨s.toks+1,by rw[List.size_toArray,hlen]⟩,q⟩
theorem j6:fN X (.builtin "len") (fun xs H Q=>∃z,xs=[.str z]/\z.length<=sizeLine/\Q (.int z.length) H):=by
 intro pins s σ H xs us Q I r h
 obtain⟨z,rfl,hz,q⟩:=h
 obtain⟨u,rfl,t,rfl⟩:=vals1 r
 have hn:=jO
 exact len_str (by omega) ⟨.int z.length,H,I.tok _,⟨_,rfl⟩,q⟩
theorem eA:fN X (.type "list") (fun xs H Q=>∃p ys,xs=[.ref p]/\(cy X.K H p ys\/bx X.K H p ys)/\∀l,H l=none->Q (.ref l) (upd H l (.lst ys))):=by
 intro pins s σ H xs us Q I r h
 obtain⟨p,ys,rfl,hq,q⟩:=h
 obtain⟨u,rfl,rx⟩:=vals1 r
 cases rx
 have fin:∀(its:List Value),Vals ys its->ys.length<=sizeLine->∀(h':Heap) (c':Nat),(∀b o',s.heap.get? b=some o'->h'.get? b=some o') ->
   h'.get? s.heap.objs.size=some {cls:=.type "list",dict:=none,data:=.seq its.toArray c',slots:=#[]}->EP X pins σ Q (.ref s.heap.objs.size) {s with heap:=h'}:=fun its r' hz h' c' kp e =>
  ⟨.ref s.heap.objs.size,_,I.laid (t':=s.toks) kp (Nat.le_refl _) (show cW X.prog X.w _ h' _ (.lst ys)from⟨hz,its,c',r',e⟩),rfl,q _ (I.hok.fresh (Nat.le_refl _))⟩
 rcases hq with hq|hq
 ·obtain⟨its,r',pl,hz⟩:=I.list hq
  have hlen:=r'.length
  obtain⟨o,ho,hc,n,hd⟩:=pl.isList
  exact call_list_seq p (.inl rfl) ho hc hd (fun h' c' kp e=>fin its r' hz h' c' kp e) (by simp only[List.size_toArray]<;>omega)
 ·obtain⟨its,r',pl,hz⟩:=I.tuple hq
  have hlen:=r'.length
  obtain⟨o,ho,hc,n,hd⟩:=pl
  exact call_list_seq p (.inr rfl) ho hc hd (fun h' c' kp e=>fin its r' hz h' c' kp e) (by simp only[List.size_toArray]<;>omega)
theorem aL:fN X (.type "tuple") (fun xs H Q=>∃p ys,xs=[.ref p]/\((cy X.K H p ys/\∀l,H l=none->Q (.ref l) (upd H l (.tup ys)))\/(bx X.K H p ys/\Q (.ref p) H))):=by
 intro pins s σ H xs us Q I r h
 obtain⟨p,ys,rfl,h⟩:=h
 obtain⟨u,rfl,rx⟩:=vals1 r
 cases rx
 rcases h with⟨hq,q⟩|⟨hq,q⟩
 ·obtain⟨its,r',pl,hz⟩:=I.list hq
  have hlen:=r'.length
  refine call_tuple_list pl.isList (fun h' kp=>?_) (by simp only[List.size_toArray]<;>omega)
  have I1:Inv X pins σ H {s with heap:=h'}:=I.kept (t':=s.toks) kp
  have I2:Inv X pins σ (upd H h'.objs.size (.tup ys)) {s with heap:=h'.push {cls:=.type "tuple",data:=.seq its.toArray}} :=
   I1.laid (t':=s.toks) (fun b o e=>Heap.get?_push_of_some _ e) (Nat.le_refl _) (show cW X.prog X.w _ _ _ (.tup ys)from⟨hz,its,r',IsTup.new _ _,_,Heap.get?_push_size _ rfl,rfl⟩)
  exact⟨.ref h'.objs.size,_,I2,rfl,q _ (I1.hok.fresh (Nat.le_refl _))⟩
 ·obtain⟨its,r',pl,hz⟩:=I.tuple hq
  exact call_tuple_same pl ⟨.ref p,H,I,rfl,q⟩
noncomputable def Cz(K:PySem.W.Frag)(T:String)(x:V)(H:Hp):Prop:=match x with
 |.str _=>T="str"
 |.int _=>T="int"
 |.ref p=>(T="list"/\∃xs,cy K H p xs)\/(T="tuple"/\∃o,K.lookup p=some o/\o.cls=.type "tuple"/\o.dict=none) \/
   (T="dict"/\((∃kvs,H p=some (.dK kvs))\/∃kvs,H p=some (.dT kvs)))\/(T="set"/\∃S n,H p=some (.set S n))
 |_=>False
theorem wG{pins:List (Addr×Obj)}{σ:St}{H:Hp}{s:Shared}{T:String}{x:V}{v:Value}(I:Inv X pins σ H s)(r:RelV x v)(ty:Cz X.K T x H) :
  s.TypeIs v T/\∀a,v=.ref a->∃ob,s.heap.get? a=some ob/\ob.dict=none:=by
 cases x with
 |str z =>
  obtain⟨t,rfl⟩:=r
  cases(show T="str" from ty)
  exact⟨typeIs_str s z t,fun _ e=>nomatch e⟩
 |int i =>
  obtain⟨t,rfl⟩:=r
  cases(show T="int" from ty)
  exact⟨typeIs_int s i t,fun _ e=>nomatch e⟩
 |ref p =>
  cases r
  rcases ty with⟨rfl,xs,hq⟩|⟨rfl,o,hk,hc,hd⟩|⟨rfl,hk⟩|⟨rfl,S,n,hk⟩
  ·obtain⟨its,_,pl,_⟩:=I.list hq
   refine⟨pl.isList.typeIs,fun a e=>?_⟩
   cases e
   obtain⟨o,n,e,c,hd,_⟩:=pl
   exact⟨o,e,hd⟩
  ·refine⟨⟨o,I.yq p o hk,hc⟩,fun a e=>?_⟩
   cases e
   exact⟨o,I.yq _ o hk,hd⟩
  ·have z:∃o,s.heap.get? p=some o/\o.ExactDict:=by
    rcases hk with⟨kvs,hk⟩|⟨kvs,hk⟩
    ·obtain⟨_,_,_,_,o,_,_,e,ex,_⟩:=I.hok p _ hk
     exact⟨o,e,ex⟩
    ·obtain⟨_,_,_,_,o,_,_,e,ex,_⟩:=I.hok p _ hk
     exact⟨o,e,ex⟩
   obtain⟨o,e,ex⟩:=z
   refine⟨⟨o,e,ex.1⟩,fun a e2=>?_⟩
   cases e2
   exact⟨o,e,ex.2.1⟩
  ·obtain⟨o,_,_,_,e,ex,_⟩:=I.hok p _ hk
   refine⟨⟨o,e,ex.1⟩,fun a e2=>?_⟩
   cases e2
   exact⟨o,e,ex.2.1⟩
 |_=>exact False.elim ty
noncomputable def C0(K:PySem.W.Frag)(T:String)(r:V->List V->Hp->VK->Prop)(to:TE):TE:=fun σ H Q=>to σ H fun x H1=>Cz K T x H1/\r x [] H1 Q
noncomputable def Dz(K:PySem.W.Frag)(T:String)(r:V->List V->Hp->VK->Prop)(to:TE)(t:TA):TE:=fun σ H Q=>to σ H fun x H1=>Cz K T x H1/\t σ H1 fun xs H2=>r x xs H2 Q
variable {o e:Expr}{es:List Expr}{to:TE}{t:TA}{name:Str}{apos cpos:Pos}{T id:String}{r:V->List V->Hp->VK->Prop}
theorem wH(pa:PlainAttrs T)(slot:Slot T name id)(hty:typeOf (.builtin id)=pure (.type "method_descriptor"))(hm:Cw X id r)(ho:PE X o to)
  (hbase:attributeBase o name X.env (eval o X.env)=eval o X.env:=by rfl) (hline:(apos.endLine == cpos.line)=true:=by rfl):PE X (.Call (.Attribute o name apos) [] [] cpos) (C0 X.K T r to):=by
 intro pins s σ H Q I h
 refine wpAny_Call_method0_late hbase hline (cK (ho pins s σ H _ I h) fun v s1 ⟨x,H1,I1,r1,ty,q1⟩=>?_)
 obtain⟨h1,h2⟩:=wG I1 r1 ty
 exact⟨T,id,pa,slot,hty,h1,h2,Calls.callWith_builtin rfl (PySem.evalArgs_none (hm pins s1 σ H1 x [] v [] Q I1 r1 .nil q1))⟩
theorem ue(pa:PlainAttrs T)(slot:Slot T name id)(hty:typeOf (.builtin id)=pure (.type "method_descriptor"))(hm:Cw X id r)(ho:PE X o to)(ha:PA X (e::es) t)
  (hbase:attributeBase o name X.env (eval o X.env)=eval o X.env:=by rfl)
  (hfew:((backTo cpos (starEach (e::es) X.env)).all (fun x=>!x.1)&&(backToKw cpos (keywordEach [] X.env)).all (fun x=>x.1.isSome)
   && decide ((e::es).length+([]:List Keyword).length+(if([]:List Keyword).isEmpty then 0 else 1)<30))=true:=by rfl)
  (hline:(apos.endLine == cpos.line)=true:=by rfl) (hs:starEach (e::es) X.env=(false,eval e X.env)::starEach es X.env:=by rfl) (hplain:(backTo cpos (starEach es X.env)).any (·.1)=false:=by rfl) :
  PE X (.Call (.Attribute o name apos) (e::es) [] cpos) (Dz X.K T r to t):=by
 intro pins s σ H Q I h
 refine wpAny_Call_method_late hbase hfew hline rfl (cK (ho pins s σ H _ I h) fun v s1 ⟨x,H1,I1,r1,ty,q1⟩=>?_)
 obtain⟨h1,h2⟩:=wG I1 r1 ty
 refine⟨T,id,pa,slot,hty,h1,h2,?_⟩
 have hA:=ha cpos pins s1 σ H1 _ I1 q1
 rw[hs]at hA⊢
 refine Calls.callWith_builtin (by show(false||(backTo cpos (starEach es X.env)).any (·.1))=false;rw[hplain]<;>rfl) (Calls.evalArgs_plain ?_)
 exact cK hA fun us s2 ⟨vs,H2,I2,r2,q2⟩=>hm pins s2 σ H2 x vs v us Q I2 r1 r2 q2
/- xs.append(e),list.index on a module's tuple .. are Cw facts of 06m -/
end
noncomputable def CA(X:Cx)(id:String)(r:V->List V->Hp->VK->Prop):Prop :=
 ∀(pins:List (Addr×Obj)) (s:Shared) (σ:St) (H:Hp) (x:V) (xs:List V) (v:Value) (us:List Value) (Q:VK),Inv X pins σ H s->RelV x v->Vals xs us->r x xs H Q ->
  wpAny (model X.prog X.w) X.A (call (.builtin id) (v::us)) (EP X pins σ Q) X.xe s
theorem Vals.one:∀{x:V}{us:List Value},Vals [x] us->∃u,us=[u]/\RelV x u
 |_,_,.cons r .nil=>⟨_,rfl,r⟩
theorem Vals.zero:∀{us:List Value},Vals [] us->us=[]
 |_,.nil=>rfl
theorem Vals.dropLast{xs:List V}{us:List Value}(h:Vals xs us):Vals xs.dropLast us.dropLast:=by
 induction h with
 |nil=>exact .nil
 |cons r t ih =>
  cases t with
  |nil=>exact .nil
  |cons q t'=>exact .cons r ih
theorem sU{α:Type}(l:List α):l.eraseIdx (l.length-1)=l.dropLast:=by
 induction l with
 |nil=>rfl
 |cons a r ih =>
  cases r with
  |nil=>rfl
  |cons b r =>
   have e:(a::b::r).length-1=((b::r).length-1)+1:=by
    have h1:(a::b::r).length=r.length+2:=rfl
    have h2:(b::r).length=r.length+1:=rfl
    omega
   rw[e,List.eraseIdx_cons_succ,ih]
   all_goals rfl
section
variable {X:Cx}{pins:List (Addr×Obj)}{σ:St}{H:Hp}{s:Shared}{l b:Addr}{xs ys zs:List V}
theorem Inv.yH{its its':List Value}{n:Nat}{f:Array Value->Array Value}{t':Nat}(I:Inv X pins σ H s)(hH:H l=some (.lst xs))
  (e:s.heap.get? l=some {cls:=.type "list",data:=.seq its.toArray n}) (hf:f its.toArray=its'.toArray) (hv:Vals ys its') (hz:ys.length<=sizeLine) :
  Inv X pins σ (upd H l (.lst ys)) {s with heap:=s.heap.update l (Obj.mapSeq f),toks:=t'}:=by
 have q:=PySem.IsL.update e f
 rw[hf]at q
 refine I.write (x:=l) (e:=l) (by rw[hH];exact trivial) (.inl rfl) (fun b' u hb hu=>(Heap.get?_update_other s.heap (Obj.mapSeq f) (Ne.symm hb)).trans hu) ⟨_,q⟩ ?_
 exact⟨hz,its',_,hv,q⟩
theorem Inv.C1{its:List Value}{t':Nat}(I:Inv X pins σ H s)(hv:Vals ys its)(hz:ys.length<=sizeLine) :
  Inv X pins σ (upd H s.heap.objs.size (.lst ys)) {s with heap:=s.heap.push {cls:=.type "list",data:=.seq its.toArray},toks:=t'} :=
 I.laid (fun _ _ q=>Heap.get?_push_of_some _ q) (Nat.le_refl _) ⟨hz,its,0,hv,Heap.get?_push_size _ rfl⟩
theorem Inv.fresh(I:Inv X pins σ H s):H s.heap.objs.size=none:=I.hok.fresh (Nat.le_refl _)
theorem Inv.sV(I:Inv X pins σ H s)(hH:H l=some (.lst xs)):xs.length<=sizeLine/\∃(its:List Value) (n:Nat),Vals xs its/\xs.length=its.length/\s.heap.get? l=some {cls:=.type "list",data:=.seq its.toArray n}:=by
 obtain⟨z,its,n,r,e⟩:=I.hok l _ hH
 exact⟨z,its,n,r,r.length,e⟩
theorem wI{n:Nat}(h:n<=sizeLine):Builtin.List.listTooLong n=false:=by
 unfold Builtin.List.listTooLong
 exact decide_eq_false (by omega)
end
section
variable {X:Cx}
noncomputable def yI:V->List V->Hp->VK->Prop:=fun x vs H Q=>∃l xs y,x=.ref l/\vs=[y]/\H l=some (.lst xs)/\xs.length<sizeLine/\Q .gp (upd H l (.lst (xs++[y])))
theorem bG:CA X "list.append" yI:=by
 intro pins s σ H x vs v us Q I rx rv h
 obtain⟨l,xs,y,rfl,rfl,hH,hz,q⟩:=h
 cases rx
 obtain⟨u,rfl,ru⟩:=rv.one
 obtain⟨z,its,n,r,hl,e⟩:=I.sV hH
 refine call_meets F.slot_list_append ⟨_,e,rfl⟩ F.entry_list_append (F.args_list_append_2 _ _) (PySem.list_append l its.toArray n u (by rw[List.size_toArray];omega)) ⟨e,?_⟩
 refine⟨.gp,_,I.yH (its':=its++[u]) hH e (by simp) (r.append (.cons ru .nil)) ?_,rfl,q⟩
 rw[List.length_append,List.length_singleton]
 omega
noncomputable def yJ:V->List V->Hp->VK->Prop:=fun x vs H Q=>∃l b xs zs,x=.ref l/\vs=[.ref b]/\H l=some (.lst xs)/\H b=some (.lst zs)/\xs.length+zs.length<=sizeLine/\Q .gp (upd H l (.lst (xs++zs)))
theorem eO:CA X "list.extend" yJ:=by
 intro pins s σ H x vs v us Q I rx rv h
 obtain⟨l,b,xs,zs,rfl,rfl,hH,hB,hz,q⟩:=h
 cases rx
 obtain⟨u,rfl,ru⟩:=rv.one
 cases ru
 obtain⟨z,its,n,r,hl,e⟩:=I.sV hH
 obtain⟨z2,its2,n2,r2,hl2,e2⟩:=I.sV hB
 have hsz:its.toArray.size+its2.toArray.size<=sizeLine:=by rw[List.size_toArray,List.size_toArray];omega
 have hlong:¬(!its.toArray.isEmpty&&Builtin.List.listTooLong (its.toArray.size+its2.toArray.size))=true:=by
  rw[wI hsz,Bool.and_false]
  exact Bool.false_ne_true
 refine call_meets F.slot_list_extend ⟨_,e,rfl⟩ F.entry_list_extend (F.args_list_extend_2 _ _)
  (AutoSeq1.list_extend_list_list_0 l its.toArray n b its2.toArray n2 hlong (by rw[List.size_toArray];omega) (by omega)) ⟨e,e2,?_⟩
 refine⟨.gp,_,I.yH (its':=its++its2) hH e (by simp) (r.append r2) ?_,rfl,q⟩
 rw[List.length_append]
 omega
noncomputable def C2:V->List V->Hp->VK->Prop:=fun x vs H Q=>∃l xs y,x=.ref l/\vs=[]/\H l=some (.lst xs)/\xs[xs.length-1]?=some y/\Q y (upd H l (.lst xs.dropLast))
theorem AL:CA X "list.pop" C2:=by
 intro pins s σ H x vs v us Q I rx rv h
 obtain⟨l,xs,y,rfl,rfl,hH,hy,q⟩:=h
 cases rx
 have hus:=rv.zero
 subst hus
 obtain⟨z,its,n,r,hl,e⟩:=I.sV hH
 obtain⟨u,hu,ru⟩:=r.get hy
 have hy':its.toArray[its.toArray.size-1]?=some u:=by
  show its.toArray[its.length-1]?=some u
  rw[←Array.getElem?_toList,←hl]
  exact hu
 refine call_meets F.slot_list_pop ⟨_,e,rfl⟩ F.entry_list_pop (F.args_list_pop_1 _) (MeetsSeq.list_pop_last l its.toArray n u hy' (by rw[List.size_toArray];omega)) ⟨e,?_⟩
 refine⟨y,_,I.yH (its':=its.dropLast) hH e ?_ r.dropLast ?_,ru,q⟩
 ·show its.toArray.eraseIdxIfInBounds (its.toArray.size-1)=its.dropLast.toArray
  rw[List.size_toArray,List.eraseIdxIfInBounds_toArray,sU]
 ·rw[List.length_dropLast]
  omega
noncomputable def AM:V->List V->Hp->VK->Prop:=fun x vs H Q=>∃l xs,x=.ref l/\vs=[]/\H l=some (.lst xs)/\Q .gp (upd H l (.lst []))
theorem wJ:CA X "list.clear" AM:=by
 intro pins s σ H x vs v us Q I rx rv h
 obtain⟨l,xs,rfl,rfl,hH,q⟩:=h
 cases rx
 have hus:=rv.zero
 subst hus
 obtain⟨z,its,n,r,hl,e⟩:=I.sV hH
 refine call_meets F.slot_list_clear ⟨_,e,rfl⟩ F.entry_list_clear (F.args_list_clear_1 _) (AutoSeq1.list_clear_list_0 l its.toArray n (by rw[List.size_toArray];omega)) ⟨e,?_⟩
 exact⟨.gp,_,I.yH (its':=[]) (ys:=[]) hH e rfl .nil (Nat.zero_le _),rfl,q⟩
noncomputable def BU:R2:=fun x y H Q=>∃l b xs zs,x=.ref l/\y=.ref b/\H l=some (.lst xs)/\H b=some (.lst zs)/\xs.length+zs.length<=sizeLine/\∀p,H p=none->Q (.ref p) (upd H p (.lst (xs++zs)))
theorem mU:kJ X (binaryOp .Add) BU:=by
 intro pins s σ H x y v u Q I rx ry h
 obtain⟨l,b,xs,zs,rfl,rfl,hH,hB,hz,q⟩:=h
 cases rx
 cases ry
 obtain⟨z,its,n,r,hl,e⟩:=I.sV hH
 obtain⟨z2,its2,n2,r2,hl2,e2⟩:=I.sV hB
 refine PySem.P.add_list e e2 ?_ (by rw[List.size_toArray,List.size_toArray];omega)
 have ea:its.toArray++its2.toArray=(its++its2).toArray:=by simp
 rw[ea]
 exact⟨.ref _,_,I.C1 (t':=s.toks) (r.append r2) (by rw[List.length_append];omega),rfl,q _ I.fresh⟩
end
section
variable {prog:Program}{w:World}{A:Around}{E:Value->Shared->Prop}{s:Shared}
end
section
variable {X:Cx}
end
end L2
namespace Att
open PySem PySem.W PySem.Calls PyProof.Rows
theorem lR{P:Params}{h:Heap}:∀(ns:List Int) (vs:List Value),WellAll P h vs (ns.map WData.int)->IntsAre vs ns:=by
 intro ns
 induction ns with
 |nil =>
  intro vs w
  rw[List.map_nil]at w
  cases w
  exact .nil
 |cons n ns ih =>
  intro vs w
  rw[List.map_cons]at w
  cases w with
  |cons a b =>
   cases a
   exact .cons _ _ (ih _ b)
theorem vn{l:OpenLaw}{n:Nat}(hn:l.most=some n){P:Params}{h:Heap}{args:List WData}{vals:List Value}
  (hpre:l.row.toRowW.claim.pre args=true) (hwl:WellAll P h vals args) :
  ∃a vs ns,vals=[Value.ref a]/\args=[WData.list (ns.map WData.int)]/\h.get? a=some {cls:=.type "list",data:=.seq vs.toArray}/\IntsAre vs ns/\ns.length<=n:=by
 have hsh:WShape.hasAll [] args [.list .int]=true:=(pre_splitW hpre).1
 have hc:l.pre.holds [] {args:=args}=true:=(pre_splitW hpre).2
 obtain⟨d,r,rfl,h1,h2⟩:=hasAllW_cons hsh
 obtain rfl:=hasAllW_nil h2
 obtain⟨xs,rfl,h3⟩:=hasW_list h1
 obtain⟨ns,rfl⟩:=items_int h3
 have hlen:ns.length<=n:=by
  unfold OpenLaw.pre at hc
  have h4:(WTm.not (.lt (.lit (.int (n:Int))) (.len (.arg 0)))).holds [] {args:=[.list (ns.map .int)]}=true:=by
   have h4:=(holds_andW hc).1
   rw[hn]at h4
   exact h4
  have h5:=condW_of h4 (w_not (w_lt w_lit (w_len_list (w_arg rfl))))
  rw[List.length_map]at h5
  refine Nat.le_of_not_lt fun q=>?_
  have q':(n:Int)<((ns.length:Nat):Int):=by omega
  first
   |(rw[decide_eq_true q']at h5;exact absurd h5 (by decide))
   |(simp at h5;omega)
 cases hwl with
 |cons w1 w2 =>
  cases w2
  cases w1 with
  |list ho hall=>exact⟨_,_,ns,rfl,rfl,ho,lR ns _ hall,hlen⟩
theorem vo(l:OpenLaw)(args:List WData):l.row.toRowW.claim.post args (.bool true) args=true :=
 postW_of (r:=l.row.toRowW) (X:=(true == true))
  (show WShape.has [] (.bool true) .bool=true by first|rfl|decide|simp[WShape.has,WShape.arms,WShape.armsAll])
  (show(WTm.eq .res (.lit (.bool true))).value [] {args:=args,res:=some (.bool true),after:=args}=some (.bool (true == true))from w_eq_bool (w_res rfl) w_lit) rfl
theorem qX{l:OpenLaw}{n:Nat}{q:Program}{loose:List Str}{XP:(Str->Option Value)->Heap->Prop}{YP:World->Heap->Prop}{d:DefRec}
  (hn:l.most=some n) (hdf:d.params.defaults=[])
  (call:∀(w:World) (s₀ s₁:Shared) (mg mb:Str->Option Value) (fa:Addr) (o:Obj) (pm cd doc:Value) (a:Addr) (vs:List Value) (ns:List Int),
   Ground q loose [] XP w s₀ mg mb s₁.heap->YP w s₁.heap ->
   s₁.heap.get? fa=some o->o.data=.func (docDef d.name d.params d.body d.scope pm cd doc)->s₁.heap.CodeRec cd d.name->mg d.name=some (.ref fa) ->
   s₁.heap.get? a=some {cls:=.type "list",data:=.seq vs.toArray}->IntsAre vs ns->ns.length<=n->s₁.gens=#[] ->
   codeAny (model l.prog w) callerA (.call (.ref fa) ⟨[.ref a],[]⟩) (fun r s'=>r=.ok (.ret (.bool true))/\OldK s₁.heap s'.heap/\s'.os=s₁.os/\AllBare s'.gens) s₁) :
  WalkO q loose XP YP l.row.toRowW d [] (fun f vs=>PySem.call f vs):=by
 intro w s₀ s₁ mg mb G Y fa o pm cd doc dV kV ho hd hcd hD hmg hg args vals as hpre hlay hrd hwl hlo
 obtain rfl:dV=.none:=Dflts.none hD hdf
 obtain rfl:kV=.none:=Dflts.noKw hD
 obtain⟨a,vs,ns,rfl,rfl,hobj,hints,hlen⟩:=vn hn hpre hwl
 refine enter_call (codeAny_mono (call w s₀ s₁ mg mb fa o pm cd doc a vs ns G Y ho (fd_plain hd) hcd hmg hobj hints hlen hg) fun r s' hq=>?_)
 obtain⟨rfl,h2,h3,h4⟩:=hq
 exact⟨.inl ⟨.bool true,.bool true,[],rfl,fun _=>rfl,.bool true,vo l _,fun _=>⟨List.Pairwise.nil,fun _ hm=>(nomatch hm)⟩⟩,h2,h3,h4⟩
section
variable {prog:Program}{w:World}{A:Around}{E:Value->Shared->Prop}{s:Shared}{K:Frag}
end
end Att
namespace L2
open PySem PySem.Spec PyProof.Rows
theorem oU:∀{vs:List Value}{ns:List Int},IntsAre vs ns->Vals (ns.map V.int) vs
 |_,_,.nil=>.nil
 |_,_,.cons n t h=>.cons ⟨t,rfl⟩ (oU h)
noncomputable def AN(H:Hp):Prop:=∀b,H b=none\/∃o xs,H b=some (.frz o (.lst xs))
theorem wK{P:Program}{w:World}{K:PySem.W.Frag}{mg mb:Str->Option Value}{CX:vX}{k:Nat}{fa a:Addr}{fd:FuncData}{x:Str}{sp:Sp}{s₁:Shared}{vs:List Value}{ns:List Int}
  (KX:K.In s₁.heap) (hns:s₁.heap.Ns mainGlobals mg) (hb:s₁.heap.Ns builtinsNs mb) (hbb:∀x:Str,x≠"__name__"->mb x=bootBuiltins x) (hlim:s₁.heap.NoLimit) (hg:s₁.gens=#[])
  (ha:s₁.heap.get? a=some {cls:=.type "list",data:=.seq vs.toArray}) (hi:IntsAre vs ns) (hl:ns.length<=sizeLine) (hr:iq k callerA)
  (F:∀base:Heap,K.In base->base.Ns mainGlobals mg->bT P w K mg base CX k fa fd [x] sp) (hbind:∀(s:Shared) (u:Value),BindsTo s fd ⟨[u],[]⟩ [(x,u)])
  (hsp:∀H:Hp,AN H->cy K H a (ns.map V.int)->sp [.ref a] H (fun v _=>v=.bl true) fun _ _ _=>False)
  (hCX:∀H e s',CX [] H s₁ (fun _ _ _=>False) e s'->False) :
  codeAny (model P w) callerA (.call (.ref fa) ⟨[.ref a],[]⟩) (fun r s'=>r=.ok (.ret (.bool true))/\OldK s₁.heap s'.heap/\s'.os=s₁.os/\AllBare s'.gens) s₁:=by
 have rv:=oU hi
 have lenV:=hi.length
 -- from an abstract heap in which nothing but the script may be tracked
 have core:∀H:Hp,AN H->cy K H a (ns.map V.int)->jY P w H s₁.heap->(∀b,H b≠none->b=a)->(H a≠none->K.lookup a=none) ->
   codeAny (model P w) callerA (.call (.ref fa) ⟨[.ref a],[]⟩) (fun r s'=>r=.ok (.ret (.bool true))/\OldK s₁.heap s'.heap/\s'.os=s₁.os/\AllBare s'.gens) s₁:=by
  intro H hO hS hok hA hK
  have base_of:∀{b:Addr}{o:Obj},s₁.heap.get? b=some o->H b=none->(pW s₁.heap H).get? b=some o:=fun e n=>vZ e n
  have noA:∀{b:Addr}{o:Obj}{es:Array DictEntry}{ep:Nat},s₁.heap.get? b=some o->o.data=.dict es ep->H b=none:=fun{b o es ep} e d=>by
   cases q:H b with
   |none=>rfl
   |some u =>
    have e':b=a:=hA b (by rw[q];simp)
    subst e'
    rw[ha]at e;cases e
    have d':Data.seq vs.toArray _=Data.dict es ep:=d
    cases d'
  have nsK:∀{b:Addr}{m:Str->Option Value},s₁.heap.Ns b m->(pW s₁.heap H).Ns b m:=fun{b m} ⟨o,es,ep,e,d,r⟩=>⟨o,es,ep,base_of e (noA e d),d,r⟩
  have hKb:K.In (pW s₁.heap H):=fun b o e=>base_of (KX b o e) (by
   cases q:H b with
   |none=>rfl
   |some u =>
    have e':b=a:=hA b (by rw[q];simp)
    subst e'
    rw[hK (by rw[q];simp)]at e;cases e)
  have hM:Mod K mg (pW s₁.heap H):=⟨hKb,nsK hns,⟨mb,nsK hb,hbb⟩,let⟨mc,h1,h2⟩:=hlim;⟨mc,nsK h1,h2⟩⟩
  have e0:yC P w K mg (pW s₁.heap H) callerA [] s₁ H:=⟨rfl,hM,fun b o e=>yu e,Nat.le_of_eq (uX _ _),trivial,fun b hb=>absurd (show b∈([]:List Addr)from hb) (by simp),hok,.of_eq hg⟩
  refine codeAny_mono ((F _ hKb (nsK hns)).run callerA [] s₁ H ⟨[.ref a],[]⟩ [.ref a] [.ref a] _ _ hr e0 (hbind s₁ (.ref a)) (.cons rfl .nil) (hsp H hO hS)) fun r s' h=>?_
  cases r with
  |error e=>exact(hCX H e s' h).elim
  |ok fl =>
   cases fl with
   |next=>exact False.elim h
   |brk=>exact False.elim h
   |cont=>exact False.elim h
   |ret u =>
    obtain⟨v,H',os,bare,un,hok',r',q⟩:=h
    have q':v=.bl true:=q
    subst q'
    obtain rfl:u=Value.bool true:=r'
    refine⟨rfl,OldK.of_keep fun b o e=>?_,os,bare⟩
    cases q:H b with
    |none=>exact un.keep b o e q (by intro z;exact absurd (show b∈([]:List Addr)from z) (by simp)) (by simp)
    |some u =>
     rcases hO b with z|⟨ob,xs,z⟩
     ·rw[q]at z;cases z
     ·have z2:=un.frzs b ob _ z
      obtain⟨e1,_⟩:=hok b _ z
      obtain⟨e2,_⟩:=hok' b _ z2
      rw[e]at e1;cases e1
      exact e2
 cases hk:K.lookup a with
 |some o =>
  -- the script is one of the module's own objects
  have e:=KX a o hk
  rw[ha]at e
  cases e
  refine core (fun _=>none) (fun _=>.inl rfl) (.inr ⟨_,vs.toArray,_,hk,rfl,rfl,rfl,by rw[List.size_toArray,lenV];exact hl,by simpa using rv⟩) (fun b u z=>by have z':(none:Option HO)=some u:=z;cases z') (fun b z=>absurd rfl z) fun z=>absurd rfl z
 |none =>
  refine core (fun b=>if b=a then some (.frz {cls:=.type "list",data:=.seq vs.toArray} (.lst (ns.map V.int)))else none) (fun b=>?_) (.inl (.inr ⟨{cls:=.type "list",data:=.seq vs.toArray},if_pos rfl⟩)) (fun b u z=>?_) (fun b z=>?_) fun _=>hk
  ·by_cases hb:b=a
   ·exact .inr ⟨_,_,if_pos hb⟩
   ·exact .inl (if_neg hb)
  ·by_cases hb:b=a
   ·have z':=(if_pos hb).symm.trans z
    cases z'
    subst hb
    exact⟨ha,by rw[List.length_map];exact hl,vs,_,rv,ha⟩
   ·have z':=(if_neg hb).symm.trans z
    cases z'
  ·by_cases hb:b=a
   ·exact hb
   ·exact absurd (if_neg hb) z
theorem yK{l:PySem.W.OpenLaw}{n k:Nat}{q:Program}{loose:List Str}{XP:(Str->Option Value)->Heap->Prop}{YP:World->Heap->Prop}{d:DefRec}{K:Params->PySem.W.Frag}{CX:World->vX}{sp:World->Sp}{x:Str}
  (hn:l.most=some n) (hn2:n<=sizeLine) (hdf:d.params.defaults=[]) (hr:iq k callerA)
  (hY:∀(w:World) (h:Heap),YP w h->(K w.params).In h)
  (F:∀(w:World) (mg:Str->Option Value) (fa:Addr) (h:Heap),(K w.params).In h->h.Ns mainGlobals mg->mg d.name=some (.ref fa) ->
   ∃fd:FuncData,(∀(s:Shared) (u:Value),BindsTo s fd ⟨[u],[]⟩ [(x,u)]) /\
    ∀base:Heap,(K w.params).In base->base.Ns mainGlobals mg->bT l.prog w (K w.params) mg base (CX w) k fa fd [x] (sp w))
  (hsp:∀(w:World) (H:Hp) (a:Addr) (ns:List Int),ns.length<=n->AN H->cy (K w.params) H a (ns.map V.int)->sp w [.ref a] H (fun v _=>v=.bl true) fun _ _ _=>False)
  (hCX:∀(w:World) (H:Hp) (s:Shared) (e:Value) (s':Shared),CX w [] H s (fun _ _ _=>False) e s'->False) :
  PySem.W.WalkO q loose XP YP l.row.toRowW d [] (fun f vs=>PySem.call f vs):=by
 refine Att.qX hn hdf fun w s₀ s₁ mg mb fa o pm cd doc a vs ns G Y ho hd hcd hmg hobj hints hlen hg=>?_
 have KX:=hY w _ Y
 obtain⟨fd,hb,hF⟩:=F w mg fa _ KX G.T.g hmg
 exact wK KX G.T.g G.T.b G.T.builtins G.T.nolimit hg hobj hints (Nat.le_trans hlen hn2) hr hF hb (fun H hO hS=>hsp w H a ns hlen hO hS) fun H e s'=>hCX w H s₁ e s'
noncomputable def jD(s:Stmt):Arguments:=match s with
 |.FunctionDef _ a _ _ _ _ _ _ _ _=>a
 |_=>{posonlyargs:=[],args:=[],vararg:=none,kwonlyargs:=[],kw_defaults:=[],kwarg:=none,defaults:=[]}
noncomputable def bI(s:Stmt):List Stmt:=match s with
 |.FunctionDef _ _ b _ _ _ _ _ _ _=>b
 |_=>[]
noncomputable def ak(s:Stmt):Scope:=match s with
 |.FunctionDef _ _ _ _ _ _ sc _ _ _=>sc
 |_=>{kind:=.function,names:=[],isGenerator:=false,isCoroutine:=false}
noncomputable abbrev fk:vX:=fun _ _ _ _ _ _=>False
noncomputable abbrev E0:XK:=fun _ _ _=>False
theorem jm{X:Cx}:Passes fk X E0:=fun _ _ _ _ _ _ _ h=>h.elim
structure fJ(K:PySem.W.Frag) (x qual:Str) (st:Stmt) (f:Addr) (fd:FuncData):Prop where
 ex:∃(oc:Value) (od:Option Addr) (kV doc pm:Value) (an:Option Addr) (cdv ct:Value) (osl:Array (Option Value)),
  fd=PySem.W.fnOf x qual (jD st) (bI st) (ak st) .none kV doc pm an cdv ct/\K.lookup f=some ⟨oc,od,.func fd,osl⟩/\PySem.W.codeIn K cdv qual=true
 kp:PySem.W.keepIn K (.ref f)=true
section
variable {P:Program}{w:World}{K:PySem.W.Frag}{mg:Str->Option Value}{base:Heap}
theorem fJ.ok{x qual:Str}{st:Stmt}{f:Addr}{fd:FuncData}{N ps:List Str}{k:Nat}{sp:Sp}(F:fJ K x qual st f fd)(S:aN N ps (ak st))(len:∀vs H Q E,sp vs H Q E->vs.length=ps.length)
  (hbody:∀(cdv:Value) (A:Around) (outer:List Env) (s:Shared) (H:Hp) (vs:List V) (Q:VK) (E:XK),iq k (A.deeper (envOfC qual (ak st) s.heap.objs.size f cdv))->sp vs H Q E ->
   ∃t,uZ (sJ fk P w K mg base N qual (ak st) f cdv A outer s H E).Bw (bI st) t/\t {nx:=fun _ H'=>Q .gp H',rt:=Q} (start N vs) H):bT P w K mg base fk (k+1) f fd ps sp:=by
 obtain⟨oc,od,kV,doc,pm,an,cdv,ct,osl,rfl,lk,hcd⟩:=F.ex
 refine BK lk hcd S len fun A outer s H vs Q E hr hsp=>?_
 obtain⟨t,h,q⟩:=hbody cdv A outer s H vs Q E hr hsp
 exact⟨t,h.Bw,q⟩
theorem fJ.binds{x qual:Str}{st:Stmt}{f:Addr}{fd:FuncData}{ps:List Str}(F:fJ K x qual st f fd)
  (h:∀(kV doc pm:Value) (an:Option Addr) (cdv ct:Value) (us:List Value),us.length=ps.length->bindArgs (PySem.W.fnOf x qual (jD st) (bI st) (ak st) .none kV doc pm an cdv ct) ⟨us,[]⟩=pure (ps.zip us)):Binds K fd ps []:=by
 obtain⟨oc,od,kV,doc,pm,an,cdv,ct,osl,rfl,lk,hcd⟩:=F.ex
 exact .all (h kV doc pm an cdv ct)
end
theorem oV{A:Around}{k:Nat}(hr:iq k A):A.units+1<cLine:=Nat.lt_of_le_of_lt (Nat.add_le_add_left (by decide:1<=64) _) hr.units
theorem aZ{n:Nat}(h:n<=1000):n<sizeLine:=Nat.lt_of_le_of_lt h (by decide)
section
variable {X:Cx}
theorem pv(i:Nat){x:Str}{pos:Pos}(hN:X.N[i]?=some x:=by rfl)(hv:Cu X.env.scope x:=by first|exact Or.inl rfl|exact Or.inr (Or.inl rfl)|exact Or.inr (Or.inr rfl))(hd:(x == ("__debug__":Str))=false:=by decide)
  (hcd:(x == ("__classdict__":Str))=false:=by decide):PE X (.Name x pos) (iN i):=wc hN hv hd hcd
end
theorem ck{c A B:Prop}[Decidable c](h1:c->A)(h2:¬c->B):if c then A else B:=by
 by_cases h:c
 ·rw[if_pos h]
  exact h1 h
 ·rw[if_neg h]
  exact h2 h
noncomputable def aI(H H':Hp):Prop:=∀b o,H b=some o->H' b=some o
theorem aI.refl(H:Hp):aI H H:=fun _ _ h=>h
theorem aI.trans{H H1 H2:Hp}(a:aI H H1)(b:aI H1 H2):aI H H2:=fun c o h=>b c o (a c o h)
theorem aI.free{H H':Hp}(e:aI H H'){l:Addr}(h:H' l=Option.none):H l=Option.none:=by
 cases q:H l with
 |none=>rfl
 |some o =>
  rw[e l o q]at h
  cases h
theorem aI.seq{K:PySem.W.Frag}{H H':Hp}{a:Addr}{xs:List V}(e:aI H H')(h:cy K H a xs):cy K H' a xs:=by
 rcases h with(h|⟨o,h⟩)|h
 ·exact .inl (.inl (e _ _ h))
 ·exact .inl (.inr ⟨o,e _ _ h⟩)
 ·exact .inr h
section
variable {κ:Type} [DecidableEq κ]
noncomputable def eK(kvs:List (κ×V))(k:κ):Option V:=(kvs.find? fun kv=>decide (kv.1=k)).map (·.2)
noncomputable def putK(kvs:List (κ×V))(k:κ)(v:V):List (κ×V) :=
 if(kvs.any fun kv=>decide (kv.1=k))=true then kvs.map (fun kv=>if kv.1=k then(kv.1,v)else kv)else kvs++[(k,v)]
theorem mV{p:κ×V}{r:List (κ×V)}{k:κ}(e:p.1=k):eK (p::r) k=some p.2:=by simp[eK,List.find?_cons,e]
theorem mW{p:κ×V}{r:List (κ×V)}{k:κ}(e:¬p.1=k):eK (p::r) k=eK r k:=by simp[eK,List.find?_cons,e]
theorem qY(k:κ):∀kvs:List (κ×V),(kvs.any fun kv=>decide (kv.1=k))=(eK kvs k).isSome
 | []=>rfl
 |p::r=>by
  rw[List.any_cons]
  by_cases e:p.1=k
  ·simp only[mV e,decide_eq_true e,Bool.true_or,Option.isSome_some]
  ·rw[mW e,decide_eq_false e,Bool.false_or];exact qY k r
theorem jq(kvs:List (κ×V))(k:κ)(v:V):(putK kvs k v).length<=kvs.length+1:=by
 unfold putK
 split
 ·rw[List.length_map];omega
 ·rw[List.length_append,List.length_cons,List.length_nil];omega
theorem jc.vt{o:Option V}{u:Option Value}(r:jc o u):o.isSome=u.isSome:=by
 cases o with
 |none=>cases u with
  |none=>rfl
  |some _=>exact(show False from r).elim
 |some _=>cases u with
  |none=>exact(show False from r).elim
  |some _=>rfl
theorem jc.getD{o:Option V}{u:Option Value}{d:V}{d':Value}(r:jc o u)(rd:RelV d d'):RelV (o.getD d) (u.getD d'):=by
 cases o with
 |none=>cases u with
  |none=>exact rd
  |some _=>exact(show False from r).elim
 |some _=>cases u with
  |none=>exact(show False from r).elim
  |some _=>exact r
theorem KV.val{kvs:List (κ×V)}{vs:List (κ×Value)}(r:KV kvs vs)(k:κ):jc (eK kvs k) (valueAt vs k):=by
 unfold KV at r
 induction r with
 |nil=>exact True.intro
 |@cons p q ps qs h t ih =>
  obtain⟨h1,h2⟩:=h
  by_cases e:p.1=k
  ·have e':q.1=k:=h1.symm.trans e
   have b:valueAt (q::qs) k=some q.2:=by simp[valueAt,List.find?_cons,e']
   rw[mV e,b];exact h2
  ·have e':¬q.1=k:=fun z=>e (h1.trans z)
   have b:valueAt (q::qs) k=valueAt qs k:=by simp[valueAt,List.find?_cons,e']
   rw[mW e,b];exact ih
theorem KV.any{kvs:List (κ×V)}{vs:List (κ×Value)}(r:KV kvs vs)(k:κ):(kvs.any fun kv=>decide (kv.1=k))=vs.any fun kv=>decide (kv.1=k):=by
 unfold KV at r
 induction r with
 |nil=>rfl
 |cons h t ih=>rw[List.any_cons,List.any_cons,ih,h.1]
theorem KV.repl{kvs:List (κ×V)}{vs:List (κ×Value)}(r:KV kvs vs)(k:κ){y:V}{u:Value}(ry:RelV y u) :
  KV (kvs.map fun kv=>if kv.1=k then(kv.1,y)else kv) (vs.map fun kv=>if kv.1=k then(kv.1,u)else kv):=by
 unfold KV at r⊢
 induction r with
 |nil=>exact .nil
 |@cons p q ps qs h t ih =>
  rw[List.map_cons,List.map_cons]
  refine .cons ?_ ih
  obtain⟨h1,h2⟩:=h
  by_cases e:p.1=k
  ·rw[if_pos e,if_pos (h1.symm.trans e)];exact⟨h1,ry⟩
  ·rw[if_neg e,if_neg (fun z=>e (h1.trans z))];exact⟨h1,h2⟩
theorem KV.put{kvs:List (κ×V)}{vs:List (κ×Value)}(r:KV kvs vs)(k:κ){y:V}{u:Value}(ry:RelV y u):KV (putK kvs k y) (stored vs k u):=by
 unfold putK stored
 rw[r.any k]
 by_cases e:(vs.any fun kv=>decide (kv.1=k))=true
 ·rw[if_pos e,if_pos e];exact r.repl k ry
 ·rw[if_neg e,if_neg e];exact Paired.snoc r ⟨rfl,ry⟩
theorem KV.length{kvs:List (κ×V)}{vs:List (κ×Value)}(r:KV kvs vs):kvs.length=vs.length:=Paired.length r
end
theorem oW{P:Program}{w:World}{k:Key}{u:Value}(r:RelV (kV k) u):(cz P w).is k u=true:=by
 cases k with
 |inl i=>obtain⟨t,e⟩:=(show ∃t,u=Value.int i t from r);subst e;exact qO P w i t
 |inr x=>obtain⟨t,e⟩:=(show ∃t,u=Value.str x t from r);subst e;exact qP P w x t
theorem oX{P:Program}{w:World}:∀{ks:List Key}{us:List Value},Vals (ks.map kV) us->ItemsAre (cz P w) ks us
 | [],_,r=>by rw[List.map_nil]at r;cases r;exact .nil
 |k::ks,_,r=>by
  rw[List.map_cons]at r
  cases r with
  |cons h t=>exact .cons (oW h) (oX t)
noncomputable abbrev KT(H:Hp):List (List Key×V)->List (List Key×Addr×Value)->Prop:=Paired fun p q=>p.1=q.1/\H q.2.1=some (.tup (p.1.map kV))/\RelV p.2 q.2.2
theorem KT.val{H:Hp}{kvs:List (List Key×V)}{xs:List (List Key×Addr×Value)}(r:KT H kvs xs)(k:List Key):jc (eK kvs k) ((atKey xs k).map (·.2)):=by
 induction r with
 |nil=>exact True.intro
 |@cons p q ps qs h t ih =>
  obtain⟨h1,_,h2⟩:=h
  by_cases e:p.1=k
  ·have e':q.1=k:=h1.symm.trans e
   have b:atKey (q::qs) k=some q.2:=by simp[atKey,List.find?_cons,e']
   rw[mV e,b];exact h2
  ·have e':¬q.1=k:=fun z=>e (h1.trans z)
   have b:atKey (q::qs) k=atKey qs k:=by simp[atKey,List.find?_cons,e']
   rw[mW e,b];exact ih
theorem KT.repl{H:Hp}{kvs:List (List Key×V)}{xs:List (List Key×Addr×Value)}(r:KT H kvs xs)(k:List Key){y:V}{u:Value}(ry:RelV y u) :
  KT H (kvs.map fun kv=>if kv.1=k then(kv.1,y)else kv) (xs.map (putAt k u)):=by
 induction r with
 |nil=>exact .nil
 |@cons p q ps qs h t ih =>
  rw[List.map_cons,List.map_cons]
  refine .cons ?_ ih
  obtain⟨h1,h2,h3⟩:=h
  unfold putAt
  by_cases e:p.1=k
  ·rw[if_pos e,if_pos (h1.symm.trans e)];exact⟨h1,h2,ry⟩
  ·rw[if_neg e,if_neg (fun z=>e (h1.trans z))];exact⟨h1,h2,h3⟩
theorem KT.put{H:Hp}{kvs:List (List Key×V)}{xs:List (List Key×Addr×Value)}(r:KT H kvs xs)(k:List Key){b:Addr}{y:V}{u:Value}(hb:H b=some (.tup (k.map kV)))(ry:RelV y u) :
  KT H (putK kvs k y) (storedH xs k b u):=by
 have e:(kvs.any fun kv=>decide (kv.1=k))=(atKey xs k).isSome:=by
  rw[qY,(r.val k).vt,Option.isSome_map]
 unfold putK storedH
 rw[e]
 by_cases q:(atKey xs k).isSome=true
 ·rw[if_pos q,if_pos q];exact r.repl k ry
 ·rw[if_neg q,if_neg q];exact Paired.snoc r ⟨rfl,hb,ry⟩
theorem KT.keeps{H H':Hp}{kvs:List (List Key×V)}{xs:List (List Key×Addr×Value)}(r:KT H kvs xs)(ht:∀b ys,H b=some (.tup ys)->H' b=some (.tup ys)):KT H' kvs xs :=
 Paired.Am r fun _ _ z=>⟨z.1,ht _ _ z.2.1,z.2.2⟩
section
variable {P:Program}{w:World}{H:Hp}{h:Heap}{a:Addr}
theorem zZ{u:HO}(ok:jY P w H h)(e:Rd H a u):cW P w H h a u:=e.ok ok
theorem qZ{kvs:List (Key×V)}(ok:jY P w H h)(e:Rd H a (.dK kvs)):kvs.length<=sizeLine/\(a == sysModules)=false/\∃vs,KV kvs vs/\h.DictOf (cz P w) a vs :=
 show cW P w H h a (.dK kvs)from zZ ok e
theorem Aa{kvs:List (Key×V)}(ok:jY P w H h)(e:H a=some (.dK kvs)):kvs.length<=sizeLine/\(a == sysModules)=false/\∃vs,KV kvs vs/\h.DictOf (cz P w) a vs:=qZ ok (.inl e)
theorem ql{ks:List Key}(ok:jY P w H h)(e:H a=some (.tup (ks.map kV))):(tupleKind (cz P w)).is h ks a:=by
 obtain⟨_,its,r,⟨o,h1,h2,n,h3⟩,_⟩:=(show cW P w H h a (.tup (ks.map kV))from ok a _ e)
 exact⟨o,its.toArray,n,h1,h2,h3,by simpa using oX r⟩
theorem q9{kvs:List (List Key×V)}(ok:jY P w H h)(e:Rd H a (.dT kvs)):kvs.length<=sizeLine/\(a == sysModules)=false /\
  ∃xs,KT H kvs xs/\h.DictOfH (tupleKind (cz P w)) a xs:=by
 obtain⟨z,y,xs,r,o,es,ep,h1,h2,h3,h4,h5⟩:=(show cW P w H h a (.dT kvs)from zZ ok e)
 refine⟨z,y,xs,r,o,es,ep,h1,h2,h3,h4,fun x hx=>?_,h5⟩
 have all:∀{l:List (List Key×V)}{m:List (List Key×Addr×Value)},KT H l m->∀x∈m,(tupleKind (cz P w)).is h x.1 x.2.1:=by
  intro l m q
  induction q with
  |nil=>intro x hx;exact nomatch hx
  |@cons p q ps qs hq t ih =>
   intro x hx
   rcases List.mem_cons.mp hx with e|hx
   ·subst e
    exact ql ok (by rw[←hq.1];exact hq.2.1)
   ·exact ih x hx
 exact all r x hx
theorem BV{kvs:List (List Key×V)}(ok:jY P w H h)(e:H a=some (.dT kvs)):kvs.length<=sizeLine/\(a == sysModules)=false /\
  ∃xs,KT H kvs xs/\h.DictOfH (tupleKind (cz P w)) a xs:=q9 ok (.inl e)
end
noncomputable def jP(H:Hp)(a:Addr)(y:V)(r:Option V):Prop :=
 (∃kvs k,Rd H a (.dK kvs)/\y=kV k/\r=eK kvs k)\/∃kvs k b,Rd H a (.dT kvs)/\y=.ref b/\H b=some (.tup (k.map kV))/\r=eK kvs k
noncomputable def mX(H:Hp)(a:Addr)(y v:V)(H':Hp):Prop :=
 (∃kvs k,H a=some (.dK kvs)/\y=kV k/\kvs.length<sizeLine/\H'=upd H a (.dK (putK kvs k v))) \/
 ∃kvs k b,H a=some (.dT kvs)/\y=.ref b/\H b=some (.tup (k.map kV))/\kvs.length<sizeLine/\H'=upd H a (.dT (putK kvs k v))
theorem jP.k{H:Hp}{a:Addr}{kvs:List (Key×V)}{k:Key}(e:H a=some (.dK kvs)):jP H a (kV k) (eK kvs k):=.inl ⟨kvs,k,.inl e,rfl,rfl⟩
theorem jP.t{H:Hp}{a b:Addr}{kvs:List (List Key×V)}{k:List Key}(e:H a=some (.dT kvs))(eb:H b=some (.tup (k.map kV))):jP H a (.ref b) (eK kvs k):=.inr ⟨kvs,k,b,.inl e,rfl,eb,rfl⟩
theorem mX.k{H:Hp}{a:Addr}{kvs:List (Key×V)}{k:Key}{v:V}(e:H a=some (.dK kvs))(hl:kvs.length<sizeLine):mX H a (kV k) v (upd H a (.dK (putK kvs k v))):=.inl ⟨kvs,k,e,rfl,hl,rfl⟩
theorem mX.t{H:Hp}{a b:Addr}{kvs:List (List Key×V)}{k:List Key}{v:V}(e:H a=some (.dT kvs))(eb:H b=some (.tup (k.map kV)))(hl:kvs.length<sizeLine) :
  mX H a (.ref b) v (upd H a (.dT (putK kvs k v))):=.inr ⟨kvs,k,b,e,rfl,eb,hl,rfl⟩
section
variable {X:Cx}{pins:List (Addr×Obj)}{σ:St}{H:Hp}{s:Shared}{a:Addr}{y v:V}{u r:Value}{o:Option V}{A:Around}{E:Value->Shared->Prop}
theorem Inv.big(I:Inv X pins σ H s):sysModules<s.heap.objs.size:=by
 have h:mainGlobals<s.heap.objs.size:=(I.mod.glob.keeps I.bk).lt
 exact Nat.lt_trans (by decide) h
theorem vv{Q:Value->Shared->Prop}(hu:A.units+1<cLine)(I:Inv X pins σ H s)(g:jP H a y (some v))(ry:RelV y u)(h:∀w' s',Inv X pins σ H s'->RelV v w'->Q w' s') :
  wpAny (model X.prog X.w) A (getItem (.ref a) u) Q E s:=by
 rcases g with⟨kvs,k,e,ey,l⟩|⟨kvs,k,b,e,ey,eb,l⟩
 ·subst ey
  obtain⟨z,hd,vs,rel,dd⟩:=qZ I.hok e
  obtain⟨w',hw,rw'⟩:=jc.some_of (v:=v) (o:=valueAt vs k) (by rw[l];exact rel.val k)
  exact wpAny_getItem_of (oW ry) dd.mapOf hw (h w' _ (I.tok _) rw')
 ·subst ey
  cases(show u=Value.ref b from ry)
  obtain⟨z,hd,xs,rel,dd⟩:=q9 I.hok e
  obtain⟨w',hw,rw'⟩:=jc.some_of (v:=v) (o:=(atKey xs k).map (·.2)) (by rw[l];exact rel.val k)
  obtain⟨p,hp,hp2⟩:=Option.map_eq_some_iff.mp hw
  refine wpAny_getItem_heap (tupleKind_room_in1 hu) (ql I.hok eb) dd hp ?_
  rw[hp2]
  exact h w' _ (I.tok _) rw'
theorem qm{h':Heap}{t':Nat}{ob:HO}(I:Inv X pins σ H s)(mu:Bt (H a))(hs:Heap.SameBut a s.heap h')(he:∃q,h'.get? a=some q)(new:cW X.prog X.w (upd H a ob) h' a ob) :
  Inv X pins σ (upd H a ob) {s with heap:=h',toks:=t'} :=
 I.write (x:=a) (e:=a) mu (.inl rfl) (fun b q hb z=>(hs.2 b hb).trans z) he new
theorem sW{P:Program}{w:World}{H':Hp}{h':Heap}{kvs:List (Key×V)}{vs:List (Key×Value)}(z:kvs.length<=sizeLine)(hd:(a == sysModules)=false)(rel:KV kvs vs)(dd:h'.DictOf (cz P w) a vs) :
  cW P w H' h' a (.dK kvs):=⟨z,hd,vs,rel,dd⟩
theorem vz{H':Hp}{Q:Unit->Shared->Prop}(hu:A.units+1<cLine)(I:Inv X pins σ H s)(g:mX H a y v H')(ry:RelV y u)(rv:RelV v r)(h:∀s',Inv X pins σ H' s'->Q () s') :
  wpAny (model X.prog X.w) A (setItem (.ref a) u r) Q E s:=by
 rcases g with⟨kvs,k,e,ey,l,eH⟩|⟨kvs,k,b,e,ey,eb,l,eH⟩
 ·subst ey eH
  obtain⟨z,hd,vs,rel,dd⟩:=Aa I.hok e
  have hz:vs.length<=sizeLine:=by rw[←rel.length];exact z
  have hl:(putK kvs k v).length<=sizeLine:=by have:=jq kvs k v;omega
  refine wpAny_setItem_pairs (hsz:=hz) (oW ry) dd fun h' dd' hs=>h _ ?_
  have he:∃q,h'.get? a=some q:=let⟨q,_,_,hq,_⟩:=dd';⟨q,hq⟩
  exact qm I (by rw[e];exact True.intro) hs he (sW hl hd (rel.put k rv) dd')
 ·subst ey eH
  cases(show u=Value.ref b from ry)
  obtain⟨z,hd,xs,rel,dd⟩:=BV I.hok e
  have hz:xs.length<=sizeLine:=by rw[←Paired.length rel];exact z
  have hl:(putK kvs k v).length<=sizeLine:=by have:=jq kvs k v;omega
  refine wpAny_setItem_heap (hsz:=hz) (tupleKind_room_in1 hu) (ql I.hok eb) dd fun h' dd' hs=>h _ ?_
  obtain⟨q,es,ep,hq,h2,h3,h4,_,h5⟩:=dd'
  refine qm I (by rw[e];exact True.intro) hs ⟨q,hq⟩ ⟨hl,hd,_,(rel.put k eb rv).keeps fun c ys ec=>?_,q,es,ep,hq,h2,h3,h4,h5⟩
  rw[ay (gj ec e (fun z=>nomatch z))]
  exact ec
end
section
variable {X:Cx}{pins:List (Addr×Obj)}{σ:St}{H:Hp}{s:Shared}{a:Addr}{kvs:List (Key×V)}{k:Key}{u:Value}{A:Around}{E:Value->Shared->Prop}
end
noncomputable def AO(i:Expr):Prop:=∀ov iv,subscripted i false ov iv=operate [ov,iv] (getItem ov iv)
theorem uf{prog:Program}{w:World}{A:Around}{E:Value->Shared->Prop}{s:Shared}{env:Env}{value slice:Expr}{pos:Pos}{T id:String}{Q:Value->Shared->Prop}
  (hl:typeLookup (.type T) "__getitem__"=pure (some (.builtin id))) (hs:AO slice)
  (h:wpAny (model prog w) A (eval value env) (fun o s₁=>wpAny (model prog w) A (eval slice env) (fun i s₂=>s₂.TypeIs o T/\wpAny (model prog w) A (getItem o i) Q E s₂) E s₁) E s) :
  wpAny (model prog w) A (eval (.Subscript value slice pos) env) Q E s:=by
 refine Subscript_ (wpAny_mono h (fun o s₁ h₁=>wpAny_mono h₁ (fun i s₂ h₂=>?_) fun _ _ x=>x) fun _ _ x=>x)
 obtain⟨hT,h₂⟩:=h₂
 unfold subscriptTail
 refine wpAny_bind ?_
 rw[getitemInPython_of_ne hT.not_modules]
 refine wpAny_bind (wpAny_specialOf hT hl ?_)
 have fin:wpAny (model prog w) A (subscripted slice false o i) (fun r s₃=>wpAny (model prog w) A (letTemporaryGo value o r>>=fun _=>pure r) Q E s₃) E s₂:=by
  rw[hs o i]
  exact wpAny_operating (wpAny_mono h₂ (fun r s₃ h₃=>wpAny_bind (wpAny_letTemporaryGo (wpAny_pure h₃))) fun _ _ x=>x)
 first
  |exact wpAny_pure (wpAny_bind fin)
  |exact wpAny_bind (wpAny_pure (wpAny_bind fin))
  |exact wpAny_bind fin
theorem rf{X:Cx}{pins:List (Addr×Obj)}{σ:St}{H:Hp}{s:Shared}{a:Addr}{y:V}{o:Option V}(I:Inv X pins σ H s)(g:jP H a y o):s.TypeIs (.ref a) "dict":=by
 rcases g with⟨kvs,k,e,_,_⟩|⟨kvs,k,b,e,_,_,_⟩
 ·obtain⟨_,_,vs,_,dd⟩:=qZ I.hok e
  exact dd.typeIs
 ·obtain⟨_,_,xs,_,dd⟩:=q9 I.hok e
  exact dd.typeIs
noncomputable def BW(td ty:TE):TE:=fun σ H Q=>td σ H fun x H1=>ty σ H1 fun y H2=>∃a v,x=.ref a/\jP H2 a y (some v)/\Q v H2
noncomputable def BX(td ty tv:TE):TS:=fun D σ H=>tv σ H fun v H1=>td σ H1 fun x H2=>ty σ H2 fun y H3=>∃a H4,x=.ref a/\mX H3 a y v H4/\D.nx σ H4
section
variable {X:Cx}{o i e value:Expr}{pos pos' tpos:Pos}{td ty tv:TE}
theorem yL(hu:X.A.units+1<cLine)(ho:PE X o td)(hi:PE X i ty)(hs:AO i):PE X (.Subscript o i pos) (BW td ty):=by
 intro pins s σ H Q I h
 refine uf PySem.F.slot_dict_getitem.lookup hs (cK (ho pins s σ H _ I h) fun u s1 ⟨x,H1,I1,rx,q1⟩=>cK (hi pins s1 σ H1 _ I1 q1) fun iv s2 ⟨y,H2,I2,ry,a,v,ex,g,q2⟩=>?_)
 subst ex
 obtain rfl:u=Value.ref a:=rx
 exact⟨rf I2 g,vv hu I2 g ry fun w' s3 I3 rw'=>⟨v,H2,I3,rw',q2⟩⟩
theorem lY(hu:X.A.units+1<cLine)(ho:PE X o td)(hi:PE X i ty)(hv:PE X value tv)(hs:swapsWith value (some (.Subscript o i pos')) pos.line X.env=pure false) :
  PS X (.Assign [.Subscript o i pos'] value pos) (BX td ty tv):=by
 intro pins s σ H D I h
 refine wpAny_Assign_Subscript (cK (hv pins s σ H _ I h) fun r s1 ⟨v,H1,I1,rv,q1⟩=>cK (ho pins s1 σ H1 _ I1 q1) fun u s2 ⟨x,H2,I2,rx,q2⟩=>cK (hi pins s2 σ H2 _ I2 q2) fun iv s3 ⟨y,H3,I3,ry,a,H4,ex,g,q3⟩=>?_) hs
 subst ex
 obtain rfl:u=Value.ref a:=rx
 exact vz hu I3 g ry rv fun s4 I4=>⟨σ,H4,I4,q3⟩
end
theorem rh{P:Program}{w:World}{H:Hp}(h:Heap)(hb:sysModules<h.objs.size):cW P w H (h.push {cls:=.type "dict",data:=.dict #[]}) h.objs.size (.dK []) :=
 ⟨Nat.zero_le _,beq_eq_false_iff_ne.mpr (Ne.symm (Nat.ne_of_lt hb)),[],.nil,Heap.DictOf.new h⟩
noncomputable def AQ:TE:=fun _ H Q=>∀p,H p=none->Q (.ref p) (upd H p (.dK []))
section
variable {X:Cx}{pos:Pos}
theorem wL:PE X (.Dict [] [] pos) AQ:=fun pins s σ H Q I h =>
 wpAny_Dict_empty ⟨.ref s.heap.objs.size,_,I.laid (a:=s.heap.objs.size) (o:=.dK []) (t':=s.toks) (fun _ _ q=>Heap.get?_push_of_some _ q) (Nat.le_refl _) (rh s.heap I.big),rfl,h _ (I.hok.fresh (Nat.le_refl _))⟩
end
noncomputable def sX:List (TE×TE)->St->Hp->(List (V×V)->Hp->Prop)->Prop
 | [],_,H,Q=>Q [] H
 |(tk,tv)::r,σ,H,Q=>tk σ H fun x H1=>tv σ H1 fun y H2=>sX r σ H2 fun ps H3=>Q ((x,y)::ps) H3
noncomputable abbrev VV:List (V×V)->List (Value×Value)->Prop:=Paired fun p q=>RelV p.1 q.1/\RelV p.2 q.2
noncomputable def CB(X:Cx)(pos:Pos)(keys:List (Option Expr))(values:List Expr)(trs:List (TE×TE)):Prop :=
 ∀(pins:List (Addr×Obj)) (s:Shared) (σ:St) (H:Hp) (Q:List (V×V)->Hp->Prop),Inv X pins σ H s->sX trs σ H Q ->
  wpAny (model X.prog X.w) X.A (evalPairs (pairTrees keys values X.env pos)) (fun vs s'=>∃ps H',Inv X pins σ H' s'/\VV ps vs/\Q ps H') X.xe s
theorem yM{X:Cx}{pos:Pos}:CB X pos [] [] []:=fun pins s σ H Q I h=>pairTrees_nil_walk ⟨[],H,I,.nil,h⟩
theorem iB{X:Cx}{pos:Pos}{k v:Expr}{ks:List (Option Expr)}{vs:List Expr}{tk tv:TE}{trs:List (TE×TE)}(hk:PE X k tk)(hv:PE X v tv)(hr:CB X pos ks vs trs) :
  CB X pos (some k::ks) (v::vs) ((tk,tv)::trs):=fun pins s σ H Q I h =>
 pairTrees_cons_walk (cK (hk pins s σ H _ I h) fun u s1 ⟨x,H1,I1,rx,q1⟩=>cK (hv pins s1 σ H1 _ I1 q1) fun w2 s2 ⟨y,H2,I2,ry,q2⟩ =>
  cK (hr pins s2 σ H2 _ I2 q2) fun ws s3 ⟨ps,H3,I3,rel,q3⟩=>⟨(x,y)::ps,H3,I3,.cons ⟨rx,ry⟩ rel,q3⟩)
noncomputable def eR(kvs more:List (Key×V)):List (Key×V):=more.foldl (fun acc kv=>putK acc kv.1 kv.2) kvs
theorem KV.merge:∀{more:List (Key×V)}{rs:List (Key×Value)}{kvs:List (Key×V)}{vs:List (Key×Value)},KV more rs->KV kvs vs->KV (eR kvs more) (merged vs rs):=by
 intro more rs kvs vs r
 unfold KV at r
 induction r generalizing kvs vs with
 |nil=>intro q;exact q
 |@cons p q ps qs h t ih =>
  intro r0
  have e:KV (putK kvs p.1 p.2) (stored vs q.1 q.2):=by
   have:=r0.put p.1 h.2
   rw[←h.1];exact this
  exact ih e
theorem ir:∀(more kvs:List (Key×V)),(eR kvs more).length<=kvs.length+more.length
 | [],kvs=>by show kvs.length<=kvs.length+0;omega
 |p::r,kvs=>by
  have h1:=ir r (putK kvs p.1 p.2)
  have h2:=jq kvs p.1 p.2
  show(eR (putK kvs p.1 p.2) r).length<=_
  rw[List.length_cons];omega
theorem mY{P:Program}{w:World}:∀{kvs:List (Key×V)}{ws:List (Value×Value)},VV (kvs.map fun kv=>(kV kv.1,kv.2)) ws->∃rs,Carries (cz P w) ws rs/\KV kvs rs
 | [],_,r=>by rw[List.map_nil]at r;cases r;exact⟨[],True.intro,.nil⟩
 |p::kvs,_,r=>by
  rw[List.map_cons]at r
  cases r with
  |@cons a b as bs h t =>
   obtain⟨rs,c,q⟩:=mY (P:=P) (w:=w) t
   obtain⟨b1,b2⟩:=b
   exact⟨(p.1,b2)::rs,⟨oW h.1,rfl,c⟩,.cons ⟨rfl,h.2⟩ q⟩
noncomputable def Ab(trs:List (TE×TE)):TE:=fun σ H Q=>∀p,H p=none->sX trs σ (upd H p (.dK [])) fun ps H2=>H2 p=some (.dK [])/\∃kvs:List (Key×V),ps=kvs.map (fun kv=>(kV kv.1,kv.2))/\kvs.length<=15/\Q (.ref p) (upd H2 p (.dK (eR [] kvs)))
theorem yN{X:Cx}{pos:Pos}{keys:List (Option Expr)}{values:List Expr}{trs:List (TE×TE)}(h:CB X pos keys values trs)(hall:keys.all (·.isSome)=true)(hl:keys.length=values.length)(h0:keys≠[])
  (h15:keys.length<=15):PE X (.Dict keys values pos) (Ab trs):=by
 intro pins s σ H Q I q
 have hn:=I.hok.fresh (Nat.le_refl s.heap.objs.size)
 have I1:=I.laid (a:=s.heap.objs.size) (o:=.dK []) (h':=s.heap.push {cls:=.type "dict",data:=.dict #[]}) (t':=s.toks) (fun _ _ q=>Heap.get?_push_of_some _ q) (Nat.le_refl _) (rh s.heap I.big)
 refine wpAny_Dict_walk (knd:=cz X.prog X.w) hall hl h0 h15 (cK (h pins _ σ _ _ I1 (q _ hn)) fun ws s2 ⟨ps,H2,I2,rel,e,kvs,ep,lk,q2⟩=>?_)
 subst ep
 obtain⟨rs,c,rk⟩:=mY (P:=X.prog) (w:=X.w) rel
 obtain⟨z,hd,vs0,r0,dd⟩:=Aa I2.hok e
 cases r0
 refine⟨rs,c,dd,fun h' dd' hs=>⟨.ref s.heap.objs.size,_,?_,rfl,q2⟩⟩
 have hz:(eR [] kvs).length<=sizeLine:=by
  have h1:=ir kvs []
  rw[List.length_nil]at h1
  rw[sizeLine_eq];omega
 have he:∃q,h'.get? s.heap.objs.size=some q:=let⟨q,_,_,hq,_⟩:=dd';⟨q,hq⟩
 exact qm I2 (by rw[e];exact True.intro) hs he (sW hz hd (rk.merge .nil) dd')
structure M2(X:Cx) (o:Expr) (m:Str) (apos:Pos) (e f:Expr) (cpos:Pos):Prop where
 base:attributeBase o m X.env (eval o X.env)=eval o X.env
 few:((backTo cpos (starEach [e,f] X.env)).all (fun x=>!x.1)&&(backToKw cpos (keywordEach [] X.env)).all (fun x=>x.1.isSome)
  && decide (([e,f]:List Expr).length+([]:List Keyword).length+(if([]:List Keyword).isEmpty then 0 else 1)<30))=true
 line:(apos.endLine == cpos.line)=true
 trees:backTo cpos (starEach [e,f] X.env)=[(false,eval e X.env),(false,eval f X.env)]
noncomputable def C3(H:Hp)(a:Addr):Prop:=(∃kvs,Rd H a (.dK kvs))\/∃kvs,Rd H a (.dT kvs)
theorem AS{X:Cx}{pins:List (Addr×Obj)}{σ:St}{H:Hp}{s:Shared}{a:Addr}(I:Inv X pins σ H s)(d:C3 H a) :
  s.TypeIs (.ref a) "dict"/\(∀b,Value.ref a=.ref b->∃ob,s.heap.get? b=some ob/\ob.dict=none)/\(a == sysModules)=false:=by
 rcases d with⟨kvs,e⟩|⟨kvs,e⟩
 ·obtain⟨_,hd,vs,_,dd⟩:=qZ I.hok e
  refine⟨dd.typeIs,fun b q=>?_,hd⟩
  cases q
  obtain⟨ob,_,_,h1,h2,_⟩:=dd
  exact⟨ob,h1,h2.2.1⟩
 ·obtain⟨_,hd,xs,_,dd⟩:=q9 I.hok e
  refine⟨dd.typeIs,fun b q=>?_,hd⟩
  cases q
  obtain⟨ob,_,_,h1,h2,_⟩:=dd
  exact⟨ob,h1,h2.2.1⟩
section
variable {X:Cx}{pins:List (Addr×Obj)}{σ:St}{H:Hp}{s:Shared}{a:Addr}{y d:V}{u r:Value}{o:Option V}{A:Around}{E:Value->Shared->Prop}
theorem AU{Q:Value->Shared->Prop}(hu:A.units+1<cLine)(I:Inv X pins σ H s)(g:jP H a y o)(ry:RelV y u)(rd:RelV d r)(h:∀w' s',Inv X pins σ H s'->RelV (o.getD d) w'->Q w' s') :
  wpAny (model X.prog X.w) A (call (.builtin "dict.get") [.ref a,u,r]) Q E s:=by
 rcases g with⟨kvs,k,e,ey,l⟩|⟨kvs,k,b,e,ey,eb,l⟩
 ·subst ey
  obtain⟨z,hd,vs,rel,dd⟩:=qZ I.hok e
  refine call_meetsIn PySem.F.slot_dict_get dd.typeIs PySem.F.entry_dict_get (PySem.F.args_dict_get_3 _ _ _) (meets_dict_get_default (cz X.prog X.w) a (oW ry) hd r) ⟨_,dd.mapOf,h _ _ (I.tok _) ?_⟩
  rw[l]
  exact(rel.val k).getD rd
 ·subst ey
  cases(show u=Value.ref b from ry)
  obtain⟨z,hd,xs,rel,dd⟩:=q9 I.hok e
  refine call_meetsIn PySem.F.slot_dict_get dd.typeIs PySem.F.entry_dict_get (PySem.F.args_dict_get_3 _ _ _) (meetsH_dict_get_default (tupleKind (cz X.prog X.w)) a b hd r) ⟨tupleKind_room_in1 hu,k,xs,ql I.hok eb,dd,h _ _ (I.tok _) ?_⟩
  rw[l]
  exact(rel.val k).getD rd
end
noncomputable def AV(td ty tx:TE):TE:=fun σ H Q=>td σ H fun x H1=>∃a,x=.ref a/\C3 H1 a/\ty σ H1 fun y H2=>tx σ H2 fun z H3=>∃o,jP H3 a y o/\Q (o.getD z) H3
section
variable {X:Cx}{o e f:Expr}{apos cpos:Pos}{td ty tx:TE}
theorem wM(hu:X.A.units+1<cLine)(ho:PE X o td)(he:PE X e ty)(hf:PE X f tx)(m:M2 X o "get" apos e f cpos):PE X (.Call (.Attribute o "get" apos) [e,f] [] cpos) (AV td ty tx):=by
 intro pins s σ H Q I h
 refine wpAny_Call_method m.base m.few m.line PySem.F.plainAttrs_dict PySem.F.slot_dict_get PySem.F.type_dict_get (cK (ho pins s σ H _ I h) fun u s1 ⟨x,H1,I1,rx,a,ex,d,q1⟩=>?_)
 subst ex
 obtain rfl:u=Value.ref a:=rx
 obtain⟨t1,t2,_⟩:=AS I1 d
 refine⟨t1,t2,?_⟩
 rw[m.trees]
 refine Calls.callWith_builtin rfl (Calls.evalArgs_plain (Calls.spliced_cons (cK (he pins s1 σ H1 _ I1 q1) fun iv s2 ⟨y,H2,I2,ry,q2⟩ =>
  Calls.spliced_cons (cK (hf pins s2 σ H2 _ I2 q2) fun fv s3 ⟨z,H3,I3,rz,ov,g,q3⟩=>Calls.spliced_nil ?_))))
 exact AU hu I3 g ry rz fun w' s4 I4 rw'=>⟨_,H3,I4,rw',q3⟩
end
section
variable {X:Cx}{pins:List (Addr×Obj)}{σ:St}{H:Hp}{s:Shared}{a:Addr}{kvs:List (Key×V)}{A:Around}{E:Value->Shared->Prop}
end
section
variable {X:Cx}{pins:List (Addr×Obj)}{σ:St}{H:Hp}{s:Shared}{a:Addr}{y:V}{u:Value}{A:Around}{E:Value->Shared->Prop}
end
end L2
set_option maxHeartbeats 4000000
namespace L2
open PySem
inductive T where
 |s (x:Str)|i (n:Int)|n|t (xs:List T)
theorem T.induct{P:T->Prop}(hs:∀x,P (.s x))(hi:∀n,P (.i n))(hn:P .n)(ht:∀xs,(∀x∈xs,P x)->P (.t xs))(a:T):P a :=
 T.rec (motive_1:=P) (motive_2:=fun xs=>∀x∈xs,P x) hs hi hn ht (fun _ h=>nomatch h) (fun _ _ h1 h2 y hy=>by
  cases hy with
  |head=>exact h1
  |tail _ h=>exact h2 y h) a
mutual
noncomputable def T.dep:T->Nat
 |.t xs=>T.kQ xs+1
 |_=>0
noncomputable def T.kQ:List T->Nat
 | []=>0
 |x::r=>max x.dep (T.kQ r)
end
theorem T.wN{xs:List T}{x:T}(h:x∈xs):x.dep<=T.kQ xs:=by
 induction xs with
 |nil=>cases h
 |cons y r ih =>
  unfold T.kQ
  cases h with
  |head=>exact Nat.le_max_left _ _
  |tail _ h=>exact Nat.le_trans (ih h) (Nat.le_max_right _ _)
mutual
noncomputable def T.eqB:T->T->Bool
 |.s x,.s y=>x == y
 |.i m,.i k=>m == k
 |.n,.n=>true
 |.t xs,.t ys=>T.lS xs ys
 |_,_=>false
noncomputable def T.lS:List T->List T->Bool
 | [],[]=>true
 |x::r,y::q=>x.eqB y&&T.lS r q
 |_,_=>false
end
theorem T.wO{xs:List T}(h:∀x∈xs,∀y,T.eqB x y=true↔x=y):∀ys,T.lS xs ys=true↔xs=ys:=by
 induction xs with
 |nil=>intro ys;cases ys<;>simp[T.lS]
 |cons x r ih =>
  intro ys
  cases ys with
  |nil=>simp[T.lS]
  |cons y q =>
   unfold T.lS
   rw[Bool.and_eq_true,h x (.head _) y,ih (fun z hz=>h z (.tail _ hz)) q,List.cons.injEq]
theorem T.eqB_iff(a:T):∀b,T.eqB a b=true↔a=b:=by
 induction a using T.induct with
 |hs x=>intro b;cases b<;>simp[T.eqB]
 |hi x=>intro b;cases b<;>simp[T.eqB]
 |hn=>intro b;cases b<;>simp[T.eqB]
 |ht xs ih =>
  intro b
  cases b with
  |t ys=>unfold T.eqB;rw[T.wO ih ys,T.t.injEq]
  |_=>simp[T.eqB]
theorem T.wQ(a:T):T.eqB a a=true:=(T.eqB_iff a a).mpr rfl
noncomputable instance:DecidableEq T:=fun a b=>if h:T.eqB a b=true then .isTrue ((T.eqB_iff a b).mp h)else .isFalse fun z=>h ((T.eqB_iff a b).mpr z)
theorem T.ug(a b:T):T.eqB a b=decide (a=b):=by rw[Bool.eq_iff_iff,decide_eq_true_iff,T.eqB_iff]
theorem T.jQ:∀(xs ys:List T),T.lS xs ys=((List.range (min xs.length ys.length)).all (fun j=>T.eqB (xs.getD j .n) (ys.getD j .n))&&xs.length == ys.length)
 | [],[]=>rfl
 | [],y::q=>by simp[T.lS]
 |x::r,[]=>by simp[T.lS]
 |x::r,y::q=>by
  unfold T.lS
  rw[T.jQ r q,List.length_cons,List.length_cons,Nat.succ_min_succ,List.range_succ_eq_map,List.all_cons,List.all_map]
  have e:(r.length+1 == q.length+1)=(r.length == q.length):=by simp
  rw[e,Bool.and_assoc]
  rfl
end L2
namespace L2
open PySem
inductive Hd where
 |num (n:Int)|name (x:Str)|gap (n:Int)|op (s:Str)|row|more|first|others|long|tag (t:Str)|call (f:Str)|mat (arms:List (Str×List Str))|ife|lt (x:Str)|fold (x y:Str)
inductive Tm where
 |mk (h:Hd) (ks:List Tm)
noncomputable def Tm.hd:Tm->Hd|.mk h _=>h
noncomputable def Tm.ks:Tm->List Tm|.mk _ ks=>ks
theorem Tm.induct{P:Tm->Prop}(hm:∀h ks,(∀k∈ks,P k)->P (.mk h ks))(a:Tm):P a :=
 Tm.rec (motive_1:=P) (motive_2:=fun xs=>∀x∈xs,P x) hm (fun _ h=>nomatch h) (fun _ _ h1 h2 y hy=>by
  cases hy with
  |head=>exact h1
  |tail _ h=>exact h2 y h) a
noncomputable def cD:Hd->Nat->Bool
 |.num _,n=>n == 0
 |.name _,n=>n == 0
 |.gap _,n=>n == 0
 |.op _,n=>n == 2
 |.row,_=>true
 |.more,n=>n == 2
 |.first,n=>n == 1
 |.others,n=>n == 1
 |.long,n=>n == 1
 |.tag _,_=>true
 |.call _,_=>true
 |.mat arms,n=>n == arms.length+1
 |.ife,n=>n == 3
 |.lt _,n=>n == 2
 |.fold _ _,n=>n == 3
inductive Wf:Tm->Prop
 |mk {h:Hd}{ks:List Tm}:cD h ks.length=true->(∀k∈ks,Wf k)->Wf (.mk h ks)
noncomputable def bnd:Hd->Nat->List (List Str)
 |.mat arms,_=>[]::arms.map (·.2)
 |.lt x,_=>[[],[x]]
 |.fold x y,_=>[[],[],[x,y]]
 |_,n=>List.replicate n []
noncomputable def fq(a:Str×List Str)(k:T):T:=.t [.s a.1,.t (a.2.map .s),k]
noncomputable def eT:Hd->List T->T
 |.num n,_=>.t [.s "num",.i n]
 |.name x,_=>.t [.s "name",.s x]
 |.gap n,_=>.t [.s "gap",.i n]
 |.op s,ks=>.t (.s "op"::.s s::ks)
 |.row,ks=>.t [.s "row",.t ks]
 |.more,ks=>.t (.s "more"::ks)
 |.first,ks=>.t (.s "first"::ks)
 |.others,ks=>.t (.s "others"::ks)
 |.long,ks=>.t (.s "long"::ks)
 |.tag t,ks=>.t [.s "tag",.s t,.t ks]
 |.call f,ks=>.t [.s "call",.s f,.t ks]
 |.mat arms,ks=>.t [.s "match",ks.headD .n,.t (List.zipWith fq arms ks.tail)]
 |.ife,ks=>.t (.s "if"::ks)
 |.lt x,ks=>.t (.s "let"::.s x::ks)
 |.fold x y,ks=>.t [.s "fold",ks.getD 0 .n,.s x,.s y,ks.getD 1 .n,ks.getD 2 .n]
mutual
noncomputable def enc:Tm->T
 |.mk h ks=>eT h (yO ks)
noncomputable def yO:List Tm->List T
 | []=>[]
 |k::r=>enc k::yO r
end
theorem rm:∀ks:List Tm,yO ks=ks.map enc
 | []=>rfl
 |k::r=>by unfold yO;rw[rm r];rfl
theorem cZ(h:Hd)(ks:List Tm):enc (.mk h ks)=eT h (ks.map enc):=by unfold enc;rw[rm]
mutual
noncomputable def Tm.size:Tm->Nat
 |.mk _ ks=>Tm.sizes ks+1
noncomputable def Tm.sizes:List Tm->Nat
 | []=>0
 |k::r=>k.size+Tm.sizes r
end
mutual
noncomputable def Tm.depth:Tm->Nat
 |.mk _ []=>0
 |.mk _ (k::r)=>Tm.kR (k::r)+1
noncomputable def Tm.kR:List Tm->Nat
 | []=>0
 |k::r=>max k.depth (Tm.kR r)
end
mutual
noncomputable def Tm.parts:Tm->List Tm
 |.mk h ks=>.mk h ks::Tm.dO ks
noncomputable def Tm.dO:List Tm->List Tm
 | []=>[]
 |k::r=>k.parts++Tm.dO r
end
theorem Tm.gU(k:Tm)(r:List Tm):Tm.dO (k::r)=k.parts++Tm.dO r:=by rw[Tm.dO]
theorem Tm.bM(k:Tm)(r:List Tm):Tm.sizes (k::r)=k.size+Tm.sizes r:=by rw[Tm.sizes]
theorem Tm.eB(h:Hd)(ks:List Tm):(Tm.mk h ks).size=Tm.sizes ks+1:=by rw[Tm.size]
theorem Tm.mZ(h:Hd)(k:Tm)(r:List Tm):(Tm.mk h (k::r)).depth=Tm.kR (k::r)+1:=by rw[Tm.depth]
theorem Tm.m6(h:Hd)(ks:List Tm):(Tm.mk h ks).parts=.mk h ks::Tm.dO ks:=by unfold Tm.parts;rfl
theorem Tm.jI:∀(a b:List Tm),Tm.dO (a++b)=Tm.dO a++Tm.dO b
 | [],b=>by simp[Tm.dO]
 |k::r,b=>by rw[List.cons_append,Tm.gU,Tm.gU,Tm.jI r b,List.append_assoc]
theorem Tm.bj:∀(a b:List Tm),Tm.sizes (a++b)=Tm.sizes a+Tm.sizes b
 | [],b=>by simp[Tm.sizes]
 |k::r,b=>by rw[List.cons_append,Tm.bM,Tm.bM,Tm.bj r b];omega
theorem Tm.iu:∀(a:List Tm),Tm.sizes a.reverse=Tm.sizes a
 | []=>rfl
 |k::r=>by rw[List.reverse_cons,Tm.bj,Tm.iu r];simp only[Tm.sizes];omega
theorem Tm.size_pos(a:Tm):0<a.size:=by cases a;unfold Tm.size;omega
theorem Tm.fR(a:Tm):a.parts.length=a.size:=by
 induction a using Tm.induct with
 |hm h ks ih =>
  rw[Tm.m6,List.length_cons]
  unfold Tm.size
  congr 1
  induction ks with
  |nil=>rfl
  |cons k r ih2 =>
   unfold Tm.dO Tm.sizes
   rw[List.length_append,ih k (.head _),ih2 fun x hx=>ih x (.tail _ hx)]
theorem Tm.sY{ks:List Tm}{k:Tm}(h:k∈ks):k.depth<=Tm.kR ks:=by
 induction ks with
 |nil=>cases h
 |cons y r ih =>
  unfold Tm.kR
  cases h with
  |head=>exact Nat.le_max_left _ _
  |tail _ h=>exact Nat.le_trans (ih h) (Nat.le_max_right _ _)
theorem Tm.iC{h:Hd}{ks:List Tm}{k:Tm}(m:k∈ks):k.depth<(Tm.mk h ks).depth:=by
 cases ks with
 |nil=>cases m
 |cons y r=>rw[Tm.mZ];exact Nat.lt_succ_of_le (Tm.sY m)
theorem Tm.j7{h:Hd}{ks:List Tm}{n:Nat}(a:∀k∈ks,k.depth<=n):(Tm.mk h ks).depth<=n+1:=by
 cases ks with
 |nil=>unfold Tm.depth;omega
 |cons y r =>
  unfold Tm.depth
  refine Nat.succ_le_succ ?_
  generalize(y::r)=l at a
  induction l with
  |nil=>exact Nat.zero_le _
  |cons z q ih=>unfold Tm.kR;exact Nat.max_le.mpr ⟨a z (.head _),ih fun k hk=>a k (.tail _ hk)⟩
end L2
namespace L2
open PySem PySem.Spec PyProof.Rows
noncomputable def cu(env:Env):List (Str×NameKind)->List (Str×Addr)->List (Str×Addr)
 | [],cs=>cs
 |(n,k)::r,cs=>cu env r (if k == .free then(n,(env.cells.lookup n).getD 0)::cs else cs)
theorem jJ{scope:Scope}{env:Env}(h:∀x∈scope.names,x.2=.free->∃c,env.cells.lookup x.1=some c):closureFor scope env=pure (cu env scope.names []):=by
 have go:∀(l:List (Str×NameKind)) (cs:List (Str×Addr)),(∀x∈l,x.2=.free->∃c,env.cells.lookup x.1=some c) ->
   (forIn l cs fun x r=>if(x.2 == NameKind.free)=true then do let a ←cellOf env x.1;pure (ForInStep.yield ((x.1,a)::r))else pure (ForInStep.yield r):Sem (List (Str×Addr)))=pure (cu env l cs):=by
  intro l
  induction l with
  |nil=>intro cs _;rfl
  |cons x r ih =>
   intro cs hx
   obtain⟨n,k⟩:=x
   rw[List.forIn_cons]
   by_cases hk:k=.free
   ·subst hk
    obtain⟨c,hc⟩:=hx (n,.free) List.mem_cons_self rfl
    have e:cellOf env n=pure c:=by unfold cellOf;rw[show env.cells.lookup n=some c from hc]
    simp only[beq_self_eq_true,if_true,e,pure_bind]
    rw[ih _ fun y hy=>hx y (List.mem_cons_of_mem _ hy)]
    unfold cu
    rw[show env.cells.lookup n=some c from hc]
    cases r<;>rfl
   ·have hb:(k == NameKind.free)=false:=by simpa using hk
    simp only[hb,Bool.false_eq_true,if_false,pure_bind]
    rw[ih _ fun y hy=>hx y (List.mem_cons_of_mem _ hy)]
    conv=>rhs;unfold cu
    simp only[hb,Bool.false_eq_true,if_false]
 simp only[closureFor]
 have g:=go scope.names [] h
 simp only[g]
 rfl
theorem fS{env:Env}:∀(l:List (Str×NameKind)) (cs:List (Str×Addr)),(∀x∈l,x.2=.free->∃c,env.cells.lookup x.1=some c)->(∀y c,cs.lookup y=some c->env.cells.lookup y=some c) ->
  ∀y c,(cu env l cs).lookup y=some c->env.cells.lookup y=some c
 | [],_,_,hc=>hc
 |(n,k)::r,cs,hl,hc=>by
  refine fS r _ (fun x hx=>hl x (List.mem_cons_of_mem _ hx)) fun y c e=>?_
  by_cases hk:(k == NameKind.free)=true
  ·rw[if_pos hk]at e
   rw[List.lookup_cons]at e
   by_cases hy:y=n
   ·subst hy
    simp only[beq_self_eq_true]at e
    obtain⟨c',hc'⟩:=hl (y,k) List.mem_cons_self (by simpa using hk)
    have hc'':env.cells.lookup y=some c':=hc'
    rw[hc'']at e⊢
    exact e
   ·have hb:(y == n)=false:=beq_eq_false_iff_ne.mpr hy
    rw[hb]at e
    exact hc y c e
  ·rw[if_neg hk]at e
   exact hc y c e
theorem jK{env:Env}:∀(l:List (Str×NameKind)) (cs:List (Str×Addr)) (y:Str),(∃c,cs.lookup y=some c)->∃c,(cu env l cs).lookup y=some c
 | [],_,_,h=>h
 |(n,k)::r,cs,y,h=>by
  refine jK r _ y ?_
  by_cases hk:(k == NameKind.free)=true
  ·rw[if_pos hk,List.lookup_cons]
   cases hb:(y == n)with
   |true=>exact⟨_,rfl⟩
   |false=>exact h
  ·rw[if_neg hk];exact h
theorem j8{env:Env}:∀(l:List (Str×NameKind)) (cs:List (Str×Addr)) (y:Str),(y,NameKind.free)∈l->∃c,(cu env l cs).lookup y=some c
 | [],_,_,h=>nomatch h
 |(n,k)::r,cs,y,h=>by
  rcases List.mem_cons.mp h with e|h
  ·have e1:y=n:=congrArg Prod.fst e
   have e2:NameKind.free=k:=congrArg Prod.snd e
   subst e1
   subst e2
   refine jK r _ y ⟨(env.cells.lookup y).getD 0,?_⟩
   rw[if_pos (by rfl),List.lookup_cons,beq_self_eq_true]
  ·exact j8 r _ y h
theorem iw{env:Env}:∀{names:List (Str×NameKind)}{x:Str}{k':NameKind},(names.map fun(n,k)=>if(k == NameKind.free&&env.scope.kind == .function&&env.kindOf n == some .cell)then(n,NameKind.cell)else(n,k)).lookup x=some k' ->
  names.lookup x=some k'\/(k'=.cell/\names.lookup x=some .free)
 | [],_,_,h=>by simp at h
 |(n,k)::r,x,k',h=>by
  have ih:=@iw env r x k'
  change List.lookup x ((if(k == NameKind.free&&env.scope.kind == .function&&env.kindOf n == some .cell)=true then(n,NameKind.cell)else(n,k))::_)=_ at h
  cases hx:x == n with
  |true =>
   by_cases hc:(k == NameKind.free&&env.scope.kind == .function&&env.kindOf n == some .cell)=true
   ·rw[if_pos hc]at h
    simp only[List.lookup_cons,hx]at h
    cases h
    have hk:k=.free:=by simp at hc;exact hc.1.1
    subst hk
    exact .inr ⟨rfl,by simp only[List.lookup_cons,hx]⟩
   ·rw[if_neg hc]at h
    simp only[List.lookup_cons,hx]at h
    cases h
    exact .inl (by simp only[List.lookup_cons,hx])
  |false =>
   by_cases hc:(k == NameKind.free&&env.scope.kind == .function&&env.kindOf n == some .cell)=true
   ·rw[if_pos hc]at h
    simp only[List.lookup_cons,hx]at h⊢
    exact ih h
   ·rw[if_neg hc]at h
    simp only[List.lookup_cons,hx]at h⊢
    exact ih h
theorem j9{env:Env}:∀{names:List (Str×NameKind)}{x:Str},names.lookup x=some .free ->
  (names.map fun(n,k)=>if(k == NameKind.free&&env.scope.kind == .function&&env.kindOf n == some .cell)then(n,NameKind.cell)else(n,k)).lookup x=some .cell \/
  (names.map fun(n,k)=>if(k == NameKind.free&&env.scope.kind == .function&&env.kindOf n == some .cell)then(n,NameKind.cell)else(n,k)).lookup x=some .free
 | [],_,h=>by simp at h
 |(n,k)::r,x,h=>by
  have ih:=@j9 env r x
  show List.lookup x ((if(k == NameKind.free&&env.scope.kind == .function&&env.kindOf n == some .cell)=true then(n,NameKind.cell)else(n,k))::_)=_\/List.lookup x ((if(k == NameKind.free&&env.scope.kind == .function&&env.kindOf n == some .cell)=true then(n,NameKind.cell)else(n,k))::_)=_
  cases hx:x == n with
  |true =>
   simp only[List.lookup_cons,hx]at h
   cases h
   by_cases hc:(NameKind.free == NameKind.free&&env.scope.kind == .function&&env.kindOf n == some .cell)=true
   ·rw[if_pos hc];exact .inl (by simp only[List.lookup_cons,hx])
   ·rw[if_neg hc];exact .inr (by simp only[List.lookup_cons,hx])
  |false =>
   simp only[List.lookup_cons,hx]at h
   by_cases hc:(k == NameKind.free&&env.scope.kind == .function&&env.kindOf n == some .cell)=true
   ·rw[if_pos hc];simp only[List.lookup_cons,hx];exact ih h
   ·rw[if_neg hc];simp only[List.lookup_cons,hx];exact ih h
section
variable {prog:Program}{w:World}{A:Around}{R:Result->Shared->Prop}{s:Shared}
theorem fu{elt target iter:Expr}{ifs:List Expr}{scope:Scope}{pos:Pos}{it acc:Value}{env:Env}{E:Value->Shared->Prop}(I:Nat->Shared->Prop)
  (turn:∀n s,I n s->wpAny (model prog w) A (pyNext it) (fun r s₁=>match r with
   |none=>R (.ok .next) s₁
   |some v=>wpAny (model prog w) A (letOwnedTupleGo target it v) (fun _ s₁'=>wpAny (model prog w) A (assign target env v) (fun _ s₂ =>
     wpAny (model prog w) A (forIn ifs true fun c r=>if r=true then do let ok ←isTrue c env (eval c env);pure (ForInStep.yield ok)else pure (ForInStep.yield r)) (fun ok s₃ =>
      if ok=true then wpAny (model prog w) A (eval elt env) (fun x s₄ =>
       wpAny (model prog w) A (call (.builtin "list.append") [acc,x]) (fun _ s₅=>∃m,m<n/\I m s₅) E s₄) E s₃
      else ∃m,m<n/\I m s₃) E s₂) E s₁') E s₁) E s)
  (hE:∀e s',E e s'->notedBy (model prog w) A env (fun e s'=>R (.error e) s') e s')
  (n:Nat) (h:I n s) :
  codeAny (model prog w) A (.compLoop (.ListComp elt [⟨target,iter,ifs,0⟩] scope pos) 0 it acc env) R s:=by
 refine codeAny_loop rfl I (fun n s hI=>?_) n h
 show wpAny _ A ((compTurn (.ListComp elt [⟨target,iter,ifs,0⟩] scope pos) 0 it acc env).onRaise (fun x=>do noteFrame x env;theTreesLotGoes x)) _ _ s
 refine wpAny_noted ?_
 rw[compTurn_list]
 refine wpAny_bind (wpAny_standAt (wpAny_bind (wpAny_mono (turn n s hI) (fun r s₁ h₁=>?_) hE)))
 cases r with
 |none=>exact wpAny_pure h₁
 |some v =>
  refine wpAny_bind (wpAny_mono h₁ (fun _ s₁' h₁'=>?_) hE)
  refine wpAny_bind (wpAny_mono h₁' (fun _ s₂ h₂=>wpAny_bind (wpAny_mono h₂ (fun ok s₃ h₃=>?_) hE)) hE)
  cases ok with
  |false=>exact wpAny_pure ⟨rfl,h₃⟩
  |true =>
   exact wpAny_bind (wpAny_bind (wpAny_mono h₃ (fun x s₄ h₄=>wpAny_bind (wpAny_mono h₄ (fun _ s₅ h₅=>wpAny_pure (wpAny_pure ⟨rfl,h₅⟩)) hE)) hE))
end
noncomputable def bD(X:Cx)(scope:Scope)(N':List Str)(fp:List Addr)(C:Addr)(s₂:Shared)(H₂:Hp):Cx where
 prog:=X.prog
 w:=X.w
 K:=X.K
 mg:=X.mg
 base:=X.base
 A:=X.A
 N:=N'
 s₀:=s₂
 H₀:=H₂
 env:=compEnvC scope (cu X.env scope.names []) C X.env
 outer:=X.stack
 stack:=X.stack
 ex:=fp
 fn:=fun _=>false
 calm:=X.calm
 pn:=[]
 xe:=fun _ _=>False
noncomputable def vA(X:Cx)(ifs:List Expr)(t:TT):Prop :=
 ∀(pins:List (Addr×Obj)) (s:Shared) (σ:St) (H:Hp) (Q:Bool->Hp->Prop),Inv X pins σ H s->t σ H Q ->
  wpAny (model X.prog X.w) X.A (forIn ifs true fun c r=>if r=true then do let ok ←isTrue c X.env (eval c X.env);pure (ForInStep.yield ok)else pure (ForInStep.yield r)) (TP X pins σ Q) X.xe s
noncomputable def m8:TT:=fun _ H Q=>Q true H
theorem ju{X:Cx}:vA X [] m8:=fun pins s σ H Q I h=>by
 rw[List.forIn_nil]
 exact wpAny_pure ⟨H,I,h⟩
theorem iD{X:Cx}{c:Expr}{t:TT}(hc:PT X c t):vA X [c] t:=fun pins s σ H Q I h=>by
 simp only[List.forIn_cons,List.forIn_nil,if_true]
 exact wpAny_bind (wpAny_bind (wpAny_mono (hc pins s σ H Q I h) (fun b s' hb=>wpAny_pure (wpAny_pure hb)) fun _ _ x=>x))
noncomputable def gX(own:Nat)(fr:List Nat)(σ:St):St:=List.replicate own none++fr.map fun j=>(σ[j]?).join
noncomputable def gY(J:It)(g:TG)(tt:TT)(te:TE)(Q:VK)(σ0:St)(H0:Hp):Prop:=∃W:Nat->Nat->St->List V->Hp->Prop,(∃m,W 0 m σ0 [] H0)/\∀i m σ' vs H,W i m σ' vs H ->
 (J.stop i H/\vs.length<=sizeLine/\∀p,H p=none->Q (.ref p) (upd H p (.lst vs))) \/
 (J.go i H/\vs.length<sizeLine/\∃N:St->List V->Hp->Prop,(∀σ2 vs2 H2,N σ2 vs2 H2->∃m',m' < m/\W (i+1) m' σ2 vs2 H2)/\∀x H',J.yld i H x H'->g x σ' H' fun σ2 H2=>tt σ2 H2 fun ok H3 =>
  if ok=true then te σ2 H3 fun v H4=>N σ2 (vs++[v]) H4 else N σ2 vs H3)
noncomputable def uh(own:Nat)(fr:List Nat)(wi:TI)(g:TG)(tt:TT)(te:TE):TE:=fun σ H Q=>wi σ H fun J H1=>gY J g tt te Q (gX own fr σ) H1
section
variable {X:Cx}{pins:List (Addr×Obj)}{σ:St}{H:Hp}{s:Shared}
theorem wR{own:List Str}{fr:List Nat}(hl:σ.length=X.N.length){i:Nat}{x:Str}{v:V}(h1:(own++fr.map fun j=>X.N.getD j Str.empty)[i]?=some x)(h2:(gX own.length fr σ)[i]?=some (some v)) :
  ∃j∈fr,X.N[j]?=some x/\X.N.getD j Str.empty=x/\σ[j]?=some (some v):=by
 unfold gX at h2
 by_cases hi:i<own.length
 ·rw[List.getElem?_append_left (by simpa using hi),List.getElem?_replicate,if_pos hi]at h2
  cases h2
 ·rw[List.getElem?_append_right (by simpa using hi),List.length_replicate,List.getElem?_map]at h2
  rw[List.getElem?_append_right (by omega),List.getElem?_map]at h1
  cases e:fr[i-own.length]? with
  |none=>rw[e]at h2;cases h2
  |some j =>
   rw[e]at h1 h2
   simp only[Option.map_some,Option.some.injEq]at h1 h2
   have hj:σ[j]?=some (some v):=by
    cases q:σ[j]? with
    |none=>rw[q]at h2;cases h2
    |some o=>rw[q]at h2;exact congrArg some h2
   have hjl:j<X.N.length:=by rw[←hl];exact(List.getElem?_eq_some_iff.mp hj).1
   refine⟨j,List.mem_of_getElem? e,?_,h1,hj⟩
   rw[←h1,List.getD_eq_getElem?_getD,List.getElem?_eq_getElem hjl]
   rfl
theorem m9{scope:Scope}{own:List Str}{fr:List Nat}{fp:List Addr}{C:Addr}{h₁:Heap}{tk:Nat}{m:Str->Option Value}(I:Inv X pins σ H s)
  (hkind:scope.kind=.function) (hcell:∀x∈scope.names,x.2≠.cell) (hfr:∀x∈scope.names,x.2=.free->X.env.scope.names.lookup x.1=some .cell\/X.env.scope.names.lookup x.1=some .free)
  (hin:∀j∈fr,scope.names.lookup (X.N.getD j Str.empty)=some .free) (hC:s.heap.objs.size<=C) (hf:∀b∈fp,lQ X pins H b) (hfo:∀b∈fp,b<s.heap.objs.size)
  (old:∀b o,s.heap.get? b=some o->h₁.get? b=some o) (hn:h₁.Ns C m) :
  Inv (bD X scope (own++fr.map fun j=>X.N.getD j Str.empty) fp C s H) [] (gX own.length fr σ) H {s with heap:=h₁,toks:=tk}:=by
 have hfree:∀x∈scope.names,x.2=.free->∃c,X.env.cells.lookup x.1=some c:=fun x hx e=>I.ok.has x.1 (hfr x hx e)
 have sub:∀y c,(cu X.env scope.names []).lookup y=some c->X.env.cells.lookup y=some c:=fS _ _ hfree (by intro y c e;simp at e)
 have hasF:∀y,scope.names.lookup y=some .free->∃c,(cu X.env scope.names []).lookup y=some c:=fun y e=>j8 _ _ _ (PySem.mem_of_lookup e)
 refine⟨⟨I.ok.mod,?_,I.ok.glob,I.ok.blt,hC,fun x y c h1 h2=>I.ok.inj x y c (sub x c h1) (sub y c h2),fun x hx=>?_,(fun x c hx=>nomatch hx),I.ok.hd,I.ok.frames,.inl rfl,fun b hb=>?_,I.bs,Nat.le_trans I.ok.bsz I.sz,fun b o e hb=>?_,fun b hb z=>?_,I.stack,I.tX⟩,
  rfl,I.bare,Un.kept old,⟨m,hn,fun i x v h1 h2 h3=>?_⟩,fun x c e=>?_,I.hok.fresh hC,fun x c e=>I.freeC x c (sub x c e),fun p hp=>absurd (show p∈([]:List (Addr×Obj))from hp) (by simp),I.hok.kept old,?_⟩
 ·exact hkind
 ·have hx':(relabel scope X.env).names.lookup x=some .cell\/(relabel scope X.env).names.lookup x=some .free:=hx
  have hx2:scope.names.lookup x=some .free:=by
   rcases hx' with e|e
   ·rcases iw e with e|⟨_,e⟩
    ·exact absurd rfl (hcell _ (PySem.mem_of_lookup e))
    ·exact e
   ·rcases iw e with e|⟨z,_⟩
    ·exact e
    ·cases z
  exact hasF x hx2
 ·refine⟨Nat.ne_of_lt (Nat.lt_of_lt_of_le (hfo b hb) hC),fun x c e=>(hf b hb).2.2.2.2.1 x c (sub x c e)⟩
 ·rcases(hf b hb).2.2.2.1 with z|z
  ·exact I.ok.noex b o e z
  ·exact absurd (Nat.lt_of_lt_of_le (Heap.lt_size e) (Nat.le_trans I.ok.bsz z)) (Nat.lt_irrefl _)
 ·have hb':b∈fp:=hb
  have z':b∈frs X.stack:=z
  rcases List.mem_cons.mp (I.mK b z')with e|e
  ·exact(hf b hb').2.1 e
  ·exact(hf b hb').2.2.1 e
 ·obtain⟨j,hj,e1,e2,e3⟩:=wR (own:=own) I.len h1 h2
  have hxf:scope.names.lookup x=some .free:=by rw[←e2];exact hin j hj
  have hk:=hfr _ (PySem.mem_of_lookup hxf) rfl
  obtain⟨m0,hn0,hl0⟩:=I.loc
  obtain⟨u,r,l⟩:=hl0 j x v e1 e3 (.inr hk)
  refine⟨u,r,?_⟩
  rcases l with⟨k,_⟩|⟨_,c,ec,z⟩
  ·have k':X.env.scope.names.lookup x=some .local:=k
   rcases hk with q|q<;>(rw[show X.env.scope.names.lookup x=_ from q]at k';cases k')
  ·obtain⟨c',ec'⟩:=hasF x hxf
   have:=sub x c' ec'
   rw[ec]at this
   cases this
   obtain⟨o,ho,hd⟩:=z
   exact .inr ⟨j9 hxf,c,ec',o,old c o ho,hd⟩
 ·obtain⟨v,o,ho,hd⟩:=I.cell x c (sub x c e)
  exact⟨v,o,old c o ho,hd⟩
 ·show(gX own.length fr σ).length=(own++fr.map fun j=>X.N.getD j Str.empty).length
  simp[gX]
theorem nc{scope:Scope}{N':List Str}{fp:List Addr}{C D:Addr}{s':Shared}{H':Hp}{σ':St}{pins':List (Addr×Obj)}{vs:List V}{ys:Array Value}{h'':Heap}(I:Inv X pins σ H s)(hf:∀b∈fp,lQ X pins H b)
  (I':Inv (bD X scope N' fp C s H) pins' σ' H' s') (hC:s.heap.objs.size<=C) (hD:s.heap.objs.size<=D) (hDC:D≠C) (hDn:H' D=none) (pl:s'.heap.PlainList D ys) (rv:Vals vs ys.toList) (hz:vs.length<=sizeLine) (hs:Heap.SameBut C s'.heap h'') :
  Inv X pins σ (upd H' D (.lst vs)) {s' with heap:=h''}:=by
 have un:Un (frs X.stack) fp H H' s.heap s'.heap:=I'.base
 have hCn:H' C=none:=I'.free
 have at':∀b,b≠C->h''.get? b=s'.heap.get? b:=fun b hb=>hs.2 b hb
 have neC:∀b o,s.heap.get? b=some o->b≠C:=fun b o e=>Nat.ne_of_lt (Nat.lt_of_lt_of_le (Heap.lt_size e) hC)
 have neD:∀b o,s.heap.get? b=some o->b≠D:=fun b o e=>Nat.ne_of_lt (Nat.lt_of_lt_of_le (Heap.lt_size e) hD)
 have okHD:∀b u,H b=some u->b≠D:=fun b u e=>Nat.ne_of_lt (Nat.lt_of_lt_of_le (I.hok.lt e) hD)
 have un':Un (frs X.stack) fp H (upd H' D (.lst vs)) s.heap h'':=by
  refine⟨fun b o e n h1 h2=>?_,fun b o e n h1 h2=>?_,fun b o e n h2=>?_,fun b o e h2=>?_,fun b xs e=>?_,fun b o u e=>?_,fun b ps e=>?_⟩
  ·rw[at' b (neC b o e)];exact un.keep b o e n h1 h2
  ·rw[at' b (neC b o e)];exact un.slot b o e n h1 h2
  ·rw[ay (neD b o e)];exact un.free b o e n h2
  ·rw[at' b (neC b o e)];exact un.there b o e h2
  ·rw[ay (okHD b _ e)];exact un.tups b xs e
  ·rw[ay (okHD b _ e)];exact un.frzs b o u e
  ·rw[ay (okHD b _ e)];exact un.tbls b ps e
 have hok:jY X.prog X.w (upd H' D (.lst vs)) h'':=fun b u e=>by
  by_cases hb:b=D
  ·subst hb
   rw[af]at e
   cases e
   obtain⟨n,ho⟩:=pl
   refine⟨hz,ys.toList,n,rv,?_⟩
   rw[at' b hDC]
   simpa using ho
  ·rw[ay hb]at e
   refine(I'.hok b u e).stay (fun c v hc q=>?_) (fun c q=>?_) fun c xs q=>?_
   ·rw[at' c ?_];exact q
    rintro rfl
    rcases hc with z|z
    ·rw[←z,hCn]at e;cases e
    ·rw[hCn]at z;cases z
   ·rw[ay (fun z=>by rw[z,hDn]at q;cases q)];exact q
   ·rw[ay (fun z=>by rw[z,hDn]at q;cases q)];exact q
 exact I.Bu (s':={s' with heap:=h''}) (ch:=fp) I'.os un' hok I'.bare fun b hb=>⟨(hf b hb).2.2.2.1,(hf b hb).2.1,(hf b hb).2.2.2.2.1,(hf b hb).2.2.2.2.2⟩
end
section
variable {X:Cx}
theorem yP{elt iter tg:Expr}{ifs:List Expr}{scope:Scope}{pos:Pos}{wi:TI}{g:TG}{tt:TT}{te:TE}(own:List Str)(fr:List Nat)(hc:X.calm=true)
  (hkind:scope.kind=.function) (hcell:∀x∈scope.names,x.2≠.cell) (hnames:∀x∈scope.names,x.2=.local->scope.names.lookup x.1=some .local)
  (hfr:∀x∈scope.names,x.2=.free->X.env.scope.names.lookup x.1=some .cell\/X.env.scope.names.lookup x.1=some .free)
  (hin:∀j∈fr,scope.names.lookup (X.N.getD j Str.empty)=some .free)
  (hi:PI X tg iter wi) (hg:∀fp C s H,PG (bD X scope (own++fr.map fun j=>X.N.getD j Str.empty) fp C s H) tg g)
  (ht:∀fp C s H,vA (bD X scope (own++fr.map fun j=>X.N.getD j Str.empty) fp C s H) ifs tt)
  (he:∀fp C s H,PE (bD X scope (own++fr.map fun j=>X.N.getD j Str.empty) fp C s H) elt te)
  (hs:∀x,foldedSetIterable iter X.env x=pure x:=by intro _;rfl):PE X (.ListComp elt [⟨tg,iter,ifs,0⟩] scope pos) (uh own.length fr wi g tt te):=by
 intro pins s σ H Q I h
 rw[eval_ListComp]
 have hfree:∀x∈scope.names,x.2=.free->∃c,X.env.cells.lookup x.1=some c:=fun x hx e=>I.ok.has x.1 (hfr x hx e)
 refine wpAny_comprehension_free (use:=none) rfl hs (jJ hfree) hkind hnames ?_
 refine cK (hi pins s σ H _ I h) fun v s1 h1=>cK h1 fun itv s2 h2=>?_
 obtain⟨it,fp,tn,J,H2,e,I2,T,st2,f2,W,⟨m0,w0⟩,turn⟩:=h2
 subst e
 have hfo:∀b∈fp,b<s2.heap.objs.size:=fun b hb=>by obtain⟨o,e,_⟩:=T.obj 0 _ st2 b hb;exact Heap.lt_size e
 refine wpAny_newObj_type (wpAny_newFunctionEnv hcell (by intro y hy;simp at hy) (fun h₁ hns₁ hsb₁=>?_) hkind)
 dsimp only at hns₁ hsb₁⊢
 generalize hH2:s2.heap.push {cls:=.type "list",dict:=none,data:=.seq ([]:List Value).toArray}=G2 at hns₁ hsb₁⊢
 have hC:G2.objs.size=s2.heap.objs.size+1:=by rw[←hH2,Heap.size_push]
 have hDC:s2.heap.objs.size≠G2.objs.size:=by rw[hC];exact Nat.ne_of_lt (Nat.lt_succ_self _)
 have hCle:s2.heap.objs.size<=G2.objs.size:=by rw[hC];exact Nat.le_succ _
 have old:∀b o,s2.heap.get? b=some o->h₁.get? b=some o:=fun b o e=>hsb₁.extBut b o (by rw[hC];exact Nat.ne_of_lt (Nat.lt_succ_of_lt (Heap.lt_size e))) (Heap.get?_push_of_some _ (hH2▸Heap.get?_push_of_some _ e))
 have hacc:h₁.PlainList s2.heap.objs.size #[]:=⟨_,hsb₁.extBut _ _ hDC (Heap.get?_push_of_some _ (hH2▸Heap.get?_push_size _ rfl))⟩
 have I3:Inv (bD X scope (own++fr.map fun j=>X.N.getD j Str.empty) fp G2.objs.size s2 H2) [] (gX own.length fr σ) H2 {s2 with heap:=h₁,toks:=s2.toks+([]:List (Str×Value)).length} :=
  m9 I2 hkind hcell hfr hin hCle f2 hfo old hns₁
 have st3:tn 0 h₁:=T.keep 0 _ _ st2 fun b _ o e=>old b o e
 have hDf:s2.heap.objs.size∉fp:=fun hm=>Nat.lt_irrefl _ (hfo _ hm)
 have hDn2:H2 s2.heap.objs.size=none:=I2.hok.fresh (Nat.le_refl _)
 have sub:∀y c,(cu X.env scope.names []).lookup y=some c->X.env.cells.lookup y=some c:=fS _ _ hfree (by intro y c e;simp at e)
 have cellD:∀y c,(cu X.env scope.names []).lookup y=some c->c≠s2.heap.objs.size:=fun y c e=>by
  obtain⟨_,o,ho,_⟩:=I2.cell y c (sub y c e)
  exact Nat.ne_of_lt (Heap.lt_size ho)
 have Dfs:s2.heap.objs.size∉frs X.stack:=fun z=>by
  rcases List.mem_cons.mp (I2.mK _ z)with e|e
  ·exact absurd I2.lt (by rw[←e];exact Nat.lt_irrefl _)
  ·exact I2.yw (Nat.le_refl _) e
 -- the iterator's records,in the block's context
 have stat:∀{H':Hp}{pl:List (Addr×Obj)},(∀b∈fp,H' b=none)->(∀p∈pl,p.1=s2.heap.objs.size)->∀b∈fp,lQ (bD X scope (own++fr.map fun j=>X.N.getD j Str.empty) fp G2.objs.size s2 H2) pl H' b:=fun{H' pl} hn hp b hb=>by
  refine⟨hn b hb,(I3.ok.exf b hb).1,I3.ok.exfs b hb,.inl hb,(I3.ok.exf b hb).2,fun p hpp z=>?_⟩
  have hpp':p∈pl:=by simpa[bD]using hpp
  exact hDf (by rw[←hp p hpp',z];exact hb)
 have pinD:∀{σ':St}{H':Hp}{s':Shared}{ys:Array Value}{n:Nat},Inv (bD X scope (own++fr.map fun j=>X.N.getD j Str.empty) fp G2.objs.size s2 H2) [] σ' H' s'->H' s2.heap.objs.size=none->s'.heap.get? s2.heap.objs.size=some {cls:=.type "list",data:=.seq ys n} ->
   Inv (bD X scope (own++fr.map fun j=>X.N.getD j Str.empty) fp G2.objs.size s2 H2) [(s2.heap.objs.size,{cls:=.type "list",data:=.seq ys n})] σ' H' s':=fun{σ' H' s' ys n} J hn e=>J.eY fun p hp=>by
  have e':p=(s2.heap.objs.size,{cls:=.type "list",data:=.seq ys n}):=by simpa using hp
  subst e'
  exact⟨e,hn,hDC,Dfs,fun v z=>nomatch z⟩
 have loop:codeAny (model X.prog X.w) X.A (.compLoop (.ListComp elt [⟨tg,iter,ifs,0⟩] scope pos) 0 (.ref it) (.ref s2.heap.objs.size) (compEnvC scope (cu X.env scope.names []) G2.objs.size X.env))
   (compPost (model X.prog X.w) X.A X.xe none (EP X pins σ Q) (.ref s2.heap.objs.size) G2.objs.size) {s2 with heap:=h₁,toks:=s2.toks+([]:List (Str×Value)).length}:=by
  refine fu (E:=fun _ _=>False) (fun n s'=>∃i σ' H' vs ys,Inv (bD X scope (own++fr.map fun j=>X.N.getD j Str.empty) fp G2.objs.size s2 H2) [] σ' H' s'/\tn i s'.heap/\(∀b∈fp,H' b=none)/\H' s2.heap.objs.size=none/\s'.heap.PlainList s2.heap.objs.size ys/\Vals vs ys.toList/\W i n σ' vs H')
   ?_ (fun _ _ z=>z.elim) m0 ⟨0,_,H2,[],#[],I3,st3,fun b hb=>(f2 b hb).1,hDn2,hacc,.nil,w0⟩
  rintro n s3 ⟨i,σ3,H3,vs,ys,J3,st3,fr3,dn3,⟨pn,pl3⟩,rv,w3⟩
  have J3':=pinD J3 dn3 pl3
  have hpins:∀p∈[(s2.heap.objs.size,({cls:=.type "list",data:=.seq ys pn}:Obj))],p.1=s2.heap.objs.size:=fun p hp=>by
   have e':p=(s2.heap.objs.size,{cls:=.type "list",data:=.seq ys pn}):=by simpa using hp
   rw[e']
  rcases turn i n σ3 vs H3 w3 with⟨stop,hz,q⟩|⟨go,hz,N,hN,step⟩
  ·refine cK (T.done (bD X scope (own++fr.map fun j=>X.N.getD j Str.empty) fp G2.objs.size s2 H2) rfl rfl rfl hc i _ s3 σ3 H3 (fun _ _=>False) J3' (stat fr3 hpins) st3 stop) fun r s4 ⟨hr,J4⟩=>?_
   subst hr
   obtain⟨m4,hn4,_⟩:=id J4.loc
   refine⟨m4,hn4,fun h' hs'=>?_⟩
   have e4:s4.heap.get? s2.heap.objs.size=some {cls:=.type "list",data:=.seq ys pn}:=(J4.pin (s2.heap.objs.size,{cls:=.type "list",data:=.seq ys pn}) (List.mem_append_right _ (by simp))).1
   exact⟨.ref s2.heap.objs.size,_,nc I2 f2 J4 hCle (Nat.le_refl _) hDC dn3 ⟨pn,e4⟩ rv hz hs',rfl,q _ dn3⟩
  ·refine cK (T.item (bD X scope (own++fr.map fun j=>X.N.getD j Str.empty) fp G2.objs.size s2 H2) rfl rfl rfl hc i _ s3 σ3 H3 (fun _ _=>False) J3' (stat fr3 hpins) st3 go) fun r s4 ⟨u,hr,h4⟩=>?_
   subst hr
   refine cK h4 fun _ s5 ⟨x,H5,J5,r5,y5,st5,fr5⟩=>?_
   have J5':=J5.pinned (stat fr5 hpins) (T.obj _ _ st5)
   refine cK (hg fp _ s2 H2 _ s5 σ3 H5 x u _ J5' r5 (step x H5 y5)) fun _ s6 ⟨σ6,H6,J6,q6⟩=>?_
   refine cK (ht fp _ s2 H2 _ s6 σ6 H6 _ J6 q6) fun ok s7 ⟨H7,J7,q7⟩=>?_
   -- what stood pinned through the turn
   have after:∀{s8:Shared}{H8:Hp},Inv (bD X scope (own++fr.map fun j=>X.N.getD j Str.empty) fp G2.objs.size s2 H2) ([(s2.heap.objs.size,({cls:=.type "list",data:=.seq ys pn}:Obj))]++kL fp s5.heap) σ6 H8 s8 ->
     tn (i+1) s8.heap/\(∀b∈fp,H8 b=none)/\H8 s2.heap.objs.size=none/\s8.heap.get? s2.heap.objs.size=some {cls:=.type "list",data:=.seq ys pn}:=fun{s8 H8} J8=>by
    refine⟨T.keep _ _ _ st5 fun b hb o e=>(J8.pin (b,o) (List.mem_append_right _ (List.mem_append_right _ (eL hb e)))).1,fun b hb=>?_,?_,?_⟩
    ·obtain⟨o,e,d⟩:=T.obj _ _ st5 b hb
     exact(J8.pin (b,o) (List.mem_append_right _ (List.mem_append_right _ (eL hb e)))).2.1
    ·exact(J8.pin (s2.heap.objs.size,{cls:=.type "list",data:=.seq ys pn}) (List.mem_append_right _ (List.mem_append_left _ (by simp)))).2.1
    ·exact(J8.pin (s2.heap.objs.size,{cls:=.type "list",data:=.seq ys pn}) (List.mem_append_right _ (List.mem_append_left _ (by simp)))).1
   cases ok with
   |false =>
    obtain⟨m',hm,w7⟩:=hN _ _ _ q7
    obtain⟨a1,a2,a3,a4⟩:=after J7
    exact⟨m',hm,i+1,σ6,H7,vs,ys,J7.eY (fun p hp=>absurd hp (by simp)),a1,a2,a3,⟨pn,a4⟩,rv,w7⟩
   |true =>
    refine cK (he fp _ s2 H2 _ s7 σ6 H7 _ J7 q7) fun y s8 ⟨v8,H8,J8,r8,n8⟩=>?_
    obtain⟨m',hm,w8⟩:=hN _ _ _ n8
    obtain⟨a1,a2,a3,a4⟩:=after J8
    have J9:Inv (bD X scope (own++fr.map fun j=>X.N.getD j Str.empty) fp G2.objs.size s2 H2) [] σ6 H8 s8:=J8.eY (fun p hp=>absurd hp (by simp))
    have hys:ys.size<=sizeLine:=by
     have e1:vs.length=ys.toList.length:=rv.length
     have e2:ys.toList.length=ys.size:=by simp
     omega
    refine wpAny_list_append_plain (hsz:=hys) ⟨pn,a4⟩ fun h₅ hl₅ hs₅=>?_
    refine⟨m',hm,i+1,σ6,H8,vs++[v8],ys.push y,J9.turned (t':=s8.toks) (it:=s2.heap.objs.size) (fun b o hb e=>by rw[hs₅.2 b hb];exact e) a3 hDC (.inr (Nat.le_refl _)) cellD (fun p hp=>absurd (show p∈([]:List (Addr×Obj))from hp) (by simp)),
     T.keep _ _ _ a1 fun b hb o e=>(hs₅.2 b (fun z=>hDf (z▸hb))).trans e,a2,a3,hl₅,?_,w8⟩
    have:Vals (vs++[v8]) (ys.toList++[y]):=rv.append (.cons r8 .nil)
    simpa using this
 exact codeAny_compStart_list loop (T.self X.A 0 _ _ _ st3 loop)
end
noncomputable def qo(scope sc:Scope)(N0:List Str)(fr:List Nat):Bool :=
 scope.kind == .function&&scope.names.all (fun x=>x.2 != .cell&&(x.2 != .local||scope.names.lookup x.1 == some .local)&&(x.2 != .free||sc.names.lookup x.1 == some .cell||sc.names.lookup x.1 == some .free)) &&
  fr.all (fun j=>scope.names.lookup (N0.getD j Str.empty) == some .free)
theorem eE{X:Cx}{elt iter tg:Expr}{ifs:List Expr}{scope:Scope}{pos:Pos}{wi:TI}{g:TG}{tt:TT}{te:TE}(sc:Scope)(N0 own:List Str)(fr:List Nat)(hc:X.calm=true)(hsc:X.env.scope=sc)(hN:X.N=N0)
  (ok:qo scope sc N0 fr=true) (hi:PI X tg iter wi) (hg:∀fp C s H,PG (bD X scope (own++fr.map fun j=>N0.getD j Str.empty) fp C s H) tg g)
  (ht:∀fp C s H,vA (bD X scope (own++fr.map fun j=>N0.getD j Str.empty) fp C s H) ifs tt)
  (he:∀fp C s H,PE (bD X scope (own++fr.map fun j=>N0.getD j Str.empty) fp C s H) elt te)
  (hs:∀x,foldedSetIterable iter X.env x=pure x:=by intro _;rfl):PE X (.ListComp elt [⟨tg,iter,ifs,0⟩] scope pos) (uh own.length fr wi g tt te):=by
 subst hsc hN
 unfold qo at ok
 simp only[Bool.and_eq_true,List.all_eq_true,bne_iff_ne,beq_iff_eq,Bool.or_eq_true]at ok
 obtain⟨⟨k1,k2⟩,k3⟩:=ok
 refine yP own fr hc k1 (fun x hx=>(k2 x hx).1.1) (fun x hx e=>?_) (fun x hx e=>?_) (fun j hj=>k3 j hj) hi hg ht he hs
 ·rcases(k2 x hx).1.2 with z|z
  ·exact absurd e z
  ·exact z
 ·rcases(k2 x hx).2 with(z|z)|z
  ·exact absurd e z
  ·exact .inl z
  ·exact .inr z
section
variable {g:TG}{tt:TT}{te:TE}{Q:VK}{σ0:St}{H0:Hp}
theorem lZ{J:It}(n:Nat)(Pv:Nat->St->List V->Hp->Prop)(h0:Pv 0 σ0 [] H0)(hlen:∀i σ vs H,i<=n->Pv i σ vs H->vs.length<=i)(hn:n<=sizeLine)(hgo:∀i σ vs H,i<n->Pv i σ vs H->J.go i H)(hst:∀σ vs H,Pv n σ vs H->J.stop n H)
  (hs:∀i σ vs H x H',i<n->Pv i σ vs H->J.yld i H x H'->g x σ H' fun σ2 H2=>tt σ2 H2 fun ok H3=>if ok=true then te σ2 H3 fun v H4=>Pv (i+1) σ2 (vs++[v]) H4 else Pv (i+1) σ2 vs H3)
  (hd:∀σ vs H,Pv n σ vs H->∀p,H p=none->Q (.ref p) (upd H p (.lst vs))):gY J g tt te Q σ0 H0:=by
 refine⟨fun i m σ vs H=>m=n-i/\i<=n/\Pv i σ vs H,⟨n,by simp,Nat.zero_le _,h0⟩,?_⟩
 rintro i m σ vs H ⟨rfl,hi,p⟩
 have hv:=hlen i σ vs H hi p
 by_cases hlt:i<n
 ·exact .inr ⟨hgo i σ vs H hlt p,by omega,Pv (i+1),fun σ2 vs2 H2 q=>⟨n - (i+1),by omega,rfl,hlt,q⟩,fun x H' y=>hs i σ vs H x H' hlt p y⟩
 ·have e:i=n:=by omega
  subst e
  exact .inl ⟨hst σ vs H p,by omega,hd σ vs H p⟩
theorem gn{lo:Int}{n:Nat}(Pv:Nat->St->List V->Hp->Prop)(h0:Pv 0 σ0 [] H0)(hlen:∀i σ vs H,i<=n->Pv i σ vs H->vs.length<=i)(hn:n<=sizeLine)
  (hs:∀i σ vs H,i<n->Pv i σ vs H->g (.int (lo+i)) σ H fun σ2 H2=>tt σ2 H2 fun ok H3=>if ok=true then te σ2 H3 fun v H4=>Pv (i+1) σ2 (vs++[v]) H4 else Pv (i+1) σ2 vs H3)
  (hd:∀σ vs H,Pv n σ vs H->∀p,H p=none->Q (.ref p) (upd H p (.lst vs))):gY (Aw lo n) g tt te Q σ0 H0 :=
 lZ n Pv h0 hlen hn (fun _ _ _ _ h _=>h) (fun _ _ _ _=>Nat.le_refl _) (fun i σ vs H x H' hi p y=>by obtain⟨rfl,rfl⟩:=y;exact hs i σ vs _ hi p) hd
theorem dX{K:PySem.W.Frag}{a:Addr}{xs:List V}(Pv:Nat->St->List V->Hp->Prop)(h0:Pv 0 σ0 [] H0)(hlen:∀i σ vs H,i<=xs.length->Pv i σ vs H->vs.length<=i)(hn:xs.length<=sizeLine)(hl:∀i σ vs H,i<=xs.length->Pv i σ vs H->cy K H a xs)
  (hs:∀i x σ vs H,xs[i]?=some x->Pv i σ vs H->g x σ H fun σ2 H2=>tt σ2 H2 fun ok H3=>if ok=true then te σ2 H3 fun v H4=>Pv (i+1) σ2 (vs++[v]) H4 else Pv (i+1) σ2 vs H3)
  (hd:∀σ vs H,Pv xs.length σ vs H->∀p,H p=none->Q (.ref p) (upd H p (.lst vs))):gY (zW K a) g tt te Q σ0 H0:=by
 refine lZ xs.length Pv h0 hlen hn (fun i σ vs H hi p=>⟨xs,xs[i],hl i σ vs H (Nat.le_of_lt hi) p,by simp[hi]⟩) (fun σ vs H p=>⟨xs,hl _ σ vs H (Nat.le_refl _) p,Nat.le_refl _⟩) (fun i σ vs H x H' hi p y=>?_) hd
 obtain⟨rfl,y⟩:=y
 exact hs i x σ vs _ (y xs (hl i σ vs _ (Nat.le_of_lt hi) p)) p
end
noncomputable abbrev qp(h:Heap)(z TI TO T:Addr)(flag:Bool):Prop :=
 h.get? z=some {cls:=.type "zip",dict:=none,data:=.fields #[rawInt T,.bool flag,.bool false,.ref TI,.ref TO],slots:=#[]}
section
variable {prog:Program}{w:World}{A:Around}{E:Value->Shared->Prop}{s:Shared}
theorem kT{z TI TO T:Addr}{flag:Bool}{oT:Obj}{Q:Bool->Shared->Prop}(hz:qp s.heap z TI TO T flag)(hT:s.heap.get? T=some oT)
  (hQ:∀h',qp h' z TI TO T true->Heap.SameBut z s.heap h'->Q false {s with heap:=h'}):wpAny (model prog w) A (Builtin.SmallTypes.ownedTupleIsFree (.ref z)) Q E s:=by
 unfold Builtin.SmallTypes.ownedTupleIsFree
 refine wpAny_bind (wpAny_field hz rfl (x:=rawInt T) rfl ?_)
 show wpAny _ _ (loadIfAlive ((T:Int).toNat)>>=_) _ _ _
 rw[Int.toNat_natCast]
 refine wpAny_bind (PySem.W.kdx_alive hT ?_)
 simp only[Option.isNone_some,Bool.false_eq_true,if_false]
 refine wpAny_bind (wpAny_field hz rfl (x:=.bool flag) rfl ?_)
 cases flag with
 |true =>
  rw[if_neg (show ¬((Value.bool true != Value.bool true)=true)from Bool.false_ne_true)]
  exact wpAny_pure (hQ s.heap hz (Heap.SameBut.refl _ _))
 |false =>
  rw[if_pos (show(Value.bool false != Value.bool true)=true from rfl)]
  exact wpAny_bind (wpAny_setField_rec hz (by simp) fun h' hz' hs'=>wpAny_pure (hQ h' hz' hs'))
end
theorem sZ:typeLookup (.type "zip") "__len__"=pure none:=by rw[typeLookup_type,builtinLookup_eq_fast];kernel_rfl
theorem rA:typeLookup (.type "zip") "__length_hint__"=pure none:=by rw[typeLookup_type,builtinLookup_eq_fast];kernel_rfl
structure iY(h:Heap) (lo:Nat) (xs ys:Array Value) (as:List Nat):Prop where
 rise:as.Pairwise (· < ·)
 low:∀a∈as,lo<=a
 pairs:∀(j:Nat) (a:Nat),as[j]?=some a->∃x y,xs[j]?=some x/\ys[j]?=some y/\IsPair h a x y
theorem iY.lt{h:Heap}{lo:Nat}{xs ys:Array Value}{as:List Nat}(g:iY h lo xs ys as){a:Nat}(ha:a∈as):a<h.objs.size:=by
 obtain⟨j,hj⟩:=List.mem_iff_getElem?.mp ha
 obtain⟨_,_,_,_,e⟩:=g.pairs j a hj
 exact Heap.lt_size e
theorem iY.keep{h h':Heap}{lo:Nat}{xs ys:Array Value}{as:List Nat}(g:iY h lo xs ys as)(k:∀c o,lo<=c->h.get? c=some o->h'.get? c=some o):iY h' lo xs ys as :=
 ⟨g.rise,g.low,fun j a e=>by
  obtain⟨x,y,e1,e2,e3⟩:=g.pairs j a e
  exact⟨x,y,e1,e2,k a _ (g.low a (List.mem_of_getElem? e)) e3⟩⟩
theorem iY.snoc{h h':Heap}{lo:Nat}{xs ys:Array Value}{as:List Nat}{n:Nat}{x y:Value}(g:iY h lo xs ys as)(k:∀c o,lo<=c->h.get? c=some o->h'.get? c=some o)(hn:lo<=n)(hn2:h.objs.size<=n)(hx:xs[as.length]?=some x)(hy:ys[as.length]?=some y)(hp:IsPair h' n x y) :
  iY h' lo xs ys (as++[n]):=by
 have g':=g.keep k
 refine⟨List.pairwise_append.mpr ⟨g.rise,List.pairwise_singleton _ _,fun a ha b hb=>?_⟩,fun a ha=>?_,fun j a e=>?_⟩
 ·rw[List.mem_singleton.mp hb];exact Nat.lt_of_lt_of_le (g.lt ha) hn2
 ·rcases List.mem_append.mp ha with h|h
  ·exact g.low a h
  ·rw[List.mem_singleton.mp h];exact hn
 ·rcases Nat.lt_trichotomy j as.length with hj|hj|hj
  ·rw[List.getElem?_append_left hj]at e;exact g'.pairs j a e
  ·subst hj
   rw[List.getElem?_append_right (Nat.le_refl _),Nat.sub_self]at e
   cases e
   exact⟨x,y,hx,hy,hp⟩
  ·rw[List.getElem?_eq_none (by rw[List.length_append,List.length_singleton];omega)]at e;cases e
section
variable {prog:Program}{w:World}{A:Around}{R:Result->Shared->Prop}{s:Shared}
end
section
variable {prog:Program}{w:World}{A:Around}{E:Value->Shared->Prop}{s:Shared}
end
section
variable {X:Cx}{pins:List (Addr×Obj)}{σ:St}{H H':Hp}{s:Shared}{h':Heap}
theorem Inv.grow{t':Nat}(I:Inv X pins σ H s)(k:∀b u,s.heap.get? b=some u->h'.get? b=some u)(hH:∀b,b<s.heap.objs.size->H' b=H b)
  (hnew:∀b o,s.heap.objs.size<=b->H' b=some o->cW X.prog X.w H' h' b o):Inv X pins σ H' {s with heap:=h',toks:=t'}:=by
 have up:∀b o,H b=some o->H' b=some o:=fun b o e=>by rw[hH b (I.hok.lt e)];exact e
 refine I.un (h':=h') ⟨fun b o e _ _ _=>k b o e,fun b o e _ _ _=>⟨o.slots,k b o e⟩,fun b o e n _=>by rw[hH b (Heap.lt_size e)];exact n,fun b o e _=>⟨o,k b o e⟩,fun b xs e=>up b _ e,fun b o u e=>up b _ e,fun b ps e=>⟨#[],by rw[up b _ e];simp⟩⟩ fun b o e=>?_
 by_cases hb:b<s.heap.objs.size
 ·rw[hH b hb]at e
  exact(I.hok b o e).stay (fun c u _ q=>k c u q) (fun c q=>up c _ q) fun c xs q=>up c _ q
 ·exact hnew b o (Nat.not_lt.mp hb) e
end
noncomputable def iP:List Nat->List V->List V->Hp->Hp
 |a::as,x::xs,y::ys,H=>upd (iP as xs ys H) a (.tup [x,y])
 |_,_,_,H=>H
theorem rB{H:Hp}{b:Nat}:∀(as:List Nat) (xs ys:List V),b∉as->iP as xs ys H b=H b
 | [],_,_,_=>by unfold iP;rfl
 |a::as,[],_,_=>by unfold iP;rfl
 |a::as,_::_,[],_=>by unfold iP;rfl
 |a::as,x::xs,y::ys,h=>by
  unfold iP
  rw[ay (fun z=>h (by rw[z];exact List.mem_cons_self))]
  exact rB as xs ys fun z=>h (List.mem_cons_of_mem _ z)
theorem um{H:Hp}:∀(as:List Nat) (xs ys:List V),as.Pairwise (· < ·)->∀(j:Nat) (u:Nat) (x y:V),as[j]?=some u->xs[j]?=some x->ys[j]?=some y->iP as xs ys H u=some (.tup [x,y])
 | [],_,_,_,j,u,x,y,h,_,_=>by simp at h
 |a::as,[],_,_,j,u,x,y,_,h,_=>by simp at h
 |a::as,_::_,[],_,j,u,x,y,_,_,h=>by simp at h
 |a::as,x0::xs,y0::ys,hp,0,u,x,y,h1,h2,h3=>by
  simp at h1 h2 h3
  subst h1 h2 h3
  unfold iP
  exact af
 |a::as,x0::xs,y0::ys,hp,j+1,u,x,y,h1,h2,h3=>by
  simp at h1 h2 h3
  have hu:a<u:=(List.pairwise_cons.mp hp).1 u (List.mem_of_getElem? h1)
  unfold iP
  rw[ay (Nat.ne_of_gt hu)]
  exact um as xs ys (List.pairwise_cons.mp hp).2 j u x y h1 h2 h3
theorem oY{H:Hp}{b:Nat}{o:HO}:∀(as:List Nat) (xs ys:List V),iP as xs ys H b=some o->H b=some o\/∃(j:Nat) (x y:V),as[j]?=some b/\xs[j]?=some x/\ys[j]?=some y/\o=.tup [x,y]
 | [],_,_,h=>by unfold iP at h;exact .inl h
 |a::as,[],_,h=>by unfold iP at h;exact .inl h
 |a::as,_::_,[],h=>by unfold iP at h;exact .inl h
 |a::as,x::xs,y::ys,h=>by
  unfold iP at h
  by_cases hb:b=a
  ·subst hb
   rw[af]at h
   cases h
   exact .inr ⟨0,x,y,rfl,rfl,rfl,rfl⟩
  ·rw[ay hb]at h
   rcases oY as xs ys h with e|⟨j,x',y',e1,e2,e3,e4⟩
   ·exact .inl e
   ·exact .inr ⟨j+1,x',y',by simpa using e1,by simpa using e2,by simpa using e3,e4⟩
section
variable {X:Cx}{a b:Expr}{t:TA}{p1 p2 p3 p4:Pos}
theorem oZ:∀(as:List Nat),Vals (as.map V.ref) (as.map Value.ref)
 | []=>.nil
 |_::r=>.cons rfl (oZ r)
end
section
variable {X:Cx}{tg:Expr}
end
section
variable {X:Cx}
theorem uo:∀{ys:List Str}{us:List Value},Vals (ys.map V.str) us->StrsAre us ys
 | [],_,.nil=>.nil
 |_::_,_,.cons ⟨t,e⟩ r=>by subst e;exact .cons _ t (uo r)
noncomputable def rJoin(K:PySem.W.Frag):V->List V->Hp->VK->Prop:=fun x vs H Q=>∃z p ys,x=.str z/\vs=[.ref p]/\cy K H p (ys.map V.str)/\(ys.map (·.length)).sum+ys.length*z.length<=16777216/\Q (.str (Txt.join z ys)) H
theorem yQ:Cw X "str.join" (rJoin X.K):=by
 intro pins s σ H x xs v us Q I rx rs h
 obtain⟨z,p,ys,rfl,rfl,hq,hb,q⟩:=h
 obtain⟨t,rfl⟩:=rx
 obtain⟨u,rfl,ru⟩:=vals1 rs
 cases ru
 obtain⟨its,rv,pl,hz⟩:=I.list hq
 exact join_list pl.isList (by simpa using uo rv) hb fun t' k=>⟨.str _,H,I.tok _,⟨_,rfl⟩,q⟩
theorem rC:∀{bs:List Bool}{us:List Value},Vals (bs.map V.bl) us->LSm.BoolsAre us bs
 | [],_,.nil=>.nil
 |_::_,_,.cons e r=>by cases e;exact .cons _ (rC r)
theorem wU(hc:X.calm=true):fN X (.builtin "all") (fun xs H Q=>∃(p:Addr) (bs:List Bool),xs=[.ref p]/\cy X.K H p (bs.map V.bl)/\Q (.bl (bs.all id)) H):=by
 intro pins s σ H xs us Q I r h
 obtain⟨p,bs,rfl,hq,q⟩:=h
 obtain⟨u,rfl,ru⟩:=vals1 r
 cases ru
 obtain⟨its,rv,pl,hz⟩:=I.list hq
 have hb:=rC rv
 have hl:=pl.isList
 have hlt:p<s.heap.objs.size:=by obtain⟨_,e,_⟩:=hl;exact Heap.lt_size e
 refine call_all_walk (wpAny_pyIter_list hl ?_)
 refine⟨s.heap.objs.size,[s.heap.objs.size,p],[s.heap.objs.size],its.toArray.size,_,_,fun i=>(bs[i]?).getD true,rfl,Walks.list (A:=X.A.in1) (I.ok.hd hc) _ p (Nat.ne_of_lt hlt) its.toArray,
  ⟨⟨_,Heap.get?_push_size _ rfl,rfl,rfl⟩,hl.push _⟩,fun i v s' Q' E' hP hQ=>?_,fun h' tk hk=>?_⟩
 ·obtain⟨b,e,rfl⟩:=hb.get i v (by simpa using hP)
  simp only[e,Option.getD_some]at hQ
  exact wpAny_truthy_bool hQ
 ·have e:((List.range its.toArray.size).all fun i=>(bs[i]?).getD true)=bs.all id:=by
   rw[List.size_toArray,hb.length];exact LSm.range_all bs
  rw[e]
  exact⟨.bl _,H,I.kept (LSm.kept_iter hk),rfl,q⟩
noncomputable def C4:V->Option Int->Option Int->Hp->VK->Prop:=fun x lo hi H Q=>∃z,x=.str z/\z.length<=sizeLine/\Q (.str (Txt.slice z lo hi)) H
theorem part_of{v:Value}{o:Option Int}(h:IsPart v o):∃p:Option (Int×Tok),v=partValue p/\p.map (·.1)=o:=by
 cases h with
 |none=>exact⟨none,rfl,rfl⟩
 |int i t=>exact⟨some (i,t),rfl,rfl⟩
theorem wV:BO X C4:=by
 intro pins s σ H x v vl vu lo hi sl Q I rx hs pl pu h
 obtain⟨z,rfl,hz,q⟩:=h
 obtain⟨t,rfl⟩:=rx
 obtain⟨p1,rfl,e1⟩:=part_of pl
 obtain⟨p2,rfl,e2⟩:=part_of pu
 refine⟨"str",_,PySem.F.slot_str_getitem.lookup,typeIs_str s z t,?_⟩
 refine wpAny_getItem_str_slice (l:=p1) (u:=p2) (st:=none) hs rfl ?_
 subst e1 e2
 cases p1<;>cases p2<;>exact post_val_or_str ⟨Nat.le_trans (Txt.slice_le z _ _) hz,fun t' k=>⟨.str _,H,I.tok _,⟨_,rfl⟩,q⟩⟩
end
noncomputable def o6(xs:List V)(lo hi st:Option Int):List V:=(sliceRange (sliceBounds lo hi st xs.length).1 (sliceBounds lo hi st xs.length).2.1 (sliceBounds lo hi st xs.length).2.2).filterMap (xs[·]?)
theorem kU{xs:List V}{us:List Value}(r:Vals xs us):∀ix:List Nat,Vals (ix.filterMap (xs[·]?)) (ix.filterMap (us[·]?))
 | []=>.nil
 |i::ix=>by
  rw[List.filterMap_cons,List.filterMap_cons]
  cases e:xs[i]? with
  |none=>rw[r.none_of e];exact kU r ix
  |some x =>
   obtain⟨u,e2,rx⟩:=r.get e
   rw[e2]
   exact .cons rx (kU r ix)
section
variable {X:Cx}{e st:Expr}{lo hi:Option Expr}{te:TE}{tl th tk:TO}{p2 pos:Pos}
noncomputable def C5(K:PySem.W.Frag)(te:TE)(tl th tk:TO):TE:=fun σ H Q=>te σ H fun x H1=>tl σ H1 fun l H2=>th σ H2 fun u H3=>tk σ H3 fun k H4=>∃a xs,x=.ref a/\cy K H4 a xs/\k≠some 0/\(o6 xs l u k).length<=sizeLine /\
 ∀p,H4 p=none->Q (.ref p) (upd H4 p (.lst (o6 xs l u k)))
theorem o7(he:PE X e te)(hl:PO X lo tl)(hu:PO X hi th)(hk:PO X (some st) tk):PE X (.Subscript e (.Slice lo hi (some st) p2) pos) (C5 X.K te tl th tk):=by
 intro pins s σ H Q I h
 refine Subscript_ (cK (he pins s σ H _ I h) fun v s1 ⟨x,H1,I1,r1,q1⟩=>?_)
 refine wpAny_Slice (cK (hl pins s1 σ H1 _ I1 q1) fun vl s2 ⟨l,H2,I2,pl,q2⟩=>cK (hu pins s2 σ H2 _ I2 q2) fun vu s3 ⟨u,H3,I3,pu,q3⟩=>cK (hk pins s3 σ H3 _ I3 q3) fun vk s4 ⟨k,H4,I4,pk,q4⟩=>?_)
 obtain⟨a,xs,rfl,hx,k0,hz2,q⟩:=q4
 cases r1
 have I5:Inv X pins σ H4 {s4 with heap:=s4.heap.push {cls:=.type "slice",data:=.fields #[vl,vu,vk]}}:=I4.kept (t':=s4.toks) fun b ob q=>Heap.get?_push_of_some _ q
 obtain⟨its,r,ht,hz⟩:=I5.list hx
 have hlen:=r.length
 refine tail_any (T:="list") (ops:=[.ref a,.ref s4.heap.objs.size]) ht.isList.typeIs slot_list_getitem.lookup ?_ (by with_unfolding_all rfl)
 refine wpAny_getItem_list_slice ht.isList (Heap.IsSliceOf.new ..) pl pu pk k0 ?_ (by rw[List.size_toArray]<;>omega)
 have ep:slicePick its.toArray l u k=((sliceRange (sliceBounds l u k xs.length).1 (sliceBounds l u k xs.length).2.1 (sliceBounds l u k xs.length).2.2).filterMap (its[·]?)).toArray:=by
  unfold slicePick
  rw[List.size_toArray,←hlen]
  simp
 rw[ep]
 refine⟨.ref _,_,I5.laid (t':=s4.toks) (o:=.lst (o6 xs l u k)) (fun b ob q=>Heap.get?_push_of_some _ q) (Nat.le_refl _) ?_,rfl,q _ (I5.hok.fresh (Nat.le_refl _))⟩
 exact⟨hz2,_,0,kU r _,Heap.get?_push_size _ rfl⟩
end
theorem yR{xs:List V}{lo hi st:Option Int}{ix:List Nat}(h:sliceRange (sliceBounds lo hi st xs.length).1 (sliceBounds lo hi st xs.length).2.1 (sliceBounds lo hi st xs.length).2.2=ix):o6 xs lo hi st=ix.filterMap (xs[·]?):=by
 unfold o6
 rw[h]
noncomputable def yS:Expr->Option Str
 |.Constant (.str x) _ _=>some x
 |_=>none
noncomputable def strsOf:List Expr->Option (List Str)
 | []=>some []
 |e::r=>(yS e).bind fun x=>(strsOf r).map (x::·)
noncomputable def rD(xs:List Str):TA:=fun _ H Q=>Q (xs.map V.str) H
theorem yT{e:Expr}{x:Str}(h:yS e=some x):∃j p,e=.Constant (.str x) j p:=by
 unfold yS at h
 split at h
 ·cases h;exact⟨_,_,rfl⟩
 ·cases h
theorem mh{X:Cx}{es:List Expr}:∀{xs:List Str},strsOf es=some xs->PA X es (rD xs):=by
 induction es with
 |nil=>intro xs h;cases h;exact ao
 |cons e r ih =>
  intro xs h
  unfold strsOf at h
  cases h1:yS e with
  |none=>rw[h1]at h;cases h
  |some x =>
   cases h2:strsOf r with
   |none=>rw[h1,h2]at h;cases h
   |some ys =>
    rw[h1,h2]at h
    cases h
    obtain⟨j,p,rfl⟩:=yT h1
    exact aA az (ih h2) rfl
end L2
namespace L2
open PySem PySem.Spec PyProof.Rows PySem.SeqAt
section
variable {X:Cx}
end
mutual
noncomputable def Rp(K:PySem.W.Frag)(H:Hp):T->V->Prop
 |.s x,v=>v=.str x
 |.i n,v=>v=.int n
 |.n,v=>v=.gp
 |.t xs,v=>∃a vs,v=.ref a/\bx K H a vs/\aO K H xs vs
noncomputable def aO(K:PySem.W.Frag)(H:Hp):List T->List V->Prop
 | [],vs=>vs=[]
 |x::r,vs=>∃v q,vs=v::q/\Rp K H x v/\aO K H r q
end
noncomputable def Kt(H H':Hp):Prop:=∀a xs,Rd H a (.tup xs)->Rd H' a (.tup xs)
theorem Kt.refl{H:Hp}:Kt H H:=fun _ _ h=>h
theorem Kt.trans{H H1 H2:Hp}(a:Kt H H1)(b:Kt H1 H2):Kt H H2:=fun c xs h=>b c xs (a c xs h)
theorem Kt.same{H H':Hp}(s:aI H H'):Kt H H':=fun a xs h=>h.elim (fun e=>.inl (s _ _ e)) fun⟨o,e⟩=>.inr ⟨o,s _ _ e⟩
theorem Kt.new{H:Hp}{p:Addr}(h:H p=none)(o:HO):Kt H (upd H p o):=fun a xs r=>r.elim (fun e=>.inl (by rw[ay (au e h)];exact e)) fun⟨u,e⟩=>.inr ⟨u,by rw[ay (au e h)];exact e⟩
theorem Kt.upd{H:Hp}{l:Addr}{u:HO}(h:H l=some u)(h1:∀xs,u≠.tup xs)(h2:∀o xs,u≠.frz o (.tup xs))(o:HO):Kt H (upd H l o):=fun a xs r=>by
 rcases r with e|⟨p,e⟩
 ·exact .inl (by rw[ay (gj e h fun z=>h1 _ z.symm)];exact e)
 ·exact .inr ⟨p,by rw[ay (gj e h fun z=>h2 _ _ z.symm)];exact e⟩
theorem Kt.lst{H:Hp}{l:Addr}{xs:List V}(h:H l=some (.lst xs))(o:HO):Kt H (L2.upd H l o):=Kt.upd h (fun _ z=>nomatch z) (fun _ _ z=>nomatch z) o
section
variable {K:PySem.W.Frag}{H H':Hp}
theorem bx.kt(k:Kt H H'){a:Addr}{xs:List V}(h:bx K H a xs):bx K H' a xs:=h.elim (fun e=>.inl (k _ _ e)) .inr
theorem aO.all(f:∀{x v},Rp K H x v->Rp K H' x v):∀{xs:List T}{vs:List V},aO K H xs vs->aO K H' xs vs
 | [],vs,h=>by unfold aO at h⊢;exact h
 |x::r,vs,h=>by
  unfold aO at h⊢
  obtain⟨v,q,e,h1,h2⟩:=h
  exact⟨v,q,e,f h1,aO.all f h2⟩
theorem aO.nil:aO K H [] []:=by unfold aO;rfl
theorem aO.cons{x:T}{v:V}{r:List T}{q:List V}(h:Rp K H x v)(t:aO K H r q):aO K H (x::r) (v::q):=by unfold aO;exact⟨v,q,rfl,h,t⟩
theorem aO.inv{x:T}{r:List T}{vs:List V}(h:aO K H (x::r) vs):∃v q,vs=v::q/\Rp K H x v/\aO K H r q:=by unfold aO at h;exact h
theorem aO.dh{vs:List V}(h:aO K H [] vs):vs=[]:=by unfold aO at h;exact h
theorem Rp.s{x:Str}:Rp K H (.s x) (.str x):=by unfold Rp;rfl
theorem Rp.i{n:Int}:Rp K H (.i n) (.int n):=by unfold Rp;rfl
theorem Rp.gp:Rp K H .n .gp:=by unfold Rp;rfl
theorem Rp.t{xs:List T}{vs:List V}{a:Addr}(h:bx K H a vs)(r:aO K H xs vs):Rp K H (.t xs) (.ref a):=by unfold Rp;exact⟨a,vs,rfl,h,r⟩
theorem Rp.aF{x:Str}{v:V}(h:Rp K H (.s x) v):v=.str x:=by unfold Rp at h;exact h
theorem Rp.dB{n:Int}{v:V}(h:Rp K H (.i n) v):v=.int n:=by unfold Rp at h;exact h
theorem Rp.aC{xs:List T}{v:V}(h:Rp K H (.t xs) v):∃a vs,v=.ref a/\bx K H a vs/\aO K H xs vs:=by unfold Rp at h;exact h
theorem Rp.kt(k:Kt H H'){x:T}:∀{v:V},Rp K H x v->Rp K H' x v:=by
 induction x using T.induct with
 |hs x=>intro v h;rw[h.aF];exact .s
 |hi x=>intro v h;rw[h.dB];exact .i
 |hn=>intro v h;unfold Rp at h;rw[h];exact .gp
 |ht xs ih =>
  intro v h
  obtain⟨a,vs,rfl,hs,hr⟩:=h.aC
  refine .t (hs.kt k) ?_
  clear hs h
  induction xs generalizing vs with
  |nil=>rw[hr.dh];exact .nil
  |cons x r ih2 =>
   obtain⟨v,q,rfl,h1,h2⟩:=hr.inv
   exact .cons (ih x (.head _) h1) (ih2 (fun y hy=>ih y (.tail _ hy)) _ h2)
theorem aO.kt(k:Kt H H'){xs:List T}{vs:List V}(h:aO K H xs vs):aO K H' xs vs:=aO.all (fun h=>h.kt k) h
theorem aO.length:∀{xs:List T}{vs:List V},aO K H xs vs->vs.length=xs.length
 | [],vs,h=>by rw[h.dh];rfl
 |x::r,vs,h=>by
  obtain⟨v,q,rfl,_,h2⟩:=h.inv
  rw[List.length_cons,List.length_cons,aO.length h2]
theorem aO.get:∀{xs:List T}{vs:List V}{i:Nat}{x:T},aO K H xs vs->xs[i]?=some x->∃v,vs[i]?=some v/\Rp K H x v
 | [],vs,i,x,h,e=>by simp at e
 |x::r,vs,0,y,h,e=>by
  obtain⟨v,q,rfl,h1,_⟩:=h.inv
  simp at e;subst e
  exact⟨v,rfl,h1⟩
 |x::r,vs,i+1,y,h,e=>by
  obtain⟨v,q,rfl,_,h2⟩:=h.inv
  obtain⟨w,h3,h4⟩:=aO.get (i:=i) h2 (by simpa using e)
  exact⟨w,by simpa using h3,h4⟩
theorem aO.get':∀{xs:List T}{vs:List V}{i:Nat}{v:V},aO K H xs vs->vs[i]?=some v->∃x,xs[i]?=some x/\Rp K H x v:=fun{xs vs i v} h e=>by
 have l:=h.length
 have hi:i<xs.length:=by
  rcases Nat.lt_or_ge i vs.length with z|z
  ·omega
  ·rw[List.getElem?_eq_none_iff.mpr z]at e;cases e
 obtain⟨w,h1,h2⟩:=h.get (List.getElem?_eq_getElem hi)
 rw[e]at h1;cases h1
 exact⟨_,List.getElem?_eq_getElem hi,h2⟩
theorem aO.append:∀{xs ys:List T}{vs ws:List V},aO K H xs vs->aO K H ys ws->aO K H (xs++ys) (vs++ws)
 | [],ys,vs,ws,h,g=>by rw[h.dh];exact g
 |x::r,ys,vs,ws,h,g=>by
  obtain⟨v,q,rfl,h1,h2⟩:=h.inv
  exact .cons h1 (aO.append h2 g)
theorem aO.one{x:T}{v:V}(h:Rp K H x v):aO K H [x] [v]:=.cons h .nil
theorem aO.snoc{xs:List T}{vs:List V}{x:T}{v:V}(h:aO K H xs vs)(g:Rp K H x v):aO K H (xs++[x]) (vs++[v]):=h.append (.one g)
theorem aO.split:∀{xs ys:List T}{vs:List V},aO K H (xs++ys) vs->∃ws us,vs=ws++us/\aO K H xs ws/\aO K H ys us
 | [],ys,vs,h=>⟨[],vs,rfl,.nil,h⟩
 |x::r,ys,vs,h=>by
  obtain⟨v,q,rfl,h1,h2⟩:=aO.inv h
  obtain⟨ws,us,rfl,h3,h4⟩:=aO.split h2
  exact⟨v::ws,us,rfl,.cons h1 h3,h4⟩
theorem aO.reverse:∀{xs:List T}{vs:List V},aO K H xs vs->aO K H xs.reverse vs.reverse
 | [],vs,h=>by rw[h.dh];exact .nil
 |x::r,vs,h=>by
  obtain⟨v,q,rfl,h1,h2⟩:=h.inv
  rw[List.reverse_cons,List.reverse_cons]
  exact(aO.reverse h2).snoc h1
theorem aO.strs:∀(xs:List Str),aO K H (xs.map .s) (xs.map .str)
 | []=>.nil
 |_::r=>.cons .s (aO.strs r)
end
section
variable {X:Cx}{pins:List (Addr×Obj)}{σ:St}{H:Hp}{s:Shared}
theorem Rp.inj(I:Inv X pins σ H s)(a:T):∀(b:T) {v:V},Rp X.K H a v->Rp X.K H b v->a=b:=by
 induction a using T.induct with
 |hs x =>
  intro b v h g
  rw[h.aF]at g
  cases b with
  |s y=>have z:=g.aF;injection z with z;rw[z]
  |i y=>have z:=g.dB;cases z
  |n=>unfold Rp at g;cases g
  |t ys=>obtain⟨_,_,z,_⟩:=g.aC;cases z
 |hi x =>
  intro b v h g
  rw[h.dB]at g
  cases b with
  |s y=>have z:=g.aF;cases z
  |i y=>have z:=g.dB;injection z with z;rw[z]
  |n=>unfold Rp at g;cases g
  |t ys=>obtain⟨_,_,z,_⟩:=g.aC;cases z
 |hn =>
  intro b v h g
  unfold Rp at h
  rw[h]at g
  cases b with
  |s y=>have z:=g.aF;cases z
  |i y=>have z:=g.dB;cases z
  |n=>rfl
  |t ys=>obtain⟨_,_,z,_⟩:=g.aC;cases z
 |ht xs ih =>
  intro b v h g
  obtain⟨p,vs,rfl,hs,hr⟩:=h.aC
  cases b with
  |t ys =>
   obtain⟨p',ws,e,hs',hr'⟩:=g.aC
   cases e
   have e:=I.kK hs hs'
   subst e
   congr 1
   clear hs hs' h g
   induction xs generalizing ys vs with
   |nil =>
    have z:=hr.dh
    subst z
    cases ys with
    |nil=>rfl
    |cons y q=>obtain⟨_,_,z,_⟩:=hr'.inv;cases z
   |cons x r ih2 =>
    obtain⟨v,q,rfl,h1,h2⟩:=hr.inv
    cases ys with
    |nil=>cases hr'.dh
    |cons y q' =>
     obtain⟨v',q'',e,h1',h2'⟩:=hr'.inv
     cases e
     rw[ih x (.head _) y h1 h1',ih2 (fun z hz=>ih z (.tail _ hz)) _ h2 _ h2']
  |_=>unfold Rp at g;cases g
theorem aT{h:Heap}{a:Addr}{its:Array Value}(p:IsTup h a its):h.IsTuple a its:=p
theorem pe{us:List V}{its:List Value}(r:Vals us its){j:Nat}{v:V}(e:us[j]?=some v){h:j<its.toArray.size}:RelV v its.toArray[j]:=by
 obtain⟨u,h1,h2⟩:=r.get e
 have z:its.toArray[j]=u:=by
  have q:its[j]?=some its.toArray[j]:=by
   rw[List.getElem?_eq_getElem (by simpa using h)]
   simp
  rw[h1]at q
  exact(Option.some.inj q).symm
 rw[z];exact h2
noncomputable def uq(s:Shared)(K:PySem.W.Frag)(H:Hp)(x:T):Prop:=∀(b:T) {u v:V}{u' v':Value}(A:Around),A.units+x.dep<cLine->Rp K H x u->Rp K H b v->RelV u u'->RelV v v'->EqAt A s u' v' (x.eqB b)
theorem pg{xs ys:List T}{us ws:List V}{its its':List Value}{A:Around}(ih:∀x∈xs,uq s X.K H x)(hu:A.units+T.kQ xs<cLine)(hr:aO X.K H xs us)(hr':aO X.K H ys ws)(r:Vals us its)(r':Vals ws its')
  (j:Nat) (h1:j<its.toArray.size) (h2:j<its'.toArray.size):EqAt A s its.toArray[j] its'.toArray[j] (T.eqB (xs.getD j .n) (ys.getD j .n)):=by
 have l1:us.length=its.length:=r.length
 have l2:ws.length=its'.length:=r'.length
 have l3:=hr.length
 have l4:=hr'.length
 have h1':j<its.length:=by simpa using h1
 have h2':j<its'.length:=by simpa using h2
 have hx:j<xs.length:=by omega
 have hy:j<ys.length:=by omega
 obtain⟨v,hv,rv⟩:=hr.get (List.getElem?_eq_getElem hx)
 obtain⟨w,hw,rw'⟩:=hr'.get (List.getElem?_eq_getElem hy)
 have e1:xs.getD j .n=xs[j]:=by simp[hx]
 have e2:ys.getD j .n=ys[j]:=by simp[hy]
 rw[e1,e2]
 exact ih _ (List.getElem_mem hx) _ A (Nat.lt_of_le_of_lt (Nat.add_le_add_left (T.wN (List.getElem_mem hx)) _) hu) rv rw' (pe r hv) (pe r' hw)
theorem pA(I:Inv X pins σ H s){xs ys:List T}{us ws:List V}{p q:Addr}{A:Around}(ih:∀x∈xs,uq s X.K H x)(hu:A.units+1+T.kQ xs<cLine)(hs:bx X.K H p us)(hr:aO X.K H xs us)(hs':bx X.K H q ws)(hr':aO X.K H ys ws) :
  RcAt A s (.ref p) (.ref q) (T.lS xs ys):=by
 obtain⟨its,r,it,_⟩:=I.tuple hs
 obtain⟨its',r',it',_⟩:=I.tuple hs'
 have z:=RcAt.tuples (A:=A) (aT it) (aT it') (by omega) (e:=fun j=>T.eqB (xs.getD j .n) (ys.getD j .n)) (pg (A:=A.in1) ih (by show A.units+1+_<_;exact hu) hr hr' r r')
 have l1:us.length=its.length:=r.length
 have l2:ws.length=its'.length:=r'.length
 have l3:=hr.length
 have l4:=hr'.length
 rw[T.jQ]
 have e1:its.toArray.size=xs.length:=by simp;omega
 have e2:its'.toArray.size=ys.length:=by simp;omega
 rw[e1,e2]at z
 exact z
theorem rE(I:Inv X pins σ H s){xs ys:List T}{us ws:List V}{p q:Addr}{A:Around}(ih:∀x∈xs,uq s X.K H x)(hu:A.units+1+T.kQ xs<cLine)(hs:bx X.K H p us)(hr:aO X.K H xs us)(hs':bx X.K H q ws)(hr':aO X.K H ys ws) :
  RcNeAt A s (.ref p) (.ref q) (!T.lS xs ys):=by
 obtain⟨its,r,it,_⟩:=I.tuple hs
 obtain⟨its',r',it',_⟩:=I.tuple hs'
 have z:=RcNeAt.tuples (A:=A) (aT it) (aT it') (by omega) (e:=fun j=>T.eqB (xs.getD j .n) (ys.getD j .n)) (pg (A:=A.in1) ih (by show A.units+1+_<_;exact hu) hr hr' r r')
 have l1:us.length=its.length:=r.length
 have l2:ws.length=its'.length:=r'.length
 have l3:=hr.length
 have l4:=hr'.length
 rw[T.jQ]
 have e1:its.toArray.size=xs.length:=by simp;omega
 have e2:its'.toArray.size=ys.length:=by simp;omega
 rw[e1,e2]at z
 exact z
theorem BY(I:Inv X pins σ H s)(a:T):uq s X.K H a:=by
 induction a using T.induct with
 |hs x =>
  intro b u v u' v' A hu h g ru rv
  rw[h.aF]at ru
  obtain⟨t,rfl⟩:=ru
  cases b with
  |s y=>rw[g.aF]at rv;obtain⟨t',rfl⟩:=rv;unfold T.eqB;exact EqAt.str_str _ _ _ _
  |i y=>rw[g.dB]at rv;obtain⟨t',rfl⟩:=rv;unfold T.eqB;exact EqAt.str_int _ _ _ _
  |n=>unfold Rp at g;rw[g]at rv;cases rv;unfold T.eqB;exact EqAt.str_none _ _
  |t ys =>
   obtain⟨q,ws,rfl,hs,hr⟩:=g.aC
   cases rv
   obtain⟨its,_,it,_⟩:=I.tuple hs
   unfold T.eqB
   exact EqAt.str_tuple _ _ (aT it) (by omega)
 |hi x =>
  intro b u v u' v' A hu h g ru rv
  rw[h.dB]at ru
  obtain⟨t,rfl⟩:=ru
  cases b with
  |s y=>rw[g.aF]at rv;obtain⟨t',rfl⟩:=rv;unfold T.eqB;exact EqAt.int_str _ _ _ _
  |i y=>rw[g.dB]at rv;obtain⟨t',rfl⟩:=rv;unfold T.eqB;exact EqAt.int_int _ _ _ _
  |n=>unfold Rp at g;rw[g]at rv;cases rv;unfold T.eqB;exact EqAt.int_none _ _
  |t ys =>
   obtain⟨q,ws,rfl,hs,hr⟩:=g.aC
   cases rv
   obtain⟨its,_,it,_⟩:=I.tuple hs
   unfold T.eqB
   exact EqAt.int_tuple _ _ (aT it) (by omega)
 |hn =>
  intro b u v u' v' A hu h g ru rv
  unfold Rp at h
  rw[h]at ru
  cases ru
  cases b with
  |s y=>rw[g.aF]at rv;obtain⟨t',rfl⟩:=rv;unfold T.eqB;exact EqAt.none_str _ _
  |i y=>rw[g.dB]at rv;obtain⟨t',rfl⟩:=rv;unfold T.eqB;exact EqAt.none_int _ _
  |n=>unfold Rp at g;rw[g]at rv;cases rv;unfold T.eqB;exact EqAt.same _
  |t ys =>
   obtain⟨q,ws,rfl,hs,hr⟩:=g.aC
   cases rv
   obtain⟨its,_,it,_⟩:=I.tuple hs
   unfold T.eqB
   exact EqAt.none_tuple (aT it) (by omega)
 |ht xs ih =>
  intro b u v u' v' A hu h g ru rv
  obtain⟨p,us,rfl,hs,hr⟩:=h.aC
  cases ru
  obtain⟨its,rits,it,_⟩:=I.tuple hs
  cases b with
  |s y=>rw[g.aF]at rv;obtain⟨t',rfl⟩:=rv;unfold T.eqB;exact EqAt.tuple_str _ _ (aT it) (by omega)
  |i y=>rw[g.dB]at rv;obtain⟨t',rfl⟩:=rv;unfold T.eqB;exact EqAt.tuple_int _ _ (aT it) (by omega)
  |n=>unfold Rp at g;rw[g]at rv;cases rv;unfold T.eqB;exact EqAt.tuple_none (aT it) (by omega)
  |t ys =>
   obtain⟨q,ws,rfl,hs',hr'⟩:=g.aC
   cases rv
   by_cases e:p=q
   ·subst e
    have z:=Rp.inj I _ _ h g
    rw[z,T.wQ]
    exact EqAt.same _
   ·unfold T.dep at hu
    unfold T.eqB
    exact EqAt.of_refs e (pA I ih (by omega) hs hr hs' hr')
theorem BZ(I:Inv X pins σ H s)(a b:T){u v:V}{u' v':Value}(A:Around)(hu:A.units+a.dep<cLine)(h:Rp X.K H a u)(g:Rp X.K H b v)(ru:RelV u u')(rv:RelV v v'):RcAt A s u' v' (a.eqB b)/\RcNeAt A s u' v' (!a.eqB b):=by
 cases a with
 |s x =>
  rw[h.aF]at ru
  obtain⟨t,rfl⟩:=ru
  cases b with
  |s y=>rw[g.aF]at rv;obtain⟨t',rfl⟩:=rv;unfold T.eqB;exact⟨RcAt.str_str _ _ _ _,RcNeAt.str_str _ _ _ _⟩
  |i y=>rw[g.dB]at rv;obtain⟨t',rfl⟩:=rv;unfold T.eqB;exact⟨RcAt.str_int _ _ _ _,RcNeAt.str_int _ _ _ _⟩
  |n=>unfold Rp at g;rw[g]at rv;cases rv;unfold T.eqB;exact⟨RcAt.str_none _ _,RcNeAt.str_none _ _⟩
  |t ys =>
   obtain⟨q,ws,rfl,hs,hr⟩:=g.aC
   cases rv
   obtain⟨its,_,it,_⟩:=I.tuple hs
   unfold T.eqB
   exact⟨RcAt.str_tuple _ _ (aT it) (by omega),RcNeAt.str_tuple _ _ (aT it) (by omega)⟩
 |i x =>
  rw[h.dB]at ru
  obtain⟨t,rfl⟩:=ru
  cases b with
  |s y=>rw[g.aF]at rv;obtain⟨t',rfl⟩:=rv;unfold T.eqB;exact⟨RcAt.int_str _ _ _ _,RcNeAt.int_str _ _ _ _⟩
  |i y=>rw[g.dB]at rv;obtain⟨t',rfl⟩:=rv;unfold T.eqB;exact⟨RcAt.int_int _ _ _ _,RcNeAt.int_int _ _ _ _⟩
  |n=>unfold Rp at g;rw[g]at rv;cases rv;unfold T.eqB;exact⟨RcAt.int_none _ _,RcNeAt.int_none _ _⟩
  |t ys =>
   obtain⟨q,ws,rfl,hs,hr⟩:=g.aC
   cases rv
   obtain⟨its,_,it,_⟩:=I.tuple hs
   unfold T.eqB
   exact⟨RcAt.int_tuple _ _ (aT it) (by omega),RcNeAt.int_tuple _ _ (aT it) (by omega)⟩
 |n =>
  unfold Rp at h
  rw[h]at ru
  cases ru
  cases b with
  |s y=>rw[g.aF]at rv;obtain⟨t',rfl⟩:=rv;unfold T.eqB;exact⟨RcAt.none_str _ _,RcNeAt.none_str _ _⟩
  |i y=>rw[g.dB]at rv;obtain⟨t',rfl⟩:=rv;unfold T.eqB;exact⟨RcAt.none_int _ _,RcNeAt.none_int _ _⟩
  |n=>unfold Rp at g;rw[g]at rv;cases rv;unfold T.eqB;exact⟨RcAt.none_none,RcNeAt.none_none⟩
  |t ys =>
   obtain⟨q,ws,rfl,hs,hr⟩:=g.aC
   cases rv
   obtain⟨its,_,it,_⟩:=I.tuple hs
   unfold T.eqB
   exact⟨RcAt.none_tuple (aT it) (by omega),RcNeAt.none_tuple (aT it) (by omega)⟩
 |t xs =>
  obtain⟨p,us,rfl,hs,hr⟩:=h.aC
  cases ru
  obtain⟨its,rits,it,_⟩:=I.tuple hs
  cases b with
  |s y=>rw[g.aF]at rv;obtain⟨t',rfl⟩:=rv;unfold T.eqB;exact⟨RcAt.tuple_str _ _ (aT it) (by omega),RcNeAt.tuple_str _ _ (aT it) (by omega)⟩
  |i y=>rw[g.dB]at rv;obtain⟨t',rfl⟩:=rv;unfold T.eqB;exact⟨RcAt.tuple_int _ _ (aT it) (by omega),RcNeAt.tuple_int _ _ (aT it) (by omega)⟩
  |n=>unfold Rp at g;rw[g]at rv;cases rv;unfold T.eqB;exact⟨RcAt.tuple_none (aT it) (by omega),RcNeAt.tuple_none (aT it) (by omega)⟩
  |t ys =>
   obtain⟨q,ws,rfl,hs',hr'⟩:=g.aC
   cases rv
   unfold T.dep at hu
   unfold T.eqB
   exact⟨pA I (fun x _=>BY I x) (by omega) hs hr hs' hr',rE I (fun x _=>BY I x) (by omega) hs hr hs' hr'⟩
noncomputable def B0(K:PySem.W.Frag):R2:=fun x y H Q=>∃a b,Rp K H a x/\Rp K H b y/\a.dep<=150/\Q (.bl (decide (a=b))) H
noncomputable def C6(K:PySem.W.Frag):R2:=fun x y H Q=>∃a b,Rp K H a x/\Rp K H b y/\a.dep<=150/\Q (.bl (!decide (a=b))) H
theorem tq(hu:X.A.units+150<cLine):kJ X (compareOp .Eq) (B0 X.K):=by
 intro pins s σ H x y v u Q I rx ry h
 obtain⟨a,b,ha,hb,hd,q⟩:=h
 rw[←T.ug]at q
 exact(BZ I a b X.A (by omega) ha hb rx ry).1 X.prog X.w X.xe _ ⟨.bl _,H,I,rfl,q⟩
theorem wW(hu:X.A.units+150<cLine):kJ X (compareOp .NotEq) (C6 X.K):=by
 intro pins s σ H x y v u Q I rx ry h
 obtain⟨a,b,ha,hb,hd,q⟩:=h
 rw[←T.ug]at q
 exact(BZ I a b X.A (by omega) ha hb rx ry).2 X.prog X.w X.xe _ ⟨.bl _,H,I,rfl,q⟩
theorem iq.oi{k:Nat}{A:Around}(r:iq k A):A.units+150<cLine:=by have:=r.un;omega
end
end L2
namespace L2
open PySem PySem.Spec PyProof.Rows
theorem pB{b:Bool}{A B:Prop}(e:b=true)(h:A):if b=true then A else B:=by rw[if_pos e];exact h
theorem eF{b:Bool}{A B:Prop}(e:b=false)(h:B):if b=true then A else B:=by rw[if_neg (by rw[e];exact Bool.false_ne_true)];exact h
section
variable {X:Cx}
theorem qq{pos:Pos}{es:List Expr}{k:Nat}{t:zV}{n:Nat}(K:PySem.W.Frag)(hK:X.K=K)(hc:X.calm=true)(h:By X es t)(hn:(assignEach es X.env).length=n:=by rfl)(hst:(assignEach es X.env).findIdx? (·.1)=none:=by rfl):PG X (.Tuple es k pos) (vc K n t):=by
 subst hK
 exact As hc h hn hst
theorem fg(K:PySem.W.Frag)(hK:X.K=K):vY X (sQ K):=by subst hK;exact aD
theorem wX(K:PySem.W.Frag)(hK:X.K=K):vY X (AG K):=by subst hK;exact bg
theorem wY(K:PySem.W.Frag)(hK:X.K=K):BO X (BR K):=by subst hK;exact fQ
theorem oj(K:PySem.W.Frag)(hK:X.K=K):kJ X (compareOp .NotIn) (Cy K true):=by subst hK;exact qk
theorem om(K:PySem.W.Frag)(hK:X.K=K):fN X (.builtin "len") (fun xs H Q=>∃p ys,xs=[.ref p]/\(cy K H p ys\/bx K H p ys)/\Q (.int ys.length) H):=by subst hK;exact aB
noncomputable def Ac(w:World):List DictEntry->List (Str×V)->Prop
 | [],kvs=>kvs=[]
 |e::r,kvs=>∃x v q,kvs=(x,v)::q/\(∃t,e.key=.str x t)/\e.hash=hashStr w x/\RelV v e.val/\Ac w r q
noncomputable def KD(K:PySem.W.Frag)(w:World)(d:Addr)(kvs:List (Str×V)):Prop :=
 ∃(es:Array DictEntry) (n:Nat),K.lookup d=some {cls:=.type "dict",dict:=none,data:=.dict es n,slots:=#[]}/\Ac w es.toList kvs/\(kvs.map (·.1)).Nodup/\(d == sysModules)=false
theorem Ac.keys{w:World}{P:Program}:∀{es:List DictEntry}{kvs:List (Str×V)},Ac w es kvs->∃vs:List (Str×Value),Pairs (PySem.strKind P w) es vs/\(∀e∈es,∃k,(PySem.strKind P w).is k e.key=true/\e.hash=(PySem.strKind P w).hash k)/\vs.map (·.1)=kvs.map (·.1) /\
  ∀k,jc (kvs.lookup k) (valueAt vs k)
 | [],kvs,h=>by
  obtain rfl:kvs=[]:=h
  exact⟨[],.nil,(fun _ h=>nomatch h),rfl,fun _=>trivial⟩
 |e::r,kvs,h=>by
  obtain⟨x,v,q,rfl,⟨t,hk⟩,hh,rv,hr⟩:=h
  obtain⟨vs,h1,h2,h3,h4⟩:=Ac.keys (P:=P) hr
  have ek:(PySem.strKind P w).is x e.key=true:=by rw[hk];exact(by simp[PySem.strKind,Value.isStrOf]:(PySem.strKind P w).is x (.str x t)=true)
  refine⟨(x,e.val)::vs,.cons ek rfl h1,fun e' he=>?_,by rw[List.map_cons,List.map_cons,h3],fun k=>?_⟩
  ·cases he with
   |head=>exact⟨x,ek,hh⟩
   |tail _ he=>exact h2 e' he
  ·rw[List.lookup_cons]
   by_cases c:k=x
   ·subst c
    rw[beq_self_eq_true]
    simp only[valueAt,List.find?_cons,decide_true,Option.map_some]
    exact rv
   ·rw[beq_false_of_ne c]
    have z:=h4 k
    have e1:valueAt ((x,e.val)::vs) k=valueAt vs k:=by
     simp only[valueAt,List.find?_cons]
     rw[decide_eq_false (fun q=>c q.symm)]
    rw[e1]
    exact z
theorem KD.dict{K:PySem.W.Frag}{P:Program}{w:World}{d:Addr}{kvs:List (Str×V)}(D:KD K w d kvs){h:Heap}(X:K.In h):∃vs,h.DictOf (PySem.strKind P w) d vs/\(d == sysModules)=false/\∀k,jc (kvs.lookup k) (valueAt vs k):=by
 obtain⟨es,n,e,hs,nd,hd⟩:=D
 obtain⟨vs,h1,h2,h3,h4⟩:=Ac.keys (P:=P) hs
 exact⟨vs,⟨_,es,n,X _ _ e,⟨rfl,rfl,rfl⟩,rfl,fun e' he=>h2 e' (by simpa using he),h1,by rw[h3];exact nd⟩,hd,h4⟩
theorem ur{P:Program}{w:World}{x:Str}{t:Tok}:(PySem.strKind P w).is x (.str x t)=true:=by simp[PySem.strKind,Value.isStrOf]
noncomputable def C7(K:PySem.W.Frag)(w:World):R2:=fun x y H Q=>∃k d kvs,x=.str k/\y=.ref d/\KD K w d kvs/\Q (.bl (kvs.lookup k).isSome) H
theorem jc.yU{a:Option V}{b:Option Value}(r:jc a b):b.isSome=a.isSome:=by
 cases a<;>cases b<;>first|rfl|exact r.elim
theorem yV:kJ X (compareOp .In) (C7 X.K X.w):=by
 intro pins s σ H x y v u Q I rx ry h
 obtain⟨k,d,kvs,rfl,rfl,D,q⟩:=h
 obtain⟨t,rfl⟩:=rx
 obtain rfl:u=Value.ref d:=ry
 obtain⟨vs,dd,hd,rel⟩:=D.dict (P:=X.prog) I.yq
 refine wpAny_in_of ur hd dd.mapOf ?_
 rw[(rel k).yU]
 exact⟨.bl _,H,I.tok _,rfl,q⟩
noncomputable def Ca(K:PySem.W.Frag)(w:World)(td ty:TE):TE:=fun σ H Q=>td σ H fun x H1=>ty σ H1 fun y H2=>∃d kvs k v,x=.ref d/\y=.str k/\KD K w d kvs/\kvs.lookup k=some v/\Q v H2
theorem uu{o i:Expr}{pos:Pos}{td ty:TE}(ho:PE X o td)(hi:PE X i ty)(hs:AO i):PE X (.Subscript o i pos) (Ca X.K X.w td ty):=by
 intro pins s σ H Q I h
 refine uf PySem.F.slot_dict_getitem.lookup hs (cK (ho pins s σ H _ I h) fun u s1 ⟨x,H1,I1,rx,q1⟩=>cK (hi pins s1 σ H1 _ I1 q1) fun iv s2 ⟨y,H2,I2,ry,d,kvs,k,v,ex,ey,D,lk,q2⟩=>?_)
 subst ex ey
 obtain rfl:u=Value.ref d:=rx
 obtain⟨t,rfl⟩:=ry
 obtain⟨vs,dd,hd,rel⟩:=D.dict (P:=X.prog) I2.yq
 obtain⟨w',hw,rw'⟩:=jc.some_of (v:=v) (o:=valueAt vs k) (by rw[←lk];exact rel k)
 exact⟨dd.typeIs,wpAny_getItem_of ur dd.mapOf hw ⟨v,H2,I2.tok _,rw',q2⟩⟩
theorem tu:kJ X (binaryOp .Mult) (fun x y H Q=>∃z n,x=.str z/\y=.int n/\-1000000<=n/\n<=1000000/\z.length*n.toNat<=sizeLine/\Q (.str (Txt.mul z n)) H):=by
 intro pins s σ H x y v u Q I rx ry h
 obtain⟨z,n,rfl,rfl,h1,h2,h3,q⟩:=h
 obtain⟨t,rfl⟩:=rx
 obtain⟨t',rfl⟩:=ry
 refine PySem.SB.mul ⟨by simp;omega,fun a b=>?_,fun a b=>?_⟩ fun t' k=>⟨.str _,H,I.tok _,⟨_,rfl⟩,q⟩
 ·intro c
  have n1:1<=n:=by omega
  have h3':z.length*n.toNat<=16777216:=by rw[←sizeLine_eq];exact h3
  have hz:z.length<=z.length*n.toNat:=Nat.le_mul_of_pos_right _ (by omega)
  have e:(9223372036854:Int)<=(2 ^ 63-1) / n:=Int.le_ediv_of_mul_le (by omega) (by omega)
  omega
 ·unfold Builtin.Str.tooLong
  simp
  exact h3
theorem wZ:fN X (.builtin "isinstance") (fun xs H Q=>∃p ys,xs=[.ref p,.ty "tuple"]/\bx X.K H p ys/\Q (.bl true) H):=by
 intro pins s σ H xs us Q I r h
 obtain⟨p,ys,rfl,hq,q⟩:=h
 obtain⟨u,w',rfl,r1,r2⟩:=vals2 r
 obtain rfl:u=Value.ref p:=r1
 obtain rfl:w'=Value.type "tuple":=r2
 obtain⟨its,rv,pl,hz⟩:=I.tuple hq
 obtain⟨o,ho,hc,n,hd⟩:=pl
 exact IsiPair.tuple_tuple ho hc ⟨.bl true,H,I,rfl,q⟩
end
section
variable {g:TG}{tt:TT}{te:TE}{Q:VK}{σ0:St}{H0:Hp}
theorem fB{K:PySem.W.Frag}{a:Addr}{xs:List V}(Pv:Nat->St->List V->Hp->Prop)(h0:Pv 0 σ0 [] H0)(hlen:∀i σ vs H,i<=xs.length->Pv i σ vs H->vs.length<=i)(hn:xs.length<=sizeLine)(hl:∀i σ vs H,i<=xs.length->Pv i σ vs H->bx K H a xs)
  (hs:∀i x σ vs H,xs[i]?=some x->Pv i σ vs H->g x σ H fun σ2 H2=>tt σ2 H2 fun ok H3=>if ok=true then te σ2 H3 fun v H4=>Pv (i+1) σ2 (vs++[v]) H4 else Pv (i+1) σ2 vs H3)
  (hd:∀σ vs H,Pv xs.length σ vs H->∀p,H p=none->Q (.ref p) (upd H p (.lst vs))):gY (vW K a) g tt te Q σ0 H0:=by
 refine lZ xs.length Pv h0 hlen hn (fun i σ vs H hi p=>⟨xs,xs[i],hl i σ vs H (Nat.le_of_lt hi) p,by simp[hi]⟩) (fun σ vs H p=>⟨xs,hl _ σ vs H (Nat.le_refl _) p,Nat.le_refl _⟩) (fun i σ vs H x H' hi p y=>?_) hd
 obtain⟨rfl,y⟩:=y
 exact hs i x σ vs _ (y xs (hl i σ vs _ (Nat.le_of_lt hi) p)) p
end
mutual
noncomputable def T.py:T->PyData
 |.s x=>.str x
 |.i k=>.int k
 |.n=>.none
 |.t xs=>.tuple (T.Cb xs)
noncomputable def T.Cb:List T->List PyData
 | []=>[]
 |x::r=>x.py::T.Cb r
end
section
variable {X:Cx}{pins:List (Addr×Obj)}{σ:St}{H:Hp}{s:Shared}
theorem nh:∀{xs:List T},(∀x∈xs,∀{v:V}{u:Value},Rp X.K H x v->RelV v u->∃as,Reads s.heap u x.py as)->∀{vs:List V}{us:List Value},aO X.K H xs vs->Vals vs us->∃as,ReadsAll s.heap us (T.Cb xs) as
 | [],_,vs,us,h,r=>by
  obtain rfl:=h.dh
  cases r
  exact⟨[],.nil⟩
 |x::q,ih,vs,us,h,r=>by
  obtain⟨v,w,rfl,h1,h2⟩:=h.inv
  cases r with
  |cons r1 r2 =>
   obtain⟨as,ha⟩:=ih x (.head _) h1 r1
   obtain⟨bs,hb⟩:=nh (fun y hy=>ih y (.tail _ hy)) h2 r2
   exact⟨as++bs,.cons ha hb⟩
theorem yW(I:Inv X pins σ H s)(a:T):∀{v:V}{u:Value},Rp X.K H a v->RelV v u->∃as,Reads s.heap u a.py as:=by
 induction a using T.induct with
 |hs x=>intro v u h r;rw[h.aF]at r;obtain⟨t,rfl⟩:=r;unfold T.py;exact⟨[],.str x t⟩
 |hi x=>intro v u h r;rw[h.dB]at r;obtain⟨t,rfl⟩:=r;unfold T.py;exact⟨[],.int x t⟩
 |hn=>intro v u h r;unfold Rp at h;rw[h]at r;cases r;unfold T.py;exact⟨[],.none⟩
 |ht xs ih =>
  intro v u h r
  obtain⟨p,vs,rfl,hs,hr⟩:=h.aC
  cases r
  obtain⟨its,rv,⟨o,e,c,n,d⟩,_⟩:=I.tuple hs
  obtain⟨as,ha⟩:=nh (s:=s) ih hr rv
  unfold T.py
  exact⟨as,.tuple e c d (by simpa using ha)⟩
structure xg(d:PyData):Prop where
 sh:d.showable=true
 nd:d.hasDict=false
 dp:d.depth<=100
 sz:d.shown.length<=sizeLine
end
theorem T.xh(ns:List Int):T.Cb (ns.map .i)=ns.map .int:=by
 induction ns with
 |nil=>rfl
 |cons n r ih=>rw[List.map_cons,List.map_cons];unfold T.Cb;rw[ih];unfold T.py;rfl
theorem atS{z:Str}{r:Int}(h0:0<=r)(h:r<(z.length:Int)):∃c,jC z.cps.toList r=some c/\c∈z.cps.toList:=by
 have e:z.cps.toList.length=z.length:=by simp[Str.length]
 have hk:r.toNat<z.cps.toList.length:=by rw[e];omega
 have ek:r=((r.toNat:Nat):Int):=by omega
 have q:jC z.cps.toList ((r.toNat:Nat):Int)=some z.cps.toList[r.toNat]:=cF (List.getElem?_eq_getElem hk)
 rw[←ek]at q
 exact⟨_,q,List.getElem_mem hk⟩
theorem yX(cs:List Nat):Txt.join "" (cs.map fun c=>(⟨#[c]⟩:Str))=⟨cs.toArray⟩:=by
 show Builtin.Str.glued (Str.ofString "") _=_
 rw[StrLaws.glued_eq_join]
 exact PyProof.Rows.join_ones cs
theorem xm(l:List Nat):((l.map fun c=>(⟨#[c]⟩:Str)).map (·.length)).sum=l.length:=by
 induction l with
 |nil=>rfl
 |cons c r ih=>rw[List.map_cons,List.map_cons,List.sum_cons,ih,List.length_cons];show 1+_=_;omega
theorem AW(cs:List Nat):(⟨cs.toArray⟩:Str).length=cs.length:=by simp[Str.length]
theorem Cc(b:Bool)(z:Str):(Txt.mul z (if b then 1 else 0)).length<=z.length:=by
 cases b with
 |true=>simp[Txt.mul]
 |false=>simp[Txt.mul,Str.length,Str.empty]
end L2
namespace L2
open PySem
noncomputable def cH(H:Hp)(f:Addr):Prop:=∃p q:Int,H f=some (.lst [.int p,.int q])
noncomputable def Ext(f:Addr)(H H':Hp):Prop:=(∀b o,b≠f->H b=some o->H' b=some o)/\cH H' f
theorem Ext.refl{f:Addr}{H:Hp}(h:cH H f):Ext f H H:=⟨fun _ _ _ e=>e,h⟩
theorem Ext.trans{f:Addr}{H H1 H2:Hp}(a:Ext f H H1)(b:Ext f H1 H2):Ext f H H2:=⟨fun c o n e=>b.1 c o n (a.1 c o n e),b.2⟩
theorem Ext.same{f:Addr}{H H1 H2:Hp}(a:Ext f H H1)(s:aI H1 H2):Ext f H H2:=⟨fun c o n e=>s c o (a.1 c o n e),let⟨p,q,e⟩:=a.2;⟨p,q,s f _ e⟩⟩
theorem ae{H:Hp}{p:Addr}(h:H p=none)(o:HO):aI H (upd H p o):=fun b u q=>by rw[ay (au q h)];exact q
theorem cH.same{f:Addr}{H H':Hp}(h:cH H f)(s:aI H H'):cH H' f:=let⟨p,q,e⟩:=h;⟨p,q,s f _ e⟩
theorem Ext.tup{f:Addr}{H H':Hp}(e:Ext f H H')(hf:cH H f){a:Addr}{xs:List V}(h:H a=some (.tup xs)):H' a=some (.tup xs):=by
 refine e.1 a _ ?_ h
 obtain⟨p,q,hf⟩:=hf
 exact gj h hf (by intro z;cases z)
noncomputable def dD:Sp:=fun vs H Q _=>∃(f:Addr) (m:Int),vs=[.ref f,.int m]/\0<m/\m<1073741824/\cH H f/\∀(r:Int) (H':Hp),0<=r->r<m->Ext f H H'->Q (.int r) H'
noncomputable def xn(K:PySem.W.Frag):Sp:=fun vs H Q _=>∃(a:Addr) (ns:List Int) (k:Int),vs=[.ref a,.int k]/\cy K H a (ns.map V.int)/\ns.length<=63/\0<=k/\k<=100 /\
 ∀(r:Addr) (H':Hp),aI H H'->H r=none->cH H' r->Q (.ref r) H'
theorem small{n:Nat}(h:n<=1000):n<=sizeLine:=Nat.le_of_lt (aZ h)
theorem uv{ns:List Int}{k:Int}(h0:0<=k)(h:k<(ns.length:Int)):∃v:Int,jC (ns.map V.int) k=some (.int v):=by
 have hk:k.toNat<ns.length:=by omega
 have ek:k=((k.toNat:Nat):Int):=by omega
 have q:jC (ns.map V.int) ((k.toNat:Nat):Int)=some (.int ns[k.toNat]):=cF (by rw[List.getElem?_map,List.getElem?_eq_getElem hk]<;>rfl)
 rw[←ek]at q
 exact⟨_,q⟩
theorem iQ{α:Type}{xs:List α}{k:Int}(h0:0<=k)(h:k<(xs.length:Int)):∃v:α,jC xs k=some v/\v∈xs:=by
 have hk:k.toNat<xs.length:=by omega
 have ek:k=((k.toNat:Nat):Int):=by omega
 have q:jC xs ((k.toNat:Nat):Int)=some xs[k.toNat]:=cF (List.getElem?_eq_getElem hk)
 rw[←ek]at q
 exact⟨_,q,List.getElem_mem hk⟩
theorem Ext.kt{f:Addr}{H H':Hp}(e:Ext f H H')(hf:cH H f):Kt H H':=fun a xs r=>by
 obtain⟨p,q,hf⟩:=hf
 rcases r with h|⟨o,h⟩
 ·exact .inl (e.1 a _ (gj h hf (by intro z;cases z)) h)
 ·exact .inr ⟨o,e.1 a _ (gj h hf (by intro z;cases z)) h⟩
theorem Ext.lst{f:Addr}{H H':Hp}(e:Ext f H H'){l:Addr}{xs:List V}(n:l≠f)(h:H l=some (.lst xs)):H' l=some (.lst xs):=e.1 l _ n h
theorem Ext.new{f:Addr}{H H':Hp}(e:Ext f H H'){p:Addr}(h:H' p=none)(o:HO):Ext f H (L2.upd H' p o):=e.same (ae h o)
structure bS(P:Program) (w:World) (K:PySem.W.Frag) (mg:Str->Option Value) (base:Heap) (x:Str) (k:Nat) (ps:List Str) (sp:Sp) (f:Addr) (fd:FuncData):Prop where
 ok:bT P w K mg base fk k f fd ps sp
 at':mg x=some (.ref f)
 kp:PySem.W.keepIn K (.ref f)=true
 bd:Binds K fd ps []
theorem fT{P:Program}{w:World}{K:PySem.W.Frag}{mg:Str->Option Value}{base:Heap}{k:Nat}{f:Addr}{fd:FuncData}{ps:List Str}{sp:Sp}(h:∀vs H Q E,¬sp vs H Q E):bT P w K mg base fk k f fd ps sp :=
 ⟨fun vs H Q E z=>(h vs H Q E z).elim,fun _ _ _ _ _ _ _ _ _ _ _ _ _ z=>(h _ _ _ _ z).elim⟩
end L2
namespace L2
open PySem PySem.Spec PyProof.Rows
noncomputable def lF(p:List Str×Tm):T:=.t [.t (p.1.map .s),enc p.2]
noncomputable def right(tm:Tm):List (List Str×Tm):=(bnd tm.hd tm.ks.length).zip tm.ks
theorem bx.same{K:PySem.W.Frag}{H H':Hp}(e:aI H H'){a:Addr}{xs:List V}(h:bx K H a xs):bx K H' a xs:=h.kt (Kt.same e)
theorem Rp.same{K:PySem.W.Frag}{H H':Hp}(e:aI H H'){x:T}{v:V}(h:Rp K H x v):Rp K H' x v:=h.kt (Kt.same e)
theorem aO.same{K:PySem.W.Frag}{H H':Hp}(e:aI H H'){x:List T}{v:List V}(h:aO K H x v):aO K H' x v:=h.kt (Kt.same e)
theorem Rp.new{K:PySem.W.Frag}{H:Hp}{p:Addr}(hp:H p=none){xs:List T}{vs:List V}(h:aO K H xs vs):Rp K (upd H p (.tup vs)) (.t xs) (.ref p):=.t (.of af) (h.same (ae hp _))
section
variable {K:PySem.W.Frag}{Q:VK}{H0:Hp}
theorem rF{a pa:Addr}{ps:List Nat}{ts ks:List T}{vs:List V}(hS:bx K H0 a vs)(hr:aO K H0 ts vs)(hP:bx K H0 pa (ps.map fun(j:Nat)=>V.int (j:Int)))(hlen:ps.length<=1000)(hk:ps.map (fun(j:Nat)=>ts[j]?)=ks.map some)
  (k:∀(p:Addr) (H':Hp) (ws:List V),aI H0 H'->H' p=some (.lst ws)->aO K H' (ks.map fun k=>.t [.t [],k]) ws->Q (.ref p) H') :
  gY (vW K pa) (dW 0) m8 (qV (iA (qV mQ) (iA (vh (sQ K) (iN 1) (iN 0)) mQ))) Q [none,some (.ref a)] H0:=by
 refine fB (xs:=ps.map fun(j:Nat)=>V.int (j:Int)) (fun i σ us H2=>(∃x,σ=[x,some (.ref a)])/\aI H0 H2/\aO K H2 ((ks.take i).map fun k=>.t [.t [],k]) us) ⟨⟨none,rfl⟩,aI.refl _,.nil⟩ ?_ (small (by rw[List.length_map];exact hlen)) ?_ ?_ ?_
 ·rintro i σ us H2 hi ⟨_,_,r⟩
  rw[r.length,List.length_map,List.length_take];omega
 ·rintro i σ us H2 hi ⟨_,e,_⟩
  exact hP.same e
 ·rintro i x σ us H2 hx ⟨⟨x0,rfl⟩,e,r⟩
  rw[List.getElem?_map]at hx
  obtain⟨j,hj,rfl⟩:=Option.map_eq_some_iff.mp hx
  have hkj:ts[j]?=ks[i]?/\i<ks.length:=by
   have z:=congrArg (fun l=>l[i]?) hk
   simp only[List.getElem?_map,hj,Option.map_some]at z
   cases e2:ks[i]? with
   |none=>rw[e2]at z;cases z
   |some q=>rw[e2]at z;exact⟨Option.some.inj z,(List.getElem?_eq_some_iff.mp e2).1⟩
  obtain⟨hkj,hil⟩:=hkj
  rw[List.getElem?_eq_getElem hil]at hkj
  obtain⟨w,hw,rw'⟩:=hr.get hkj
  refine⟨Nat.zero_le _,fun q hq=>?_⟩
  have e1:=e.trans (ae hq (.tup []))
  refine⟨_,rfl,_,rfl,a,_,_,w,rfl,rfl,hS.same e1,cF hw,(by show 2<=sizeLine;decide),fun t ht=>?_⟩
  have e2:=e1.trans (ae ht (.tup [.ref q,w]))
  refine⟨⟨_,rfl⟩,e2,?_⟩
  rw[List.take_succ_eq_append_getElem hil,List.map_append]
  refine(r.same (fun b o h=>ae ht _ b o (ae hq _ b o h))).snoc (Rp.new ht (.cons ?_ (.one (rw'.same e1))))
  exact Rp.new hq .nil
 ·rintro σ us H2 ⟨_,e,r⟩ p hp
  have l:(ps.map fun(j:Nat)=>V.int (j:Int)).length=ks.length:=by
   have z:=congrArg List.length hk
   simpa using z
  rw[l,List.take_length]at r
  exact k p _ us (e.trans (ae hp _)) af (r.same (ae hp _))
theorem vB{pa:Addr}{ks:List T}{vs:List V}(hS:bx K H0 pa vs)(hr:aO K H0 ks vs)(hlen:ks.length<=1000)
  (k:∀(p:Addr) (H':Hp) (ws:List V),aI H0 H'->H' p=some (.lst ws)->aO K H' (ks.map fun k=>.t [.t [],k]) ws->Q (.ref p) H') :
  gY (vW K pa) (dW 0) m8 (qV (iA (qV mQ) (iA (iN 0) mQ))) Q [none] H0:=by
 have l:=hr.length
 refine fB (xs:=vs) (fun i σ us H2=>(∃x,σ=[x])/\aI H0 H2/\aO K H2 ((ks.take i).map fun k=>.t [.t [],k]) us) ⟨⟨none,rfl⟩,aI.refl _,.nil⟩ ?_ (small (by omega)) ?_ ?_ ?_
 ·rintro i σ us H2 hi ⟨_,_,r⟩
  rw[r.length,List.length_map,List.length_take];omega
 ·rintro i σ us H2 hi ⟨_,e,_⟩
  exact hS.same e
 ·rintro i x σ us H2 hx ⟨⟨x0,rfl⟩,e,r⟩
  obtain⟨y,hy,ry⟩:=hr.get' hx
  have hil:i<ks.length:=(List.getElem?_eq_some_iff.mp hy).1
  have ey:ks[i]=y:=(List.getElem?_eq_some_iff.mp hy).2
  refine⟨Nat.zero_le _,fun q hq=>?_⟩
  have e1:=e.trans (ae hq (.tup []))
  refine⟨_,rfl,(by show 2<=sizeLine;decide),fun t ht=>?_⟩
  have e2:=e1.trans (ae ht (.tup [.ref q,x]))
  refine⟨⟨_,rfl⟩,e2,?_⟩
  rw[List.take_succ_eq_append_getElem hil,List.map_append,ey]
  refine(r.same (fun b o h=>ae ht _ b o (ae hq _ b o h))).snoc (Rp.new ht (.cons ?_ (.one (ry.same e1))))
  exact Rp.new hq .nil
 ·rintro σ us H2 ⟨_,e,r⟩ p hp
  rw[l,List.take_length]at r
  exact k p _ us (e.trans (ae hp _)) af (r.same (ae hp _))
theorem vC{pa:Addr}{arms:List (Str×List Str)}{ks:List T}{vs:List V}(hl:arms.length=ks.length)(hS:bx K H0 pa vs)(hr:aO K H0 (List.zipWith fq arms ks) vs)(hlen:ks.length<=1000)
  (k:∀(p:Addr) (H':Hp) (ws:List V),aI H0 H'->H' p=some (.lst ws)->aO K H' (List.zipWith (fun a k=>.t [.t (a.2.map .s),k]) arms ks) ws->Q (.ref p) H') :
  gY (vW K pa) (vc K 3 (jf (dW 0) (jf (dW 1) (jf (dW 2) wg)))) m8 (qV (iA (iN 1) (iA (iN 2) mQ))) Q [none,none,none] H0:=by
 have l:=hr.length
 rw[List.length_zipWith,hl,Nat.min_self]at l
 refine fB (xs:=vs) (fun i σ us H2=>(∃x y z,σ=[x,y,z])/\aI H0 H2/\aO K H2 ((List.zipWith (fun(a:Str×List Str) k=>T.t [.t (a.2.map .s),k]) arms ks).take i) us) ⟨⟨none,none,none,rfl⟩,aI.refl _,.nil⟩ ?_ (small (by omega)) ?_ ?_ ?_
 ·rintro i σ us H2 hi ⟨_,_,r⟩
  rw[r.length,List.length_take];omega
 ·rintro i σ us H2 hi ⟨_,e,_⟩
  exact hS.same e
 ·rintro i x σ us H2 hx ⟨⟨x0,y0,z0,rfl⟩,e,r⟩
  obtain⟨y,hy,ry⟩:=hr.get' hx
  have hi:i<vs.length:=(List.getElem?_eq_some_iff.mp hx).1
  have hia:i<arms.length:=by omega
  have hik:i<ks.length:=by omega
  have hz:i<(List.zipWith (fun(a:Str×List Str) k=>T.t [.t (a.2.map .s),k]) arms ks).length:=by rw[List.length_zipWith];omega
  rw[List.getElem?_zipWith,List.getElem?_eq_getElem hia,List.getElem?_eq_getElem hik]at hy
  cases hy
  obtain⟨ra,rvs,rfl,sq,rr⟩:=(show Rp K H0 (.t [_,_,_]) x from ry).aC
  obtain⟨t1,q1,rfl,h1,rr⟩:=rr.inv
  obtain⟨t2,q2,rfl,h2,rr⟩:=rr.inv
  obtain⟨t3,q3,rfl,h3,rr⟩:=rr.inv
  obtain rfl:=rr.dh
  refine⟨ra,_,rfl,sq.same e,rfl,_,_,rfl,_,_,rfl,_,_,rfl,rfl,?_⟩
  refine⟨_,rfl,_,rfl,(by show 2<=sizeLine;decide),fun t ht=>?_⟩
  have e2:=e.trans (ae ht (.tup [t2,t3]))
  refine⟨⟨_,_,_,rfl⟩,e2,?_⟩
  rw[List.take_succ_eq_append_getElem hz]
  refine(r.same (ae ht _)).snoc ?_
  rw[List.getElem_zipWith]
  exact Rp.new ht (.cons (h2.same e) (.one (h3.same e)))
 ·rintro σ us H2 ⟨_,e,r⟩ p hp
  rw[List.take_of_length_le (by rw[List.length_zipWith];omega)]at r
  exact k p _ us (e.trans (ae hp _)) af (r.same (ae hp _))
end
theorem iZ{α β:Type}(f:α->Option β)(g:α->β):∀(l:List α),(∀a∈l,f a=some (g a))->l.filterMap f=l.map g
 | [],_=>rfl
 |a::r,h=>by rw[List.filterMap_cons,h a (.head _),List.map_cons,iZ f g r fun b hb=>h b (.tail _ hb)]
theorem vD{α:Type}(xs:List α):((List.range xs.length).map fun k=>xs.length-1-k).filterMap (xs[·]?)=xs.reverse:=by
 cases xs with
 |nil=>rfl
 |cons x r =>
  rw[List.filterMap_map,iZ _ (fun k=>(x::r).reverse.getD k x)]
  ·apply List.ext_getElem
   ·simp
   ·intro i h1 h2
    simp only[List.getElem_map,List.getElem_range]
    simp at h1
    simp only[List.getD_eq_getElem?_getD]
    rw[List.getElem?_eq_getElem h2]
    rfl
  ·intro k hk
   have hk':=List.mem_range.mp hk
   show(x::r)[(x::r).length-1-k]?=_
   have h2:k<(x::r).reverse.length:=by simpa using hk'
   simp only[List.getD_eq_getElem?_getD]
   rw[List.getElem?_eq_getElem h2,List.getElem_reverse,List.getElem?_eq_getElem (by omega)]
   rfl
theorem vE(n:Nat):sliceRange (sliceBounds none none (some (-1)) n).1 (sliceBounds none none (some (-1)) n).2.1 (sliceBounds none none (some (-1)) n).2.2=(List.range n).map fun k=>n-1-k:=by
 show sliceRange ((n:Int) - 1) (-1) (-1)=_
 unfold sliceRange
 have c:(if(-1:Int)>0 then(if(n:Int) - 1 < -1 then(-1 - ((n:Int) - 1)+-1-1) / -1 else 0)else(if(n:Int) - 1 > -1 then((n:Int) - 1 - -1 - -1-1) / (- -1)else 0))=(n:Int):=by
  rw[if_neg (by decide)]
  split
  ·rw[show(- -1:Int)=1 from rfl,Int.ediv_one];omega
  ·omega
 simp only[c,Int.toNat_natCast]
 refine List.map_congr_left fun k hk=>?_
 have:=List.mem_range.mp hk
 omega
theorem kc(xs:List V):o6 xs none none (some (-1))=xs.reverse:=by
 rw[yR (vE xs.length)]
 exact vD xs
section
variable {K:PySem.W.Frag}{Q:VK}{H0:Hp}
theorem tw{a:Addr}{ps:List (List Str×Tm)}{vs:List V}(hS:H0 a=some (.lst vs))(hr:aO K H0 (ps.map lF) vs)(hlen:ps.length<=1000)
  (k:∀(p:Addr) (ws:List V),H0 p=none->aO K H0 (ps.map fun p=>enc p.2) ws->Q (.ref p) (upd H0 p (.lst ws))) :
  gY (zW K a) (vc K 2 (jf (dW 0) (jf (dW 1) wg))) m8 (iN 1) Q [none,none] H0:=by
 have l:=hr.length
 rw[List.length_map]at l
 refine dX (xs:=vs) (fun i σ us H2=>(∃x y,σ=[x,y])/\H2=H0/\aO K H0 ((ps.take i).map fun p=>enc p.2) us) ⟨⟨none,none,rfl⟩,rfl,.nil⟩ ?_ (small (by omega)) ?_ ?_ ?_
 ·rintro i σ us H2 hi ⟨_,_,r⟩
  rw[r.length,List.length_map,List.length_take];omega
 ·rintro i σ us H2 hi ⟨_,rfl,_⟩
  exact cy.of hS
 ·rintro i x σ us H2 hx ⟨⟨x0,y0,rfl⟩,rfl,r⟩
  obtain⟨y,hy,ry⟩:=hr.get' hx
  rw[List.getElem?_map]at hy
  obtain⟨pr,hp,rfl⟩:=Option.map_eq_some_iff.mp hy
  have hil:i<ps.length:=(List.getElem?_eq_some_iff.mp hp).1
  have ep:ps[i]=pr:=(List.getElem?_eq_some_iff.mp hp).2
  obtain⟨ra,rvs,rfl,sq,rr⟩:=(show Rp K _ (.t [_,_]) x from ry).aC
  obtain⟨t1,q1,rfl,h1,rr⟩:=rr.inv
  obtain⟨t2,q2,rfl,h2,rr⟩:=rr.inv
  obtain rfl:=rr.dh
  refine⟨ra,_,rfl,sq,rfl,_,_,rfl,_,_,rfl,rfl,?_⟩
  refine⟨_,rfl,⟨_,_,rfl⟩,rfl,?_⟩
  rw[List.take_succ_eq_append_getElem hil,List.map_append,ep]
  exact r.snoc h2
 ·rintro σ us H2 ⟨_,rfl,r⟩ p hp
  rw[l,List.take_length]at r
  exact k p us hp r
end
noncomputable def Cd(sc:Scope)(y:Str):Bool:=(sc.names.lookup y == some .local||sc.names.lookup y == some .cell||sc.names.lookup y == some .free)&&!(y == ("__debug__":Str))&&!(y == ("__classdict__":Str))
noncomputable abbrev Nm(N:List Str)(sc:Scope):Prop:=N.all (Cd sc)=true
noncomputable def Ce(sc:Scope)(y:Str):Bool:=sc.names.lookup y == some .local||sc.names.lookup y == some .cell
noncomputable abbrev Lm(N:List Str)(sc:Scope):Prop:=N.all (Ce sc)=true
theorem Nm.get{N:List Str}{sc:Scope}(h:Nm N sc){i:Nat}{x:Str}(e:N[i]?=some x):Cu sc x/\(x == ("__debug__":Str))=false/\(x == ("__classdict__":Str))=false:=by
 have z:=List.all_eq_true.mp h x (List.mem_of_getElem? e)
 unfold Cd at z
 simp only[Bool.and_eq_true,Bool.or_eq_true,Bool.not_eq_true']at z
 obtain⟨⟨z1,z2⟩,z3⟩:=z
 refine⟨?_,z2,z3⟩
 rcases z1 with(z1|z1)|z1
 ·exact Or.inl (eq_of_beq z1)
 ·exact Or.inr (Or.inl (eq_of_beq z1))
 ·exact Or.inr (Or.inr (eq_of_beq z1))
theorem Lm.get{N:List Str}{sc:Scope}(h:Lm N sc){i:Nat}{x:Str}(e:N[i]?=some x):Loc sc x:=by
 have z:=List.all_eq_true.mp h x (List.mem_of_getElem? e)
 unfold Ce at z
 simp only[Bool.or_eq_true]at z
 rcases z with z|z
 ·exact Or.inl (eq_of_beq z)
 ·exact Or.inr (eq_of_beq z)
section
variable {X:Cx}
theorem va{x:Str}{pos:Pos}(h:Nm X.N X.env.scope)(i:Nat)(hN:X.N[i]?=some x:=by rfl):PE X (.Name x pos) (iN i):=wc hN (h.get hN).1 (h.get hN).2.1 (h.get hN).2.2
theorem sa{x:Str}{e:Expr}{te:TE}{pos pos':Pos}(hN:X.N.Nodup)(h:Lm X.N X.env.scope)(i:Nat)(he:PE X e te)(hi:X.N[i]?=some x:=by rfl)(hs:swapsWith e (some (.Name x pos')) pos.line X.env=pure false:=by kernel_rfl)
  (hf:X.fn x=true\/X.env.scope.names.lookup x=some .local:=by exact .inl rfl):PS X (.Assign [.Name x pos'] e pos) (qd te (dW i)):=fK hN hi (h.get hi) he hs hf
theorem ga{x:Str}{pos:Pos}(hN:X.N.Nodup)(h:Lm X.N X.env.scope)(i:Nat)(hi:X.N[i]?=some x:=by rfl)(hf:X.fn x=true\/X.env.scope.names.lookup x=some .local:=by first|exact .inl rfl|exact .inr (by kernel_rfl)):PG X (.Name x pos) (dW i):=eZ hN hi (h.get hi) hf
end
section
variable {X:Cx}
theorem yY{y:Str}{posn posa:Pos}{gg:TG}{elt iter tg:Expr}{ifs:List Expr}{scope:Scope}{pos:Pos}{wi:TI}{g:TG}{tt:TT}{te:TE}(own:List Str)(fr:List Nat)(hc:X.calm=true)
  (hkind:scope.kind=.function) (hcell:∀x∈scope.names,x.2≠.cell) (hnames:∀x∈scope.names,x.2=.local->scope.names.lookup x.1=some .local)
  (hfr:∀x∈scope.names,x.2=.free->X.env.scope.names.lookup x.1=some .cell\/X.env.scope.names.lookup x.1=some .free)
  (hin:∀j∈fr,scope.names.lookup (X.N.getD j Str.empty)=some .free)
  (hi:PI X tg iter wi) (hg:∀fp C s H,PG (bD X scope (own++fr.map fun j=>X.N.getD j Str.empty) fp C s H) tg g)
  (ht:∀fp C s H,vA (bD X scope (own++fr.map fun j=>X.N.getD j Str.empty) fp C s H) ifs tt)
  (he:∀fp C s H,PE (bD X scope (own++fr.map fun j=>X.N.getD j Str.empty) fp C s H) elt te)
  (hgg:PG X (.Name y posn) gg) (hsw:swapsWith (.ListComp elt [⟨tg,iter,ifs,0⟩] scope pos) (some (.Name y posn)) posa.line X.env=pure true)
  (hs:∀x,foldedSetIterable iter X.env x=pure x:=by intro _;rfl):PS X (.Assign [.Name y posn] (.ListComp elt [⟨tg,iter,ifs,0⟩] scope pos) posa) (qd (uh own.length fr wi g tt te) gg):=by
 intro pins s σ H D0 I h
 rw[exec_Assign_Name_used _ _ _ _ hsw,arm_evalThenUse_ListComp]
 refine wpAny_bind (wpAny_standAt (wpAny_bind (wpAny_bind ?_)))
 have hfree:∀x∈scope.names,x.2=.free->∃c,X.env.cells.lookup x.1=some c:=fun x hx e=>I.ok.has x.1 (hfr x hx e)
 refine cK (wpAny_comprehension_free (use:=some (assign (.Name y posn) X.env)) (Q:=fun _ s'=>SP X pins D0 .next s') rfl hs (jJ hfree) hkind hnames ?_) fun _ _ q=>wpAny_pure (wpAny_pure q)
 refine cK (hi pins s σ H _ I h) fun v s1 h1=>cK h1 fun itv s2 h2=>?_
 obtain⟨it,fp,tn,J,H2,e,I2,T,st2,f2,W,⟨m0,w0⟩,turn⟩:=h2
 subst e
 have hfo:∀b∈fp,b<s2.heap.objs.size:=fun b hb=>by obtain⟨o,e,_⟩:=T.obj 0 _ st2 b hb;exact Heap.lt_size e
 refine wpAny_newObj_type (wpAny_newFunctionEnv hcell (by intro y hy;simp at hy) (fun h₁ hns₁ hsb₁=>?_) hkind)
 dsimp only at hns₁ hsb₁⊢
 generalize hH2:s2.heap.push {cls:=.type "list",dict:=none,data:=.seq ([]:List Value).toArray}=G2 at hns₁ hsb₁⊢
 have hC:G2.objs.size=s2.heap.objs.size+1:=by rw[←hH2,Heap.size_push]
 have hDC:s2.heap.objs.size≠G2.objs.size:=by rw[hC];exact Nat.ne_of_lt (Nat.lt_succ_self _)
 have hCle:s2.heap.objs.size<=G2.objs.size:=by rw[hC];exact Nat.le_succ _
 have old:∀b o,s2.heap.get? b=some o->h₁.get? b=some o:=fun b o e=>hsb₁.extBut b o (by rw[hC];exact Nat.ne_of_lt (Nat.lt_succ_of_lt (Heap.lt_size e))) (Heap.get?_push_of_some _ (hH2▸Heap.get?_push_of_some _ e))
 have hacc:h₁.PlainList s2.heap.objs.size #[]:=⟨_,hsb₁.extBut _ _ hDC (Heap.get?_push_of_some _ (hH2▸Heap.get?_push_size _ rfl))⟩
 have I3:Inv (bD X scope (own++fr.map fun j=>X.N.getD j Str.empty) fp G2.objs.size s2 H2) [] (gX own.length fr σ) H2 {s2 with heap:=h₁,toks:=s2.toks+([]:List (Str×Value)).length} :=
  m9 I2 hkind hcell hfr hin hCle f2 hfo old hns₁
 have st3:tn 0 h₁:=T.keep 0 _ _ st2 fun b _ o e=>old b o e
 have hDf:s2.heap.objs.size∉fp:=fun hm=>Nat.lt_irrefl _ (hfo _ hm)
 have hDn2:H2 s2.heap.objs.size=none:=I2.hok.fresh (Nat.le_refl _)
 have sub:∀y c,(cu X.env scope.names []).lookup y=some c->X.env.cells.lookup y=some c:=fS _ _ hfree (by intro y c e;simp at e)
 have cellD:∀y c,(cu X.env scope.names []).lookup y=some c->c≠s2.heap.objs.size:=fun y c e=>by
  obtain⟨_,o,ho,_⟩:=I2.cell y c (sub y c e)
  exact Nat.ne_of_lt (Heap.lt_size ho)
 have Dfs:s2.heap.objs.size∉frs X.stack:=fun z=>by
  rcases List.mem_cons.mp (I2.mK _ z)with e|e
  ·exact absurd I2.lt (by rw[←e];exact Nat.lt_irrefl _)
  ·exact I2.yw (Nat.le_refl _) e
 -- the iterator's records,in the block's context
 have stat:∀{H':Hp}{pl:List (Addr×Obj)},(∀b∈fp,H' b=none)->(∀p∈pl,p.1=s2.heap.objs.size)->∀b∈fp,lQ (bD X scope (own++fr.map fun j=>X.N.getD j Str.empty) fp G2.objs.size s2 H2) pl H' b:=fun{H' pl} hn hp b hb=>by
  refine⟨hn b hb,(I3.ok.exf b hb).1,I3.ok.exfs b hb,.inl hb,(I3.ok.exf b hb).2,fun p hpp z=>?_⟩
  have hpp':p∈pl:=by simpa[bD]using hpp
  exact hDf (by rw[←hp p hpp',z];exact hb)
 have pinD:∀{σ':St}{H':Hp}{s':Shared}{ys:Array Value}{n:Nat},Inv (bD X scope (own++fr.map fun j=>X.N.getD j Str.empty) fp G2.objs.size s2 H2) [] σ' H' s'->H' s2.heap.objs.size=none->s'.heap.get? s2.heap.objs.size=some {cls:=.type "list",data:=.seq ys n} ->
   Inv (bD X scope (own++fr.map fun j=>X.N.getD j Str.empty) fp G2.objs.size s2 H2) [(s2.heap.objs.size,{cls:=.type "list",data:=.seq ys n})] σ' H' s':=fun{σ' H' s' ys n} J hn e=>J.eY fun p hp=>by
  have e':p=(s2.heap.objs.size,{cls:=.type "list",data:=.seq ys n}):=by simpa using hp
  subst e'
  exact⟨e,hn,hDC,Dfs,fun v z=>nomatch z⟩
 have loop:codeAny (model X.prog X.w) X.A (.compLoop (.ListComp elt [⟨tg,iter,ifs,0⟩] scope pos) 0 (.ref it) (.ref s2.heap.objs.size) (compEnvC scope (cu X.env scope.names []) G2.objs.size X.env))
   (compPost (model X.prog X.w) X.A X.xe (some (assign (.Name y posn) X.env)) (fun _ s'=>SP X pins D0 .next s') (.ref s2.heap.objs.size) G2.objs.size) {s2 with heap:=h₁,toks:=s2.toks+([]:List (Str×Value)).length}:=by
  refine fu (E:=fun _ _=>False) (fun n s'=>∃i σ' H' vs ys,Inv (bD X scope (own++fr.map fun j=>X.N.getD j Str.empty) fp G2.objs.size s2 H2) [] σ' H' s'/\tn i s'.heap/\(∀b∈fp,H' b=none)/\H' s2.heap.objs.size=none/\s'.heap.PlainList s2.heap.objs.size ys/\Vals vs ys.toList/\W i n σ' vs H')
   ?_ (fun _ _ z=>z.elim) m0 ⟨0,_,H2,[],#[],I3,st3,fun b hb=>(f2 b hb).1,hDn2,hacc,.nil,w0⟩
  rintro n s3 ⟨i,σ3,H3,vs,ys,J3,st3,fr3,dn3,⟨pn,pl3⟩,rv,w3⟩
  have J3':=pinD J3 dn3 pl3
  have hpins:∀p∈[(s2.heap.objs.size,({cls:=.type "list",data:=.seq ys pn}:Obj))],p.1=s2.heap.objs.size:=fun p hp=>by
   have e':p=(s2.heap.objs.size,{cls:=.type "list",data:=.seq ys pn}):=by simpa using hp
   rw[e']
  rcases turn i n σ3 vs H3 w3 with⟨stop,hz,q⟩|⟨go,hz,N,hN,step⟩
  ·refine cK (T.done (bD X scope (own++fr.map fun j=>X.N.getD j Str.empty) fp G2.objs.size s2 H2) rfl rfl rfl hc i _ s3 σ3 H3 (fun _ _=>False) J3' (stat fr3 hpins) st3 stop) fun r s4 ⟨hr,J4⟩=>?_
   subst hr
   obtain⟨m4,hn4,_⟩:=id J4.loc
   have e4:s4.heap.get? s2.heap.objs.size=some {cls:=.type "list",data:=.seq ys pn}:=(J4.pin (s2.heap.objs.size,{cls:=.type "list",data:=.seq ys pn}) (List.mem_append_right _ (by simp))).1
   obtain⟨oC,es,ep,eC,dC,kC,fC⟩:=hn4
   have I4:Inv X pins σ (upd H3 s2.heap.objs.size (.lst vs)) s4:=nc (h'':=s4.heap) I2 f2 J4 hCle (Nat.le_refl _) hDC dn3 ⟨pn,e4⟩ rv hz ⟨rfl,fun _ _=>rfl⟩
   have cL:G2.objs.size≠X.env.locals:=fun z=>absurd I2.lt (by rw[←z];exact Nat.not_lt.mpr hCle)
   have I5:Inv X (pins++[(G2.objs.size,oC)]) σ (upd H3 s2.heap.objs.size (.lst vs)) s4:=I4.eY fun p hp=>by
    rcases List.mem_append.mp hp with z|z
    ·exact I4.pin p (List.mem_append_right _ z)
    ·have z:p=(G2.objs.size,oC):=by simpa using z
     subst z
     exact⟨eC,by rw[ay hDC.symm];exact J4.free,cL,I2.yw hCle,fun v zv=>by rw[dC]at zv;cases zv⟩
   show wpAny _ _ (assign (.Name y posn) X.env (.ref s2.heap.objs.size)) _ _ _
   refine cK (hgg _ s4 σ _ (.ref s2.heap.objs.size) _ _ I5 rfl (q _ dn3)) fun _ s5 ⟨σ5,H5,I6,q6⟩=>?_
   have pC:=I6.pin (G2.objs.size,oC) (List.mem_append_right _ (List.mem_append_right _ (by simp)))
   refine⟨m4,⟨oC,es,ep,pC.1,dC,kC,fC⟩,fun h' hs'=>?_⟩
   have I7:Inv X pins σ5 H5 s5:=I6.eY fun p hp=>I6.pin p (List.mem_append_right _ (List.mem_append_left _ hp))
   refine⟨σ5,H5,I7.turned (t':=s5.toks) (it:=G2.objs.size) (fun b o hb e=>(hs'.2 b hb).trans e) pC.2.1 cL (.inr (Nat.le_trans I2.sz hCle)) (fun x c e z=>?_) (fun p hp z=>?_),q6⟩
   ·obtain⟨_,o,ho,_⟩:=I2.cell x c e
    exact absurd (Heap.lt_size ho) (by rw[z];exact Nat.not_lt.mpr hCle)
   ·exact absurd (Heap.lt_size (I2.pin p hp).1) (by rw[z];exact Nat.not_lt.mpr hCle)
  ·refine cK (T.item (bD X scope (own++fr.map fun j=>X.N.getD j Str.empty) fp G2.objs.size s2 H2) rfl rfl rfl hc i _ s3 σ3 H3 (fun _ _=>False) J3' (stat fr3 hpins) st3 go) fun r s4 ⟨u,hr,h4⟩=>?_
   subst hr
   refine cK h4 fun _ s5 ⟨x,H5,J5,r5,y5,st5,fr5⟩=>?_
   have J5':=J5.pinned (stat fr5 hpins) (T.obj _ _ st5)
   refine cK (hg fp _ s2 H2 _ s5 σ3 H5 x u _ J5' r5 (step x H5 y5)) fun _ s6 ⟨σ6,H6,J6,q6⟩=>?_
   refine cK (ht fp _ s2 H2 _ s6 σ6 H6 _ J6 q6) fun ok s7 ⟨H7,J7,q7⟩=>?_
   -- what stood pinned through the turn
   have after:∀{s8:Shared}{H8:Hp},Inv (bD X scope (own++fr.map fun j=>X.N.getD j Str.empty) fp G2.objs.size s2 H2) ([(s2.heap.objs.size,({cls:=.type "list",data:=.seq ys pn}:Obj))]++kL fp s5.heap) σ6 H8 s8 ->
     tn (i+1) s8.heap/\(∀b∈fp,H8 b=none)/\H8 s2.heap.objs.size=none/\s8.heap.get? s2.heap.objs.size=some {cls:=.type "list",data:=.seq ys pn}:=fun{s8 H8} J8=>by
    refine⟨T.keep _ _ _ st5 fun b hb o e=>(J8.pin (b,o) (List.mem_append_right _ (List.mem_append_right _ (eL hb e)))).1,fun b hb=>?_,?_,?_⟩
    ·obtain⟨o,e,d⟩:=T.obj _ _ st5 b hb
     exact(J8.pin (b,o) (List.mem_append_right _ (List.mem_append_right _ (eL hb e)))).2.1
    ·exact(J8.pin (s2.heap.objs.size,{cls:=.type "list",data:=.seq ys pn}) (List.mem_append_right _ (List.mem_append_left _ (by simp)))).2.1
    ·exact(J8.pin (s2.heap.objs.size,{cls:=.type "list",data:=.seq ys pn}) (List.mem_append_right _ (List.mem_append_left _ (by simp)))).1
   cases ok with
   |false =>
    obtain⟨m',hm,w7⟩:=hN _ _ _ q7
    obtain⟨a1,a2,a3,a4⟩:=after J7
    exact⟨m',hm,i+1,σ6,H7,vs,ys,J7.eY (fun p hp=>absurd hp (by simp)),a1,a2,a3,⟨pn,a4⟩,rv,w7⟩
   |true =>
    refine cK (he fp _ s2 H2 _ s7 σ6 H7 _ J7 q7) fun y s8 ⟨v8,H8,J8,r8,n8⟩=>?_
    obtain⟨m',hm,w8⟩:=hN _ _ _ n8
    obtain⟨a1,a2,a3,a4⟩:=after J8
    have J9:Inv (bD X scope (own++fr.map fun j=>X.N.getD j Str.empty) fp G2.objs.size s2 H2) [] σ6 H8 s8:=J8.eY (fun p hp=>absurd hp (by simp))
    have hys:ys.size<=sizeLine:=by
     have e1:vs.length=ys.toList.length:=rv.length
     have e2:ys.toList.length=ys.size:=by simp
     omega
    refine wpAny_list_append_plain (hsz:=hys) ⟨pn,a4⟩ fun h₅ hl₅ hs₅=>?_
    refine⟨m',hm,i+1,σ6,H8,vs++[v8],ys.push y,J9.turned (t':=s8.toks) (it:=s2.heap.objs.size) (fun b o hb e=>by rw[hs₅.2 b hb];exact e) a3 hDC (.inr (Nat.le_refl _)) cellD (fun p hp=>absurd (show p∈([]:List (Addr×Obj))from hp) (by simp)),
     T.keep _ _ _ a1 fun b hb o e=>(hs₅.2 b (fun z=>hDf (z▸hb))).trans e,a2,a3,hl₅,?_,w8⟩
    have:Vals (vs++[v8]) (ys.toList++[y]):=rv.append (.cons r8 .nil)
    simpa using this
 exact codeAny_compStart_list loop (T.self X.A 0 _ _ _ st3 loop)
end
theorem ni{X:Cx}{y:Str}{posn posa:Pos}{gg:TG}{elt iter tg:Expr}{ifs:List Expr}{scope:Scope}{pos:Pos}{wi:TI}{g:TG}{tt:TT}{te:TE}(sc:Scope)(N0 own:List Str)(fr:List Nat)(hc:X.calm=true)(hsc:X.env.scope=sc)(hN:X.N=N0)
  (ok:qo scope sc N0 fr=true) (hi:PI X tg iter wi) (hg:∀fp C s H,PG (bD X scope (own++fr.map fun j=>N0.getD j Str.empty) fp C s H) tg g)
  (ht:∀fp C s H,vA (bD X scope (own++fr.map fun j=>N0.getD j Str.empty) fp C s H) ifs tt)
  (he:∀fp C s H,PE (bD X scope (own++fr.map fun j=>N0.getD j Str.empty) fp C s H) elt te)
  (hgg:PG X (.Name y posn) gg) (hsw:swapsWith (.ListComp elt [⟨tg,iter,ifs,0⟩] scope pos) (some (.Name y posn)) posa.line X.env=pure true:=by kernel_rfl)
  (hs:∀x,foldedSetIterable iter X.env x=pure x:=by intro _;rfl):PS X (.Assign [.Name y posn] (.ListComp elt [⟨tg,iter,ifs,0⟩] scope pos) posa) (qd (uh own.length fr wi g tt te) gg):=by
 subst hsc hN
 unfold qo at ok
 simp only[Bool.and_eq_true,List.all_eq_true,bne_iff_ne,beq_iff_eq,Bool.or_eq_true]at ok
 obtain⟨⟨k1,k2⟩,k3⟩:=ok
 refine yY own fr hc k1 (fun x hx=>(k2 x hx).1.1) (fun x hx e=>?_) (fun x hx e=>?_) (fun j hj=>k3 j hj) hi hg ht he hgg hsw hs
 ·rcases(k2 x hx).1.2 with z|z
  ·exact absurd e z
  ·exact z
 ·rcases(k2 x hx).2 with(z|z)|z
  ·exact absurd e z
  ·exact .inl z
  ·exact .inr z
end L2
open Lean in
def r2:List Name:=[`ok,`at',`kp,`bd,`jm,`rfl,`PySem.F.plainAttrs_list,`aj,`ao,`K,`fO,`az,`PassesOwn.never,`z_range]
open Lean in
def r3:List (Name × Name × Nat × List Nat):=[(`Z0,`gQ,16,[1000,0,1,1001,1002,1003,2,204,101,3,4,4]),
 (`Z1,`cV,5,[100,101,4]),
 (`Z2,`j3,9,[100,1,101,102,103,3,3,4,4]),
 (`Z3,`eZ,99,[100,101,205,5,6]),
 (`Z4,`sa,6,[100,101,102,103,4,7,8]),
 (`Z5,`br,5,[100,101]),
 (`Z6,`vm,9,[100,1,101,102,103,3,3,4,4]),
 (`Z7,`ue,12,[206,100,101,102,103,104,4,4,4,4,4]),
 (`Z8,`eE,11,[100,101,102,103,205,205,205,9,104,105,10,106,11]),
 (`Za,`gm,99,[100,101,207,12]),
 (`Zb,`cV,99,[100,208]),
 (`Zc,`aM,8,[100,101,102,13]),
 (`Zd,`bR,3,[100]),
 (`Ze,`qq,5,[100,209,205,205,101,4,4]),
 (`Zf,`fj,8,[100,101,210]),
 (`Zg,`yL,99,[14,100,211,12]),
 (`Zi,`Ax,8,[212,205,100,101,102,11]),
 (`Zj,`aR,5,[100,101,4]),
 (`Zk,`cQ,5,[100]),
 (`Zl,`ni,15,[100,101,102,103,205,205,205,9,104,105,10,106,107,7,11]),
 (`Zm,`gm,7,[100,101,102,12]),
 (`Zn,`aJ,8,[100,101,102]),
 (`Zo,`ve,6,[1,213,100,4]),
 (`Zp,`qc,4,[100,4]),
 (`Zq,`bQ,4,[100])]
set_option hygiene false in
open Lean in
def r8:Nat->MacroM Term
 | 0=>`(hr.mono (by omega))
 | 1=>`(by show _=_;kernel_rfl)
 | 2=>`(.nil)
 | 3=>`(by decide)
 | 4=>`(by rfl)
 | 5=>`(Or.inl (by kernel_rfl))
 | 6=>`(by first|exact .inl rfl|exact .inr (by kernel_rfl))
 | 7=>`(by kernel_rfl)
 | 8=>`(by exact .inl rfl)
 | 9=>`(by decide +kernel)
 | 10=>`(fun _ _ _ _=>ju)
 | 11=>`(by intro _;rfl)
 | 12=>`(fun _ _=>rfl)
 | 13=>`(bF _)
 | _=>`(oV hr)
open Lean in
def r4 (f:Name)(a:Array Term):MacroM Term:=do
 let some (_,n,k,c):=r3.find? (·.1==f) | Macro.throwUnsupported
 let b←c.mapM fun i=>do
  if i<100 then r8 i else if i<200 then return a.getD (i-100) ⟨.missing⟩ else if i<1000 then return mkIdent (r2.getD (i-200) .anonymous) else return mkIdent ((a.getD (i/1000-1) ⟨.missing⟩).raw.getId++r2.getD (i%1000) .anonymous)
 let b:=b.toArray
 if k==99 then `($(mkIdent n) $b*) else
 let h←`(_)
 let s:=Array.replicate k h
 `(@$(mkIdent n) $s* $b*)
local macro_rules|`($f:ident $a*)=>r4 f.getId (a.map fun x=>⟨x.raw⟩)
namespace G03
open PySem L2
noncomputable def top(i:Nat):Stmt:=PySem.Challenge.pw_gapwork_k03_gaps_of_programs.main.body.getD i (.Pass ⟨0,0,0,0⟩)
noncomputable abbrev fD:Stmt:=top 3
noncomputable abbrev eU:Stmt:=top 4
noncomputable abbrev fh:Stmt:=top 5
noncomputable abbrev qt:Stmt:=top 6
noncomputable abbrev jE:Stmt:=top 7
noncomputable abbrev jR:Stmt:=top 9
noncomputable abbrev nj:Stmt:=top 11
noncomputable abbrev nk:Stmt:=top 12
noncomputable abbrev bY:Stmt:=top 13
noncomputable abbrev gq:Stmt:=top 14
noncomputable abbrev dI:Stmt:=top 15
noncomputable abbrev gb:Stmt:=top 16
noncomputable abbrev fE:Stmt:=top 17
noncomputable abbrev dS:Stmt:=top 18
noncomputable abbrev iE:Stmt:=top 19
noncomputable abbrev eV:Stmt:=top 20
noncomputable abbrev gr:Stmt:=top 21
noncomputable abbrev cG:Stmt:=top 22
noncomputable abbrev eG:Stmt:=top 23
noncomputable abbrev iF:Stmt:=top 24
noncomputable abbrev fF:Stmt:=top 25
noncomputable abbrev cA:Stmt:=top 26
noncomputable abbrev jv:Stmt:=top 27
noncomputable abbrev gu:Stmt:=top 28
noncomputable abbrev bN:Stmt:=top 29
noncomputable abbrev fG:Stmt:=top 30
noncomputable abbrev dY:Stmt:=top 31
noncomputable abbrev gZ:Stmt:=top 32
noncomputable abbrev gw:Stmt:=top 33
noncomputable abbrev gx:Stmt:=top 34
noncomputable abbrev di:Stmt:=top 35
noncomputable abbrev gc:Stmt:=top 36
noncomputable abbrev dc:Stmt:=top 37
noncomputable abbrev cS:Stmt:=top 38
noncomputable abbrev iG:Stmt:=top 39
noncomputable abbrev kh:Stmt:=top 40
section
variable {P:Program}{w:World}{K:PySem.W.Frag}{mg:Str->Option Value}{base:Heap}
theorem tD:aN ["_law_feed_here","_law_many","_law_digit","_law_one"] ["_law_feed_here","_law_many"] (ak nk):=⟨rfl,rfl,rfl,by decide +kernel,rfl,by decide +kernel,by decide +kernel⟩
theorem yZ{f:Addr}{fd:FuncData}(F:fJ K "_law_take" "_law_take" nk f fd):bT P w K mg base fk 1 f fd ["_law_feed_here","_law_many"] dD:=by
 refine F.ok tD (fun vs H Q E h=>?_) (fun cdv A outer s H vs Q E hr h=>?_)
 ·obtain⟨a,m,rfl,_⟩:=h
  rfl
 obtain⟨a,m,rfl,m0,m1,⟨p,q,hf⟩,k⟩:=h
 refine⟨_,br (fj (aM iX (Za bg (pv 0)) aj (bF _))
   (br (fK (i:=2) tD.nd rfl (Or.inl rfl) (aJ eu (Za bg (pv 0)) (pv 1)))
   (br (jN (aJ gM (Za bg (pv 0)) (pv 1)) (sF (pv 0) aj set_list))
   (bR (bQ (pv 2))))) fO)
  (br (fK (i:=3) tD.nd rfl (Or.inl rfl) (aJ eu (aJ fL (Za bg (pv 0)) aj) aj))
  (br (jN (aJ cJ (aJ eu (aJ cJ (aJ fL (pv 3) aj) aj) aj) aj) (sF (pv 0) aj set_list))
  (bR (bQ (aJ eu (aJ gM (aJ cJ (aJ fL (pv 3) aj) (Za bg (pv 0))) aj) (pv 1)))))),?_⟩
 have ext:∀p' q':Int,Ext a H (upd H a (.lst [.int p',.int q'])):=fun p' q'=>⟨fun b o n e=>by rw[ay n];exact e,p',q',af⟩
 refine⟨_,rfl,a,_,0,_,rfl,rfl,cy.of hf,rfl,_,_,rfl,rfl,_,rfl,?_⟩
 refine ck (fun _=>?_) (fun _=>?_)
 ·refine⟨_,rfl,a,_,0,_,rfl,rfl,cy.of hf,rfl,_,rfl,_,_,rfl,rfl,m0,?_⟩
  refine⟨_,rfl,a,_,0,_,rfl,rfl,cy.of hf,rfl,_,rfl,_,_,rfl,rfl,⟨m0,m1⟩,?_⟩
  refine⟨_,rfl,a,_,0,0,rfl,rfl,hf,rfl,?_⟩
  refine⟨_,rfl,?_⟩
  exact k _ _ (Int.emod_nonneg _ (by omega)) (Int.emod_lt_of_pos _ m0) (ext _ _)
 ·refine⟨_,rfl,a,_,1,_,rfl,rfl,cy.of hf,rfl,_,_,rfl,rfl,.inr ⟨by decide,by decide⟩,_,_,rfl,rfl,(by show(0:Int)<2147483647;decide),?_⟩
  refine⟨_,rfl,_,_,rfl,rfl,.inr ⟨by decide,by decide⟩,_,_,rfl,rfl,_,_,rfl,rfl,(by show(0:Int)<2147483399;decide),_,_,rfl,rfl,?_⟩
  refine⟨_,rfl,a,_,1,1,rfl,rfl,hf,rfl,?_⟩
  refine⟨_,rfl,_,_,rfl,rfl,.inr ⟨by decide,by decide⟩,_,rfl,a,_,1,_,rfl,rfl,cy.of af,rfl,_,_,rfl,rfl,_,_,rfl,rfl,⟨by decide,by decide⟩,_,rfl,_,_,rfl,rfl,m0,?_⟩
  exact k _ _ (Int.emod_nonneg _ (by omega)) (Int.emod_lt_of_pos _ m0) (ext _ _)
end
section
variable {P:Program}{w:World}{K:PySem.W.Frag}{mg:Str->Option Value}{base:Heap}
theorem kW:aN ["_law_script","_law_k","_law_cell","_law_own"] ["_law_script","_law_k"] (ak nj):=⟨rfl,rfl,rfl,by decide +kernel,rfl,by decide +kernel,by decide +kernel⟩
theorem za{f:Addr}{fd:FuncData}(F:fJ K "_law_feed" "_law_feed" nj f fd)(ml:mg "len"=none):bT P w K mg base fk 1 f fd ["_law_script","_law_k"] (xn K):=by
 refine F.ok kW (fun vs H Q E h=>?_) (fun cdv A outer s H vs Q E hr h=>?_)
 ·obtain⟨a,ns,m,rfl,_⟩:=h
  rfl
 obtain⟨a,ns,k,rfl,hS,hn,k0,k1,kk⟩:=h
 refine⟨_,br (fK (i:=2) kW.nd rfl (Or.inl rfl) (aJ cJ (aJ fL aj (pv 1)) aj))
  (br (fj (aM j0 (pv 1) (j3 aB (by rfl) ml PySem.boot_len (aA (pv 0) ao)) (bF _))
   (bR (fK (i:=2) kW.nd rfl (Or.inl rfl) (gm bg (pv 0) (pv 1) (fun _ _=>rfl))))
   (bR (fj (aM iX (j3 aB (by rfl) ml PySem.boot_len (aA (pv 0) ao)) aj (bF _))
    (bR (fK (i:=2) kW.nd rfl (Or.inl rfl) (aJ cJ (aJ fL (aJ eu (gm bg (pv 0) (aJ eu (pv 1) (j3 aB (by rfl) ml PySem.boot_len (aA (pv 0) ao))) (fun _ _=>rfl)) aj) aj) (aJ fL aj (pv 1)))))
    fO)))
  (br (fK (i:=3) kW.nd rfl (Or.inl rfl) aj)
  (br (fj (aM BJ (pv 2) (aJ AA aj aj) (bF _)) (bR (fK (i:=3) kW.nd rfl (Or.inl rfl) (pv 2))) fO)
  (bR (bQ (bf (aA (pv 3) (aA (aJ cJ (aJ eu (aJ cJ (aJ fL (aJ eu (pv 2) aj) aj) (aJ fL aj (pv 1))) aj) aj) ao)))))))),?_⟩
 have hl:(ns.map V.int).length=ns.length:=List.length_map _
 refine⟨_,rfl,_,_,rfl,rfl,.inl ⟨by decide,by decide⟩,_,_,rfl,rfl,?_⟩
 refine⟨_,rfl,_,rfl,a,_,rfl,.inl hS,_,_,rfl,rfl,_,rfl,?_⟩
 refine ck (fun c=>?_) (fun c=>?_)
 ·have c':k<((ns.map V.int).length:Int):=of_decide_eq_true c
  rw[hl]at c'
  obtain⟨v,hv⟩:=uv (ns:=ns) k0 c'
  refine⟨_,rfl,_,rfl,a,_,_,_,rfl,rfl,hS,hv,?_⟩
  refine⟨_,rfl,_,_,rfl,rfl,⟨by decide,by decide,by decide⟩,_,_,rfl,rfl,_,rfl,ck (fun _=>?_) (fun _=>?_)⟩
  ·refine⟨_,rfl,_,rfl,_,rfl,_,_,rfl,rfl,(by show(0:Int)<2147483629;decide),_,_,rfl,rfl,.inr ⟨by decide,by decide⟩,_,rfl,_,_,rfl,rfl,.inl ⟨by decide,by decide⟩,_,_,rfl,rfl,_,_,rfl,rfl,(by show(0:Int)<2147483629;decide),_,_,rfl,rfl,(by show 2<=sizeLine;decide),fun l hl=>?_⟩
   exact kk l _ (ae hl _) hl ⟨_,_,af⟩
  ·refine⟨_,rfl,_,rfl,_,_,rfl,rfl,(by show(0:Int)<2147483629;decide),_,_,rfl,rfl,.inr ⟨by decide,by decide⟩,_,rfl,_,_,rfl,rfl,.inl ⟨by decide,by decide⟩,_,_,rfl,rfl,_,_,rfl,rfl,(by show(0:Int)<2147483629;decide),_,_,rfl,rfl,(by show 2<=sizeLine;decide),fun l hl=>?_⟩
   exact kk l _ (ae hl _) hl ⟨_,_,af⟩
 ·refine⟨_,rfl,a,_,rfl,.inl hS,_,_,rfl,rfl,_,rfl,?_⟩
  refine ck (fun d=>?_) (fun d=>?_)
  ·have d':(0:Int)<((ns.map V.int).length:Int):=of_decide_eq_true d
   have d2:(0:Int)<(ns.length:Int):=by rw[hl]at d';exact d'
   obtain⟨v,hv⟩:=uv (ns:=ns) (k:=k % (((ns.map V.int).length:Nat):Int)) (Int.emod_nonneg _ (by omega)) (by rw[hl];exact Int.emod_lt_of_pos _ d2)
   refine⟨_,rfl,_,rfl,_,rfl,a,_,rfl,.inl hS,_,_,rfl,rfl,d',a,_,_,_,rfl,rfl,hS,hv,_,_,rfl,rfl,(by show(0:Int)<2147483629;decide),_,_,rfl,rfl,.inr ⟨by decide,by decide⟩,_,rfl,_,_,rfl,rfl,.inl ⟨by decide,by decide⟩,_,_,rfl,rfl,?_⟩
   refine⟨_,rfl,_,_,rfl,rfl,⟨by decide,by decide,by decide⟩,_,_,rfl,rfl,_,rfl,ck (fun _=>?_) (fun _=>?_)⟩
   ·refine⟨_,rfl,_,rfl,_,rfl,_,_,rfl,rfl,(by show(0:Int)<2147483629;decide),_,_,rfl,rfl,.inr ⟨by decide,by decide⟩,_,rfl,_,_,rfl,rfl,.inl ⟨by decide,by decide⟩,_,_,rfl,rfl,_,_,rfl,rfl,(by show(0:Int)<2147483629;decide),_,_,rfl,rfl,(by show 2<=sizeLine;decide),fun l hl=>?_⟩
    exact kk l _ (ae hl _) hl ⟨_,_,af⟩
   ·refine⟨_,rfl,_,rfl,_,_,rfl,rfl,(by show(0:Int)<2147483629;decide),_,_,rfl,rfl,.inr ⟨by decide,by decide⟩,_,rfl,_,_,rfl,rfl,.inl ⟨by decide,by decide⟩,_,_,rfl,rfl,_,_,rfl,rfl,(by show(0:Int)<2147483629;decide),_,_,rfl,rfl,(by show 2<=sizeLine;decide),fun l hl=>?_⟩
    exact kk l _ (ae hl _) hl ⟨_,_,af⟩
  ·refine⟨_,rfl,_,_,rfl,rfl,⟨by decide,by decide,by decide⟩,_,_,rfl,rfl,_,rfl,ck (fun _=>?_) (fun _=>?_)⟩
   ·refine⟨_,rfl,_,rfl,_,rfl,_,_,rfl,rfl,(by show(0:Int)<2147483629;decide),_,_,rfl,rfl,.inr ⟨by decide,by decide⟩,_,rfl,_,_,rfl,rfl,.inl ⟨by decide,by decide⟩,_,_,rfl,rfl,_,_,rfl,rfl,(by show(0:Int)<2147483629;decide),_,_,rfl,rfl,(by show 2<=sizeLine;decide),fun l hl=>?_⟩
    exact kk l _ (ae hl _) hl ⟨_,_,af⟩
   ·refine⟨_,rfl,_,rfl,_,_,rfl,rfl,(by show(0:Int)<2147483629;decide),_,_,rfl,rfl,.inr ⟨by decide,by decide⟩,_,rfl,_,_,rfl,rfl,.inl ⟨by decide,by decide⟩,_,_,rfl,rfl,_,_,rfl,rfl,(by show(0:Int)<2147483629;decide),_,_,rfl,rfl,(by show 2<=sizeLine;decide),fun l hl=>?_⟩
    exact kk l _ (ae hl _) hl ⟨_,_,af⟩
end
end G03
namespace L2
open PySem
theorem nt{f:Str}{v:V}{n:Nat}(k:Nat):∀{fs:List (Str×V)},fs.length+(k+1)<n->(yz f v fs).length+k<n
 | [],h=>by show 1+k<n;simp at h;omega
 |(g,x)::r,h=>by
  unfold yz
  split
  ·rw[List.length_cons]at h⊢;omega
  ·rw[List.length_cons]at h⊢
   have:=nt (f:=f) (v:=v) (n:=n) (k+1) (fs:=r) (by omega)
   omega
theorem xo{f:Str}{v:V}{n:Nat}{fs:List (Str×V)}(h:fs.length+1<n):(yz f v fs).length<n:=nt 0 h
theorem bU{X0:vX}{P:Program}{w:World}{K:PySem.W.Frag}{mg:Str->Option Value}{base:Heap}{N:List Str}{nm:Str}{sc:Scope}{f:Addr}{cdv:Value}{A:Around}{outer:List PySem.Env}{s:Shared}{H:Hp}{E:XK}:(sJ X0 P w K mg base N nm sc f cdv A outer s H E).Bw.K=K:=rfl
noncomputable def Cut(b:TS)(D:Ends)(N:St->Hp->Prop):Prop:=∀σ H,b D σ H->N σ H
theorem zb{a b:TS}{D:Ends}{σ:St}{H:Hp}(h:∀N:St->Hp->Prop,Cut b D N->a {D with nx:=N} σ H):aE a b D σ H:=h (b D) (fun _ _ x=>x)
theorem zc{D:Ends}{σ:St}{H:Hp}(h:D.nx σ H):zU D σ H:=h
theorem zd{D:Ends}{σ:St}{H:Hp}{v:V}{i:Nat}(h:D.nx (σ.set i (some v)) H):qd (tC v) (dW i) D σ H:=h
theorem ki{t0 t1 t2:TS}{D:Ends}{σ:St}{H:Hp}(h:∀N1 N2:St->Hp->Prop,Cut t1 {D with nx:=N2} N1->Cut t2 D N2->t0 {D with nx:=N1} σ H):aE t0 (aE t1 t2) D σ H:=h (aE t1 t2 D) (t2 D) (fun _ _ x=>x) (fun _ _ x=>x)
theorem kj{t0 t1 t2 t3:TS}{D:Ends}{σ:St}{H:Hp}(h:∀N1 N2 N3:St->Hp->Prop,Cut t1 {D with nx:=N2} N1->Cut t2 {D with nx:=N3} N2->Cut t3 D N3->t0 {D with nx:=N1} σ H):aE t0 (aE t1 (aE t2 t3)) D σ H:=h (aE t1 (aE t2 t3) D) (aE t2 t3 D) (t3 D) (fun _ _ x=>x) (fun _ _ x=>x) (fun _ _ x=>x)
theorem kq{t0 t1 t2 t3 t4:TS}{D:Ends}{σ:St}{H:Hp}(h:∀N1 N2 N3 N4:St->Hp->Prop,Cut t1 {D with nx:=N2} N1->Cut t2 {D with nx:=N3} N2->Cut t3 {D with nx:=N4} N3->Cut t4 D N4->t0 {D with nx:=N1} σ H):aE t0 (aE t1 (aE t2 (aE t3 t4))) D σ H:=h (aE t1 (aE t2 (aE t3 t4)) D) (aE t2 (aE t3 t4) D) (aE t3 t4 D) (t4 D) (fun _ _ x=>x) (fun _ _ x=>x) (fun _ _ x=>x) (fun _ _ x=>x)
theorem rG{t0 t1 t2 t3 t4 t5:TS}{D:Ends}{σ:St}{H:Hp}(h:∀N1 N2 N3 N4 N5:St->Hp->Prop,Cut t1 {D with nx:=N2} N1->Cut t2 {D with nx:=N3} N2->Cut t3 {D with nx:=N4} N3->Cut t4 {D with nx:=N5} N4->Cut t5 D N5->t0 {D with nx:=N1} σ H):aE t0 (aE t1 (aE t2 (aE t3 (aE t4 t5)))) D σ H:=h (aE t1 (aE t2 (aE t3 (aE t4 t5))) D) (aE t2 (aE t3 (aE t4 t5)) D) (aE t3 (aE t4 t5) D) (aE t4 t5 D) (t5 D) (fun _ _ x=>x) (fun _ _ x=>x) (fun _ _ x=>x) (fun _ _ x=>x) (fun _ _ x=>x)
theorem rH{t0 t1 t2 t3 t4 t5 t6:TS}{D:Ends}{σ:St}{H:Hp}(h:∀N1 N2 N3 N4 N5 N6:St->Hp->Prop,Cut t1 {D with nx:=N2} N1->Cut t2 {D with nx:=N3} N2->Cut t3 {D with nx:=N4} N3->Cut t4 {D with nx:=N5} N4->Cut t5 {D with nx:=N6} N5->Cut t6 D N6->t0 {D with nx:=N1} σ H):aE t0 (aE t1 (aE t2 (aE t3 (aE t4 (aE t5 t6))))) D σ H:=h (aE t1 (aE t2 (aE t3 (aE t4 (aE t5 t6)))) D) (aE t2 (aE t3 (aE t4 (aE t5 t6))) D) (aE t3 (aE t4 (aE t5 t6)) D) (aE t4 (aE t5 t6) D) (aE t5 t6 D) (t6 D) (fun _ _ x=>x) (fun _ _ x=>x) (fun _ _ x=>x) (fun _ _ x=>x) (fun _ _ x=>x) (fun _ _ x=>x)
theorem xq{t0 t1 t2 t3 t4 t5 t6 t7:TS}{D:Ends}{σ:St}{H:Hp}(h:∀N1 N2 N3 N4 N5 N6 N7:St->Hp->Prop,Cut t1 {D with nx:=N2} N1->Cut t2 {D with nx:=N3} N2->Cut t3 {D with nx:=N4} N3->Cut t4 {D with nx:=N5} N4->Cut t5 {D with nx:=N6} N5->Cut t6 {D with nx:=N7} N6->Cut t7 D N7->t0 {D with nx:=N1} σ H):aE t0 (aE t1 (aE t2 (aE t3 (aE t4 (aE t5 (aE t6 t7)))))) D σ H:=h (aE t1 (aE t2 (aE t3 (aE t4 (aE t5 (aE t6 t7))))) D) (aE t2 (aE t3 (aE t4 (aE t5 (aE t6 t7)))) D) (aE t3 (aE t4 (aE t5 (aE t6 t7))) D) (aE t4 (aE t5 (aE t6 t7)) D) (aE t5 (aE t6 t7) D) (aE t6 t7 D) (t7 D) (fun _ _ x=>x) (fun _ _ x=>x) (fun _ _ x=>x) (fun _ _ x=>x) (fun _ _ x=>x) (fun _ _ x=>x) (fun _ _ x=>x)
theorem rJ{t0 t1 t2 t3 t4 t5 t6 t7 t8:TS}{D:Ends}{σ:St}{H:Hp}(h:∀N1 N2 N3 N4 N5 N6 N7 N8:St->Hp->Prop,Cut t1 {D with nx:=N2} N1->Cut t2 {D with nx:=N3} N2->Cut t3 {D with nx:=N4} N3->Cut t4 {D with nx:=N5} N4->Cut t5 {D with nx:=N6} N5->Cut t6 {D with nx:=N7} N6->Cut t7 {D with nx:=N8} N7->Cut t8 D N8->t0 {D with nx:=N1} σ H):aE t0 (aE t1 (aE t2 (aE t3 (aE t4 (aE t5 (aE t6 (aE t7 t8))))))) D σ H:=h (aE t1 (aE t2 (aE t3 (aE t4 (aE t5 (aE t6 (aE t7 t8)))))) D) (aE t2 (aE t3 (aE t4 (aE t5 (aE t6 (aE t7 t8))))) D) (aE t3 (aE t4 (aE t5 (aE t6 (aE t7 t8)))) D) (aE t4 (aE t5 (aE t6 (aE t7 t8))) D) (aE t5 (aE t6 (aE t7 t8)) D) (aE t6 (aE t7 t8) D) (aE t7 t8 D) (t8 D) (fun _ _ x=>x) (fun _ _ x=>x) (fun _ _ x=>x) (fun _ _ x=>x) (fun _ _ x=>x) (fun _ _ x=>x) (fun _ _ x=>x) (fun _ _ x=>x)
theorem CC{d:Nat}:T.kQ []<=d:=by rw[T.kQ];exact Nat.zero_le _
theorem AX{x:T}{xs:List T}{d:Nat}(h:x.dep<=d)(r:T.kQ xs<=d):T.kQ (x::xs)<=d:=by rw[T.kQ];exact Nat.max_le.mpr ⟨h,r⟩
theorem CD{xs:List T}{d:Nat}(h:T.kQ xs<=d):T.dep (.t xs)<=d+1:=by rw[T.dep];exact Nat.succ_le_succ h
theorem Bp{x:Str}{d:Nat}:T.dep (.s x)<=d:=by simp[T.dep]
theorem Dm{x:Int}{d:Nat}:T.dep (.i x)<=d:=by simp[T.dep]
end L2
open L2 in
local macro_rules | `(tactic| fail "Z") => `(tactic| first | exact cy.of (by first | assumption | exact af) | exact bx.of (by first | assumption | exact af) | omega | (dsimp only [List.length_cons, List.length_nil]; decide) | decide | exact Nat.zero_le _ | (refine xo ?_; (repeat with_reducible refine nt _ ?_); decide))
open L2 in
local macro_rules | `(tactic| fail "S") => `(tactic| first
  | ((with_reducible change @Eq _ _ _); (first | exact rfl | assumption | exact af | (rw [ay (by assumption)]; first | exact af | assumption | (rw [ay (by assumption)]; first | exact af | assumption)) | omega))
  | ((with_reducible first | change @LT.lt _ _ _ _ | change @LE.le _ _ _ _); (first | omega | with_reducible assumption | fail "Z"))
  | assumption
  | ((with_reducible refine And.intro ?_ ?_) <;> fail "S")
  | ((with_reducible refine Or.inl ?_); fail "S")
  | ((with_reducible refine Or.inr ?_); fail "S")
  | ((with_reducible apply Exists.intro); fail "S")
  | ((with_reducible first | change Cz _ _ _ _ | change AB _ _ _ _ | change BF _ _ | change yy _ _ | change BG _ _); first | ((first | refine (?_ : @Eq _ _ _) | refine (?_ : And _ _) | refine (?_ : Or _ _) | refine (?_ : Exists _)); fail "S") | exact True.intro)
  | fail "Z")
open L2 in
local macro_rules | `(tactic| fail "T") => `(tactic| first
  | ((with_reducible first | refine rJ ?_ | refine rH ?_ | refine rG ?_ | refine kq ?_ | refine kj ?_ | refine ki ?_ | refine zb ?_); intros)
  | (refine (?_ : Exists _); first
     | with_reducible first | apply @Exists.intro Hp | apply @Exists.intro Sp
     | ((fail_if_success (with_reducible apply @Exists.intro (_ → _))); apply Exists.intro))
  | (refine And.intro ?_ ?_; fail "S")
  | ((try with_reducible first | refine zc ?_ | refine zd ?_); refine (by with_reducible assumption : Cut _ _ _) _ _ ?_))
local macro_rules | `(tactic| fail "R") => `(tactic| first | (fail "T"; fail "R") | refine And.intro ?_ ?_ | refine (?_ : @ite _ _ _ _ _) | skip)
local macro_rules | `(tactic| fail "F") => `(tactic| first | ((with_reducible apply Exists.intro); fail "F") | ((with_reducible refine And.intro ?_ ?_); fail "S"))
local macro_rules | `(tactic| fail "O") => `(tactic| first | (fail "T"; fail "O") | refine And.intro ?_ ?_ | ((first | (refine Or.inl ?_; fail "F") | (refine Or.inr ?_; fail "F")); fail "O") | refine (?_ : @ite _ _ _ _ _) | skip)
open L2 in
local macro_rules | `(tactic| fail "D") => `(tactic| repeat' first | exact CC | exact Bp | exact Dm | assumption | exact Nat.le_trans (by assumption) (by decide) | refine CD ?_ | refine AX ?_ ?_)
namespace G03
open PySem L2
noncomputable def placesOf:List (Str×List Nat):=[("num",[]),("name",[]),("gap",[]),("op",[2,3]),("more",[1,2]),("first",[1]),("others",[1]),("long",[1]),("if",[1,2,3])]
noncomputable def nu:List (Str×V):=[("row",.int 1),("tag",.int 2),("call",.int 2)]
structure Cf(K:PySem.W.Frag) (w:World) (mg:Str->Option Value) (dP dM:Addr) (pl:List (Str×V)):Prop where
 mP:mg "PLACES"=some (.ref dP)
 mM:mg "PLACE_OF_MANY"=some (.ref dM)
 kP:KD K w dP pl
 kM:KD K w dM nu
 at_:∀f ps,(f,ps)∈placesOf->∃a,pl.lookup f=some (.ref a)/\∀H,bx K H a (ps.map fun(j:Nat)=>V.int (j:Int))
noncomputable def pD(K:PySem.W.Frag):Sp:=fun vs H Q _=>∃(v:V) (tm:Tm),vs=[v]/\Rp K H (enc tm) v/\Wf tm/\tm.ks.length<=900 /\
 ∀(p:Addr) (H':Hp) (ws:List V),aI H H'->H' p=some (.lst ws)->aO K H' ((right tm).map lF) ws->Q (.ref p) H'
theorem pF:∀ks:List Tm,((List.replicate ks.length ([]:List Str)).zip ks).map lF=(ks.map enc).map fun k=>.t [.t [],k]
 | []=>rfl
 |k::r=>by rw[List.length_cons,List.replicate_succ,List.zip_cons_cons,List.map_cons,List.map_cons,List.map_cons,pF r];rfl
theorem lG{h:Hd}{ks:List Tm}(e:bnd h ks.length=List.replicate ks.length []):(right (.mk h ks)).map lF=(ks.map enc).map fun k=>.t [.t [],k]:=by
 unfold right
 show((bnd h ks.length).zip ks).map lF=_
 rw[e]
 exact pF ks
theorem rK:∀(arms:List (Str×List Str)) (kr:List Tm),arms.length=kr.length->((arms.map (·.2)).zip kr).map lF=List.zipWith (fun(a:Str×List Str) k=>T.t [.t (a.2.map .s),k]) arms (kr.map enc)
 | [],kr,h=>rfl
 |x::r,[],h=>rfl
 |x::r,y::q,h=>by rw[List.map_cons,List.zip_cons_cons,List.map_cons,List.map_cons,List.zipWith_cons_cons,rK r q (by simpa using h)];rfl
theorem vF{α:Type}(v:α)(q:List α):jC (v::q) 0=some v:=cF (j:=0) rfl
theorem l1{α:Type}:∀{xs:List α},xs.length=1->∃a,xs=[a]
 | [a],_=>⟨a,rfl⟩
theorem l2{α:Type}:∀{xs:List α},xs.length=2->∃a b,xs=[a,b]
 | [a,b],_=>⟨a,b,rfl⟩
theorem l3{α:Type}:∀{xs:List α},xs.length=3->∃a b c,xs=[a,b,c]
 | [a,b,c],_=>⟨a,b,c,rfl⟩
theorem Bq{a b:Str}(h:a≠b):decide (V.str a=V.str b)=false:=decide_eq_false fun z=>h (V.str.inj z)
theorem xr:∀p∈placesOf,p.1≠"match"/\p.1≠"let"/\p.1≠"fold"/\(List.lookup p.1 nu).isSome=false:=by decide +kernel
theorem vG{fm:Str}{ps:List Nat}(hm:(fm,ps)∈placesOf):ps.length<=1000:=(show ∀p∈placesOf,p.2.length<=1000 by decide +kernel) _ hm
theorem ze:∀p∈([("row",1),("tag",2),("call",2)]:List (Str×Nat)),p.1≠"match"/\p.1≠"let"/\p.1≠"fold"/\nu.lookup p.1=some (.int (p.2:Int)):=by decide +kernel
noncomputable def AY(hd:Hd)(ks:List Tm):Prop:=∃(fm:Str) (r:List T) (ps:List Nat),(fm,ps)∈placesOf/\eT hd (ks.map enc)=.t (.s fm::r)/\ps.map (fun(j:Nat)=>(T.s fm::r)[j]?)=(ks.map enc).map some/\bnd hd ks.length=List.replicate ks.length []
noncomputable def Cg(hd:Hd)(ks:List Tm):Prop:=∃(fm:Str) (r:List T) (j:Nat),(fm,j)∈([("row",1),("tag",2),("call",2)]:List (Str×Nat))/\eT hd (ks.map enc)=.t (.s fm::r)/\(T.s fm::r)[j]?=some (.t (ks.map enc))/\bnd hd ks.length=List.replicate ks.length []
theorem zf {hd : Hd} {ks : List Tm} (ar : cD hd ks.length = true) : AY hd ks ∨ Cg hd ks ∨ (∃ arms, hd = .mat arms) ∨ (∃ x, hd = .lt x) ∨ ∃ x y, hd = .fold x y := by
  cases hd
  case num n => obtain rfl : ks = [] := by simpa [cD] using ar
                exact .inl ⟨"num", [.i n], [], by decide +kernel, rfl, rfl, rfl⟩
  case name x => obtain rfl : ks = [] := by simpa [cD] using ar
                 exact .inl ⟨"name", [.s x], [], by decide +kernel, rfl, rfl, rfl⟩
  case gap n => obtain rfl : ks = [] := by simpa [cD] using ar
                exact .inl ⟨"gap", [.i n], [], by decide +kernel, rfl, rfl, rfl⟩
  case op s => obtain ⟨a, b, rfl⟩ := l2 (show ks.length = 2 by simpa [cD] using ar)
               exact .inl ⟨"op", [.s s, enc a, enc b], [2, 3], by decide +kernel, rfl, rfl, rfl⟩
  case more => obtain ⟨a, b, rfl⟩ := l2 (show ks.length = 2 by simpa [cD] using ar)
               exact .inl ⟨"more", [enc a, enc b], [1, 2], by decide +kernel, rfl, rfl, rfl⟩
  case first => obtain ⟨a, rfl⟩ := l1 (show ks.length = 1 by simpa [cD] using ar)
                exact .inl ⟨"first", [enc a], [1], by decide +kernel, rfl, rfl, rfl⟩
  case others => obtain ⟨a, rfl⟩ := l1 (show ks.length = 1 by simpa [cD] using ar)
                 exact .inl ⟨"others", [enc a], [1], by decide +kernel, rfl, rfl, rfl⟩
  case long => obtain ⟨a, rfl⟩ := l1 (show ks.length = 1 by simpa [cD] using ar)
               exact .inl ⟨"long", [enc a], [1], by decide +kernel, rfl, rfl, rfl⟩
  case ife => obtain ⟨a, b, c, rfl⟩ := l3 (show ks.length = 3 by simpa [cD] using ar)
              exact .inl ⟨"if", [enc a, enc b, enc c], [1, 2, 3], by decide +kernel, rfl, rfl, rfl⟩
  case row => exact .inr (.inl ⟨"row", [.t (ks.map enc)], 1, by decide +kernel, rfl, rfl, rfl⟩)
  case tag t => exact .inr (.inl ⟨"tag", [.s t, .t (ks.map enc)], 2, by decide +kernel, rfl, rfl, rfl⟩)
  case call t => exact .inr (.inl ⟨"call", [.s t, .t (ks.map enc)], 2, by decide +kernel, rfl, rfl, rfl⟩)
  case mat arms => exact .inr (.inr (.inl ⟨_, rfl⟩))
  case lt x => exact .inr (.inr (.inr (.inl ⟨_, rfl⟩)))
  case fold x y => exact .inr (.inr (.inr (.inr ⟨_, _, rfl⟩)))
section
variable {P:Program}{w:World}{K:PySem.W.Frag}{mg:Str->Option Value}{base:Heap}{dP dM:Addr}{pl:List (Str×V)}
theorem pG:aN ["term","form"] ["term"] (ak eU):=⟨rfl,rfl,rfl,by decide +kernel,rfl,by decide +kernel,by decide +kernel⟩
theorem rL{f:Addr}{fd:FuncData}(F:fJ K "right_in" "right_in" eU f fd)(TB:Cf K w mg dP dM pl):bT P w K mg base fk 1 f fd ["term"] (pD K):=by
 refine F.ok pG (fun vs H Q E h=>?_) (fun cdv A outer s H vs Q E hr h=>?_)
 ·obtain⟨v,tm,rfl,_⟩:=h
  rfl
 obtain⟨v,tm,rfl,hv,wf,hlen,k⟩:=h
 refine⟨_,(br (fK (i:=1) pG.nd rfl (Or.inl rfl) (Za aD (pv 0)))
  (br (fj (aM bJ (pv 1) az (bF _)) (bR (bQ (aJ mU (bf (aA (cQ (aA (cQ ao) (aA (Za aD (pv 0)) ao))) ao)) (eE (ak eU) ["term","form"] ["tag","names","inner"] [] rfl rfl rfl (by decide +kernel) (bX (Za aD (pv 0))) (fun _ _ _ _=>(qq (n:=3) K rfl rfl (aR (eZ (i:=0) (show(["tag","names","inner"]:List Str).Nodup by decide +kernel) rfl (Or.inl rfl)) (aR (eZ (i:=1) (show(["tag","names","inner"]:List Str).Nodup by decide +kernel) rfl (Or.inl rfl)) (aR (eZ (i:=2) (show(["tag","names","inner"]:List Str).Nodup by decide +kernel) rfl (Or.inl rfl)) bz))))) (fun _ _ _ _=>ju) (fun _ _ _ _=>(cQ (aA (pv 1) (aA (pv 2) ao)))))))) fO)
  (br (fj (aM bJ (pv 1) az (bF _)) (bR (bQ (bf (aA (cQ (aA (cQ ao) (aA (Za aD (pv 0)) ao))) (aA (cQ (aA (cQ (aA (Za aD (pv 0)) ao)) (aA (Za aD (pv 0)) ao))) ao))))) fO)
  (br (fj (aM bJ (pv 1) az (bF _)) (bR (bQ (bf (aA (cQ (aA (cQ ao) (aA (Za aD (pv 0)) ao))) (aA (cQ (aA (cQ ao) (aA (Za aD (pv 0)) ao))) (aA (cQ (aA (cQ (aA (Za aD (pv 0)) (aA (Za aD (pv 0)) ao))) (aA (Za aD (pv 0)) ao))) ao)))))) fO)
  (br (fj (aM yV (pv 1) (pY (v:=.ref dM) (by rfl) TB.mM rfl) (by with_unfolding_all rfl)) (bR (bQ (eE (ak eU) ["term","form"] ["inner"] [] rfl rfl rfl (by decide +kernel) (bX (gm aD (pv 0) (uu (pY (v:=.ref dM) (by rfl) TB.mM rfl) (pv 1) (fun _ _=>rfl)) (fun _ _=>rfl))) (fun _ _ _ _=>(eZ (i:=0) (show(["inner"]:List Str).Nodup by decide +kernel) rfl (Or.inl rfl))) (fun _ _ _ _=>ju) (fun _ _ _ _=>(cQ (aA (cQ ao) (aA (pv 0) ao))))))) fO)
  (bR (bQ (eE (ak eU) ["term","form"] ["place"] [0] rfl rfl rfl (by decide +kernel) (bX (uu (pY (v:=.ref dP) (by rfl) TB.mP rfl) (pv 1) (fun _ _=>rfl))) (fun _ _ _ _=>(eZ (i:=0) (show(["place","term"]:List Str).Nodup by decide +kernel) rfl (Or.inl rfl))) (fun _ _ _ _=>ju) (fun _ _ _ _=>(cQ (aA (cQ ao) (aA (gm (fg K rfl) (pv 1) (pv 0) (fun _ _=>rfl)) ao)))))))))))),?_⟩
 try dsimp only[bU]
 have kM:=TB.kM
 have kP:=TB.kP
 refine rG ?_
 intro N1 N2 N3 N4 N5 c1 c2 c3 c4 c5
 cases wf with
 |mk ar wk =>
 rename_i hd ks
 rw[cZ]at hv
 have hlen':ks.length<=900:=hlen
 have nE:(ks.map enc).length=ks.length:=List.length_map _
 rcases zf ar with⟨fm,r,ps,hm,he,hp,hb⟩|⟨fm,r,j,hm,he,hj,hb⟩|⟨arms,rfl⟩|⟨x,rfl⟩|⟨x,y,rfl⟩
 ·rw[he]at hv
  obtain⟨a,vs,rfl,hS,hr0⟩:=hv.aC
  obtain⟨v0,q0,rfl,e0,hr1⟩:=hr0.inv
  obtain rfl:=e0.aF
  obtain⟨pa,lk,hpa⟩:=TB.at_ fm ps hm
  have hpa':=hpa H
  fail "R"
  ·exact vF _ _
  fail "R"
  obtain⟨n1,n2,n3,n4⟩:=xr (fm,ps) hm
  refine eF (Bq n1) ?_
  fail "R"
  refine eF (Bq n2) ?_
  fail "R"
  refine eF (Bq n3) ?_
  fail "R"
  refine eF n4 ?_
  fail "R"
  refine rF (ks:=ks.map enc) hS hr0 (hpa H) (vG hm) hp fun p H' ws s1 h1 r1=>k p H' ws s1 h1 ?_
  rw[lG hb];exact r1
 ·rw[he]at hv
  obtain⟨a,vs,rfl,hS,hr0⟩:=hv.aC
  obtain⟨u,hu,ru⟩:=hr0.get hj
  obtain⟨b,us,rfl,hSb,hrb⟩:=ru.aC
  obtain⟨v0,q0,rfl,e0,hr1⟩:=hr0.inv
  obtain rfl:=e0.aF
  obtain⟨n1,n2,n3,n4⟩:=ze (fm,j) hm
  have n4':List.lookup fm nu=some (.int (j:Int)):=n4
  have hat:=cF hu
  fail "R"
  ·exact vF _ _
  fail "R"
  refine eF (Bq n1) ?_
  fail "R"
  refine eF (Bq n2) ?_
  fail "R"
  refine eF (Bq n3) ?_
  fail "R"
  refine pB (by rw[n4];rfl) ?_
  fail "R"
  refine vB (ks:=ks.map enc) hSb hrb (by omega) fun p H' ws s1 h1 r1=>k p H' ws s1 h1 ?_
  rw[lG hb];exact r1
 ·skip
  have hk:ks.length=arms.length+1:=by simpa[cD]using ar
  match ks,hk with
  |k0::kr,hk =>
  have hkr:arms.length=kr.length:=by simpa using hk.symm
  unfold eT at hv
  obtain⟨a,vs,rfl,hS,hr0⟩:=hv.aC
  obtain⟨v0,q0,rfl,e0,hr1⟩:=hr0.inv
  obtain rfl:=e0.aF
  obtain⟨v1,q1,rfl,e1,hr2⟩:=hr1.inv
  obtain⟨v2,q2,rfl,e2,hr3⟩:=hr2.inv
  obtain rfl:=hr3.dh
  obtain⟨b,us,rfl,hSb,hrb⟩:=e2.aC
  fail "R"
  intro p1 hp1
  have s1:=ae hp1 (.tup [])
  refine⟨_,rfl,a,_,1,_,rfl,rfl,hS.same s1,rfl,(by show 2<=sizeLine;decide),fun p2 hp2=>?_⟩
  have s2:=s1.trans (ae hp2 (.tup [.ref p1,v1]))
  refine⟨(by show 1<=sizeLine;decide),fun p3 hp3=>?_⟩
  have s3:=s2.trans (ae hp3 (.lst [.ref p2]))
  refine⟨_,rfl,a,_,2,_,rfl,rfl,hS.same s3,rfl,b,rfl,⟨_,hSb.same s3⟩,?_⟩
  refine vC (arms:=arms) (ks:=kr.map enc) (by rw[List.length_map];exact hkr) (hSb.same s3) (by exact hrb.same s3) (by rw[List.length_map];have:=hlen';simp at this;omega) fun p H' ws s4 h4 r4=>?_
  have z3:H' p3=some (.lst [.ref p2]):=s4 _ _ af
  refine⟨p3,p,_,_,rfl,rfl,z3,h4,?_,fun p5 hp5=>?_⟩
  ·have l:=r4.length
   rw[List.length_zipWith,List.length_map]at l
   rw[l]
   exact small (by have:=hlen';simp at this;show 1+_<=1000;omega)
  have s5:=s4.trans (ae hp5 (.lst ([.ref p2]++ws)))
  refine k p5 _ _ (s3.trans s5) af ?_
  have e:(right (.mk (.mat arms) (k0::kr))).map lF=T.t [.t [],enc k0]::List.zipWith (fun(a:Str×List Str) k=>T.t [.t (a.2.map .s),k]) arms (kr.map enc):=by
   unfold right
   show((([]:List Str)::arms.map (·.2)).zip (k0::kr)).map lF=_
   rw[List.zip_cons_cons,List.map_cons]
   rw[rK arms kr hkr]
   rfl
  rw[e]
  refine .cons ?_ (r4.same (ae hp5 _))
  refine Rp.same ((ae hp3 _).trans s5) (Rp.new hp2 (.cons (Rp.new hp1 .nil) (.one (e1.same s1))))
 ·skip
  have hk:ks.length=2:=by simpa[cD]using ar
  match ks,hk with
  | [k0,k1],hk =>
  unfold eT at hv
  obtain⟨a,vs,rfl,hS,hr0⟩:=hv.aC
  obtain⟨v0,q0,rfl,e0,hr1⟩:=hr0.inv
  obtain rfl:=e0.aF
  obtain⟨v1,q1,rfl,e1,hr2⟩:=hr1.inv
  obtain⟨v2,q2,rfl,e2,hr3⟩:=aO.inv hr2
  obtain⟨v3,q3,rfl,e3,hr4⟩:=aO.inv hr3
  obtain rfl:=hr4.dh
  fail "R"
  intro p1 hp1
  have s1:=ae hp1 (.tup [])
  refine⟨_,rfl,a,_,2,_,rfl,rfl,hS.same s1,rfl,(by show 2<=sizeLine;decide),fun p2 hp2=>?_⟩
  have s2:=s1.trans (ae hp2 (.tup [.ref p1,v2]))
  refine⟨_,rfl,a,_,1,_,rfl,rfl,hS.same s2,rfl,(by show 1<=sizeLine;decide),fun p3 hp3=>?_⟩
  have s3:=s2.trans (ae hp3 (.tup [v1]))
  refine⟨_,rfl,a,_,3,_,rfl,rfl,hS.same s3,rfl,(by show 2<=sizeLine;decide),fun p4 hp4=>?_⟩
  have s4:=s3.trans (ae hp4 (.tup [.ref p3,v3]))
  refine⟨(by show 2<=sizeLine;decide),fun p5 hp5=>?_⟩
  have s5:=s4.trans (ae hp5 (.lst [.ref p2,.ref p4]))
  refine k p5 _ _ s5 af ?_
  refine .cons (Rp.same ((ae hp3 _).trans ((ae hp4 _).trans (ae hp5 _))) (Rp.new hp2 (.cons (Rp.new hp1 .nil) (.one (e2.same s1))))) (.one ?_)
  exact Rp.same (ae hp5 _) (Rp.new hp4 (.cons (Rp.new hp3 (.one (e1.same s2))) (.one (e3.same s3))))
 ·skip
  have hk:ks.length=3:=by simpa[cD]using ar
  match ks,hk with
  | [k0,k1,k2],hk =>
  unfold eT at hv
  obtain⟨a,vs,rfl,hS,hr0⟩:=hv.aC
  obtain⟨v0,q0,rfl,e0,hr1⟩:=hr0.inv
  obtain rfl:=e0.aF
  obtain⟨v1,q1,rfl,e1,hr2⟩:=hr1.inv
  obtain⟨v2,q2,rfl,e2,hr3⟩:=hr2.inv
  obtain⟨v3,q3,rfl,e3,hr4⟩:=hr3.inv
  obtain⟨v4,q4,rfl,e4,hr5⟩:=hr4.inv
  obtain⟨v5,q5,rfl,e5,hr6⟩:=hr5.inv
  obtain rfl:=hr6.dh
  fail "R"
  intro p1 hp1
  have s1:=ae hp1 (.tup [])
  refine⟨_,rfl,a,_,1,_,rfl,rfl,hS.same s1,rfl,(by show 2<=sizeLine;decide),fun p2 hp2=>?_⟩
  have s2:=s1.trans (ae hp2 (.tup [.ref p1,v1]))
  refine⟨Nat.zero_le _,fun p3 hp3=>?_⟩
  have s3:=s2.trans (ae hp3 (.tup []))
  refine⟨_,rfl,a,_,4,_,rfl,rfl,hS.same s3,rfl,(by show 2<=sizeLine;decide),fun p4 hp4=>?_⟩
  have s4:=s3.trans (ae hp4 (.tup [.ref p3,v4]))
  refine⟨_,rfl,a,_,2,_,rfl,rfl,hS.same s4,rfl,_,rfl,a,_,3,_,rfl,rfl,hS.same s4,rfl,(by show 2<=sizeLine;decide),fun p5 hp5=>?_⟩
  have s5:=s4.trans (ae hp5 (.tup [v2,v3]))
  refine⟨_,rfl,a,_,5,_,rfl,rfl,hS.same s5,rfl,(by show 2<=sizeLine;decide),fun p6 hp6=>?_⟩
  have s6:=s5.trans (ae hp6 (.tup [.ref p5,v5]))
  refine⟨(by show 3<=sizeLine;decide),fun p7 hp7=>?_⟩
  have s7:=s6.trans (ae hp7 (.lst [.ref p2,.ref p4,.ref p6]))
  refine k p7 _ _ s7 af ?_
  have s67:=(ae hp6 (.tup [.ref p5,v5])).trans (ae hp7 (.lst [.ref p2,.ref p4,.ref p6]))
  have s57:=(ae hp5 (.tup [v2,v3])).trans s67
  have s37:=(ae hp3 (.tup [])).trans ((ae hp4 (.tup [.ref p3,v4])).trans s57)
  refine .cons (Rp.same s37 (Rp.new hp2 (.cons (Rp.new hp1 .nil) (.one (e1.same s1))))) (.cons (Rp.same s57 (Rp.new hp4 (.cons (Rp.new hp3 .nil) (.one (e4.same s3))))) (.one ?_))
  exact Rp.same (ae hp7 _) (Rp.new hp6 (.cons (Rp.new hp5 (.cons (e2.same s4) (.one (e3.same s4)))) (.one (e5.same s5))))
end
theorem pH(tm:Tm)(wf:Wf tm):(right tm).map (·.2)=tm.ks:=by
 cases wf with
 |mk ar wk =>
 rename_i h ks
 show(((bnd h ks.length).zip ks).map Prod.snd)=ks
 refine List.map_snd_zip ?_
 cases h<;>simp_all[bnd,cD]
theorem vH(tm:Tm)(wf:Wf tm):(right tm).length=tm.ks.length:=by
 have z:=congrArg List.length (pH tm wf)
 rwa [List.length_map]at z
theorem Wf.kids{tm:Tm}(wf:Wf tm):∀k∈tm.ks,Wf k:=by
 cases wf with
 |mk ar wk=>exact wk
theorem pI:∀l:List Tm,l.length<=Tm.sizes l
 | []=>Nat.le_refl _
 |k::r=>by rw[Tm.bM,List.length_cons];have:=Tm.size_pos k;have:=pI r;omega
theorem xu(tm:Tm):tm.ks.length<tm.size:=by
 cases tm with
 |mk h ks =>
  rw[Tm.eB]
  show ks.length<_
  have:ks.length<=Tm.sizes ks:=by
   induction ks with
   |nil=>exact Nat.le_refl _
   |cons k r ih=>rw[Tm.bM,List.length_cons];have:=Tm.size_pos k;omega
  omega
noncomputable def uw(K:PySem.W.Frag):Sp:=fun vs H Q _=>∃(v:V) (tm:Tm),vs=[v]/\Rp K H (enc tm) v/\Wf tm/\tm.size<=900 /\
 ∀(p:Addr) (H':Hp) (ws:List V),aI H H'->H p=none->H' p=some (.lst ws)->aO K H' (tm.parts.map enc) ws->Q (.ref p) H'
noncomputable def cR:Tm->Option Int
 |.mk (.gap n) _=>some n
 |_=>none
noncomputable def rM(K:PySem.W.Frag):Sp:=fun vs H Q _=>∃(v:V) (tm:Tm),vs=[v]/\Rp K H (enc tm) v/\Wf tm/\tm.size<=900 /\
 ∀(p:Addr) (H':Hp),aI H H'->H p=none->H' p=some (.lst ((tm.parts.filterMap cR).map V.int))->Q (.ref p) H'
noncomputable def Ci(K:PySem.W.Frag)(H:Hp)(v:V)(lt lw:Addr)(tm:Tm)(m:Nat)(σ:St)(H':Hp):Prop :=
 ∃(dn st:List Tm) (ws us:List V) (hv:Option V),σ=[some v,some (.ref lt),some (.ref lw),hv]/\aI H H'/\H' lt=some (.lst ws)/\aO K H' (dn.map enc) ws/\H' lw=some (.lst us)/\aO K H' (st.map enc) us/\(∀k∈st,Wf k)/\dn++Tm.dO st.reverse=tm.parts/\dn.length+Tm.sizes st=tm.size/\m=Tm.sizes st
noncomputable def uz(K:PySem.W.Frag):Sp:=fun vs H Q _=>∃(v:V) (tm:Tm),vs=[v]/\Rp K H (enc tm) v/\Wf tm/\tm.size<=900 /\
 ∀(p:Addr) (H':Hp) (ws:List V),aI H H'->H p=none->H' p=some (.lst ws)->aO K H' (tm.ks.map enc) ws->Q (.ref p) H'
section
variable {P:Program}{w:World}{K:PySem.W.Frag}{mg:Str->Option Value}{base:Heap}{gR:Addr}{rfd:FuncData}
theorem zg:aN ["term"] ["term"] (ak fh):=⟨rfl,rfl,rfl,by decide +kernel,rfl,by decide +kernel,by decide +kernel⟩
theorem xw{f:Addr}{fd:FuncData}(F:fJ K "inner_terms" "inner_terms" fh f fd)(RI:bS P w K mg base "right_in" 1 ["term"] (pD K) gR rfd):bT P w K mg base fk 2 f fd ["term"] (uz K):=by
 refine F.ok zg (fun vs H Q E h=>?_) (fun cdv A outer s H vs Q E hr h=>?_)
 ·obtain⟨v,tm,rfl,_⟩:=h
  rfl
 obtain⟨v,tm,rfl,hv,wf,hlen,k⟩:=h
 refine⟨_,(bR (bQ (eE (ak fh) ["term"] ["names","inner"] [] rfl rfl rfl (by decide +kernel) (dw (gQ RI.ok (hr.mono (by omega)) rfl RI.at' RI.kp RI.bd .nil jm (aA (pv 0) ao))) (fun _ _ _ _=>(qq (n:=2) K rfl rfl (aR (eZ (i:=0) (show(["names","inner"]:List Str).Nodup by decide +kernel) rfl (Or.inl rfl)) (aR (eZ (i:=1) (show(["names","inner"]:List Str).Nodup by decide +kernel) rfl (Or.inl rfl)) bz)))) (fun _ _ _ _=>ju) (fun _ _ _ _=>(pv 1))))),?_⟩
 have hk:=xu tm
 refine⟨_,rfl,v,tm,rfl,hv,wf,by omega,fun p H5 vs5 s5 h5 r5=>?_⟩
 refine⟨p,rfl,⟨_,cy.of h5⟩,?_⟩
 refine tw h5 r5 (by rw[vH tm wf];omega) fun p6 ws6 hp6 r6=>?_
 have e6:(right tm).map (fun p=>enc p.2)=tm.ks.map enc:=by rw[←pH tm wf,List.map_map];rfl
 rw[e6]at r6
 exact k p6 _ ws6 (s5.trans (ae hp6 _)) (s5.free hp6) af (r6.same (ae hp6 _))
theorem mj:aN ["term","told","waiting","here"] ["term"] (ak qt):=⟨rfl,rfl,rfl,by decide +kernel,rfl,by decide +kernel,by decide +kernel⟩
theorem xx{f:Addr}{fd:FuncData}(F:fJ K "parts" "parts" qt f fd)(IN:bS P w K mg base "inner_terms" 2 ["term"] (uz K) gR rfd):bT P w K mg base fk 3 f fd ["term"] (uw K):=by
 refine F.ok mj (fun vs H Q E h=>?_) (fun cdv A outer s H vs Q E hr h=>?_)
 ·obtain⟨v,tm,rfl,_⟩:=h
  rfl
 obtain⟨v,tm,rfl,hv,wf,hlen,k⟩:=h
 refine⟨_,(br (fK (i:=1) mj.nd rfl (Or.inl rfl) (bf ao))
  (br (fK (i:=2) mj.nd rfl (Or.inl rfl) (bf (aA (pv 0) ao)))
  (br (qT PassesOwn.never (wq (pv 2) (fun _=>rfl))
   (br (fK (i:=3) mj.nd rfl (Or.inl rfl) (wH PySem.F.plainAttrs_list PySem.F.slot_list_pop PySem.F.type_list_pop AL (pv 2)))
  (br (qc (ue PySem.F.plainAttrs_list PySem.F.slot_list_append PySem.F.type_list_append bG (pv 1) (aA (pv 3) ao)))
  (bR (qc (ue PySem.F.plainAttrs_list PySem.F.slot_list_extend PySem.F.type_list_extend eO (pv 2) (aA (o7 (gQ IN.ok (hr.mono (by omega)) rfl IN.at' IN.kp IN.bd .nil jm (aA (pv 3) ao)) dH dH (cf (lD ji aj))) ao)))))))
  (bR (bQ (pv 1)))))),?_⟩
 refine⟨Nat.zero_le _,fun lt hlt=>?_⟩
 have s1:=ae hlt (.lst [])
 refine⟨_,rfl,(by show 1<=sizeLine;decide),fun lw hlw=>?_⟩
 have s2:=s1.trans (ae hlw (.lst [v]))
 have nlw:lt≠lw:=fun z=>by subst z;rw[af]at hlw;cases hlw
 have glt:upd (upd H lt (.lst [])) lw (.lst [v]) lt=some (.lst []):=by rw[ay nlw];exact af
 refine⟨Ci K H v lt lw tm,⟨tm.size,[],[tm],[],[v],none,rfl,s2,glt,.nil,af,.one (hv.same s2),(fun k hk=>by cases hk with|head=>exact wf|tail _ h=>cases h),?_,?_,?_⟩,?_⟩
 ·simp[Tm.dO]
 ·simp[Tm.sizes]
 ·simp[Tm.sizes]
 ·rintro m σ H' ⟨dn,st,ws,us,h0,rfl,sm,h1,r1,h2,r2,wst,e1,e2,rfl⟩
  have l1:=r1.length
  rw[List.length_map]at l1
  refine⟨_,rfl,_,.inl ⟨us,cy.of h2,rfl⟩,?_⟩
  rcases List.eq_nil_or_concat st with rfl|⟨st',hd,rfl⟩
  ·obtain rfl:=r2.dh
   refine eF rfl ?_
   refine⟨_,rfl,k lt H' ws sm hlt h1 ?_⟩
   have z:dn=tm.parts:=by simpa[Tm.dO]using e1
   rw[←z];exact r1
  ·rw[List.concat_eq_append]at *
   rw[List.map_append]at r2
   obtain⟨us',ul,rfl,r3,r4⟩:=r2.split
   obtain⟨u,q,rfl,ru,rq⟩:=(show aO K H' [enc hd] ul from r4).inv
   obtain rfl:=rq.dh
   have wh:Wf hd:=wst hd (by simp)
   have hsz:dn.length+Tm.sizes st'+hd.size=tm.size:=by
    rw[Tm.bj,Tm.bM]at e2
    simp only[Tm.sizes]at e2
    omega
   have hk:=xu hd
   refine pB (by simp) ?_
   refine⟨fun σ' H''=>∃m',m' < Tm.sizes (st'++[hd])/\Ci K H v lt lw tm m' σ' H'',fun _ _ z=>z,?_⟩
   refine⟨_,rfl,.inl ⟨rfl,_,cy.of h2⟩,lw,_,u,rfl,rfl,h2,by simp,?_⟩
   rw[List.dropLast_concat]
   have k3:Kt H' (upd H' lw (.lst us')):=Kt.lst h2 _
   have h3t:upd H' lw (.lst us') lt=some (.lst ws):=by rw[ay nlw];exact h1
   refine⟨_,rfl,.inl ⟨rfl,_,cy.of h3t⟩,_,rfl,lt,_,_,rfl,rfl,h3t,aZ (by omega),?_⟩
   have k4:Kt (upd H' lw (.lst us')) (upd (upd H' lw (.lst us')) lt (.lst (ws++[u]))):=Kt.lst h3t _
   have h4w:upd (upd H' lw (.lst us')) lt (.lst (ws++[u])) lw=some (.lst us'):=by rw[ay nlw.symm];exact af
   have h4t:upd (upd H' lw (.lst us')) lt (.lst (ws++[u])) lt=some (.lst (ws++[u])):=af
   have sm4:aI H (upd (upd H' lw (.lst us')) lt (.lst (ws++[u]))):=fun b o e=>by
    have n1:b≠lt:=au e hlt
    have n2:b≠lw:=fun z=>by subst z;rw[ay n1.symm.symm]at hlw;rw[e]at hlw;cases hlw
    rw[ay n1,ay n2];exact sm b o e
   have k34:=k3.trans k4
   generalize upd (upd H' lw (.lst us')) lt (.lst (ws++[u]))=H4 at k34 h4w h4t sm4⊢
   refine⟨_,rfl,.inl ⟨rfl,_,cy.of h4w⟩,?_⟩
   refine⟨_,rfl,u,hd,rfl,ru.kt k34,wh,by omega,fun p6 H5 ws6 s5 hp6 h6 r6=>?_⟩
   have l6:=r6.length
   rw[List.length_map]at l6
   refine⟨_,rfl,_,rfl,p6,ws6,rfl,cy.of h6,(by decide),?_,fun p7 hp7=>?_⟩
   ·rw[kc,List.length_reverse];exact small (by omega)
   rw[kc]at *
   have s7:=s5.trans (ae hp7 (.lst ws6.reverse))
   have h7w:=s7 _ _ h4w
   have h7t:=s7 _ _ h4t
   have l3:=r3.length
   rw[List.length_map]at l3
   have hst:=pI st'
   refine⟨lw,p7,_,_,rfl,rfl,h7w,af,?_,?_⟩
   ·rw[List.length_reverse];exact small (by omega)
   have k8:Kt (upd H5 p7 (.lst ws6.reverse)) (upd (upd H5 p7 (.lst ws6.reverse)) lw (.lst (us'++ws6.reverse))):=Kt.lst h7w _
   have k78:=(Kt.same s7).trans k8
   have k67:Kt H5 (upd (upd H5 p7 (.lst ws6.reverse)) lw (.lst (us'++ws6.reverse))):=(Kt.same (ae hp7 _)).trans k8
   have ksz:Tm.sizes hd.ks+1=hd.size:=by cases hd with|mk h ks=>rw[Tm.eB];rfl
   refine⟨Tm.sizes st'+Tm.sizes hd.ks,by rw[Tm.bj];simp only[Tm.sizes];omega,dn++[hd],st'++hd.ks.reverse,ws++[u],us'++ws6.reverse,_,rfl,?_,?_,?_,af,?_,?_,?_,?_,?_⟩
   ·intro b o e
    have n2:b≠lw:=fun z=>by
     subst z
     have n1:b≠lt:=au e hlt
     rw[ay n1]at hlw;rw[e]at hlw;cases hlw
    rw[ay n2];exact s7 b o (sm4 b o e)
   ·rw[ay nlw];exact h7t
   ·rw[List.map_append];exact((r1.kt (k34.trans k78))).snoc (ru.kt (k34.trans k78))
   ·rw[List.map_append,List.map_reverse]
    exact(r3.kt (k34.trans k78)).append (r6.kt k67).reverse
   ·intro x hx
    rcases List.mem_append.mp hx with h|h
    ·exact wst x (List.mem_append_left _ h)
    ·exact(Wf.kids wh) x (List.mem_reverse.mp h)
   ·rw[List.reverse_append,List.reverse_reverse,Tm.jI]
    rw[List.reverse_append,List.reverse_singleton,List.singleton_append,Tm.gU]at e1
    rw[←e1]
    cases hd with
    |mk h ks=>rw[Tm.m6];simp[Tm.ks]
   ·rw[List.length_append,Tm.bj,Tm.iu,←hsz]
    cases hd with
    |mk h ks=>rw[Tm.eB];simp[Tm.ks];omega
   ·rw[Tm.bj,Tm.iu]
end
noncomputable def hdS:Hd->Str
 |.num _=>"num"|.name _=>"name"|.gap _=>"gap"|.op _=>"op"|.row=>"row"|.more=>"more"|.first=>"first"|.others=>"others"|.long=>"long"|.tag _=>"tag"|.call _=>"call"|.mat _=>"match"|.ife=>"if"|.lt _=>"let"|.fold _ _=>"fold"
theorem kX(tm:Tm):∃rest,enc tm=.t (.s (hdS tm.hd)::rest):=by
 cases tm with
 |mk h ks=>rw[cZ];cases h<;>exact⟨_,rfl⟩
theorem uA(tm:Tm):decide (V.str (hdS tm.hd)=V.str "gap")=(cR tm).isSome:=by
 cases tm with
 |mk h ks=>cases h<;>first|rfl|decide +kernel|(show decide (V.str _=V.str _)=_;exact(by decide +kernel))
section
variable {P:Program}{w:World}{K:PySem.W.Frag}{mg:Str->Option Value}{base:Heap}{gR gP:Addr}{rfd pfd:FuncData}
theorem xy:aN ["term"] ["term"] (ak jE):=⟨rfl,rfl,rfl,by decide +kernel,rfl,by decide +kernel,by decide +kernel⟩
theorem tE{f:Addr}{fd:FuncData}(F:fJ K "gaps_in" "gaps_in" jE f fd)(PA:bS P w K mg base "parts" 3 ["term"] (uw K) gP pfd):bT P w K mg base fk 4 f fd ["term"] (rM K):=by
 refine F.ok xy (fun vs H Q E h=>?_) (fun cdv A outer s H vs Q E hr h=>?_)
 ·obtain⟨v,tm,rfl,_⟩:=h
  rfl
 obtain⟨v,tm,rfl,hv,wf,hlen,k⟩:=h
 refine⟨_,(bR (bQ (eE (ak jE) ["term"] ["part"] [] rfl rfl rfl (by decide +kernel) (dw (gQ PA.ok (hr.mono (by omega)) rfl PA.at' PA.kp PA.bd .nil jm (aA (pv 0) ao))) (fun _ _ _ _=>(eZ (i:=0) (show(["part"]:List Str).Nodup by decide +kernel) rfl (Or.inl rfl))) (fun _ _ _ _=>(iD (aM bJ (Za (fg K rfl) (pv 0)) az (bF _)))) (fun _ _ _ _=>(Za (fg K rfl) (pv 0)))))),?_⟩
 refine⟨_,rfl,v,tm,rfl,hv,wf,hlen,fun p H1 ws s1 hp h1 r1=>?_⟩
 refine⟨p,rfl,⟨_,cy.of h1⟩,?_⟩
 have l1:=r1.length
 rw[List.length_map,Tm.fR]at l1
 refine dX (xs:=ws) (fun i σ us H2=>(∃x,σ=[x])/\H2=H1/\us=((tm.parts.take i).filterMap cR).map V.int) ⟨⟨none,rfl⟩,rfl,rfl⟩ ?_ (small (by omega)) ?_ ?_ ?_
 ·rintro i σ us H2 hi ⟨_,_,rfl⟩
  rw[List.length_map]
  exact Nat.le_trans (List.length_filterMap_le _ _) (by rw[List.length_take];omega)
 ·rintro i σ us H2 hi ⟨_,rfl,_⟩
  exact cy.of h1
 ·rintro i x σ us H2 hx ⟨⟨x0,rfl⟩,rfl,rfl⟩
  obtain⟨y,hy,ry⟩:=r1.get' hx
  rw[List.getElem?_map]at hy
  obtain⟨pt,hp,rfl⟩:=Option.map_eq_some_iff.mp hy
  have hil:i<tm.parts.length:=(List.getElem?_eq_some_iff.mp hp).1
  have ep:tm.parts[i]=pt:=(List.getElem?_eq_some_iff.mp hp).2
  obtain⟨rest,er⟩:=kX pt
  rw[er]at ry
  obtain⟨ra,rvs,rfl,sq,rr⟩:=ry.aC
  obtain⟨t1,q1,rfl,g1,rr2⟩:=rr.inv
  obtain rfl:=g1.aF
  refine⟨_,rfl,ra,_,0,_,rfl,rfl,sq,vF _ _,rfl,_,rfl,?_⟩
  rw[List.take_succ_eq_append_getElem hil,List.filterMap_append,List.map_append,ep]
  rw[uA pt]
  cases e:cR pt with
  |none =>
   refine eF rfl ⟨⟨_,rfl⟩,rfl,?_⟩
   simp[e]
  |some n =>
   refine pB rfl ?_
   cases pt with
   |mk hh ks =>
   have eh:hh=.gap n:=by
    cases hh<;>simp[cR]at e
    rw[e]
   subst eh
   rw[cZ]at er
   have er':rest=[.i n]:=by
    have z:T.t [.s "gap",.i n]=T.t (.s (hdS (Hd.gap n))::rest):=er
    injection z with z
    injection z with _ z
    exact z.symm
   subst er'
   obtain⟨t2,q2,rfl,g2,rr3⟩:=rr2.inv
   obtain rfl:=rr3.dh
   obtain rfl:=g2.dB
   refine⟨_,rfl,ra,_,1,_,rfl,rfl,sq,rfl,⟨_,rfl⟩,rfl,?_⟩
   simp[e]
 ·rintro σ us H2 ⟨_,rfl,rfl⟩ q hq
  rw[l1,←Tm.fR,List.take_length]
  exact k q _ (s1.trans (ae hq _)) (s1.free hq) af
end
end G03
namespace L2
open PySem
noncomputable def isStar:Expr->Bool
 |.Starred _ _=>true
 |_=>false
theorem xA{e:Expr}{es:List Expr}{env:PySem.Env}(h:isStar e=false):starEach (e::es) env=(false,eval e env)::starEach es env:=by
 cases e<;>first|rfl|cases h
theorem cV{X:Cx}{e:Expr}{es:List Expr}{te:TE}{t:TA}(ha:PE X e te)(hr:PA X es t)(hs:isStar e=false:=by rfl):PA X (e::es) (iA te t):=aA ha hr (xA hs)
end L2
namespace L2
open PySem PySem.Spec PyProof.Rows
section
variable {prog:Program}{w:World}{A:Around}{E:Value->Shared->Prop}{s:Shared}
end
section
variable {prog:Program}{w:World}{A:Around}{R:Result->Shared->Prop}{s:Shared}
end
section
variable {prog:Program}{w:World}{A:Around}{E:Value->Shared->Prop}{s:Shared}
end
section
variable {prog:Program}{w:World}{A:Around}{E:Value->Shared->Prop}{s:Shared}
end
section
variable {X:Cx}{a b:Expr}{t:TA}{p1 p2 p3 p4:Pos}
theorem zh{α:Type}{xs ys:List α}:xs[min xs.length ys.length]?=none\/ys[min xs.length ys.length]?=none:=by
 rcases Nat.le_total xs.length ys.length with h|h
 ·left;rw[Nat.min_eq_left h];exact List.getElem?_eq_none (Nat.le_refl _)
 ·right;rw[Nat.min_eq_right h];exact List.getElem?_eq_none (Nat.le_refl _)
noncomputable def AZ(xs ys:List V)(ts:List Addr)(H H':Hp):Prop:=aI H H'/\ts.length=min xs.length ys.length/\∀(j:Nat) (u:Nat),ts[j]?=some u->∃x y,xs[j]?=some x/\ys[j]?=some y/\H' u=some (.tup [x,y])
theorem zj{pins:List (Addr×Obj)}{σ:St}{H1:Hp}{s1:Shared}{h':Heap}{tk lo:Nat}{xs ys:List V}{its jts:List Value}{as:List Nat}{S:Nat}{o:HO}(I1:Inv X pins σ H1 s1)(rv:Vals xs its)(rw':Vals ys jts)
  (hlo:s1.heap.objs.size<=lo) (hk:∀b o,s1.heap.get? b=some o->h'.get? b=some o) (hal:as.length=min xs.length ys.length) (hG:iY h' lo its.toArray jts.toArray as) (hSn:s1.heap.objs.size<=S) (hSa:S∉as)
  (hS:cW X.prog X.w (upd (iP as xs ys H1) S o) h' S o):Inv X pins σ (upd (iP as xs ys H1) S o) {s1 with heap:=h',toks:=tk}/\AZ xs ys as H1 (upd (iP as xs ys H1) S o)/\H1 S=none:=by
 have low:∀u∈as,lo<=u:=hG.low
 have hS5:∀u∈as,u≠S:=fun u hu z=>hSa (z▸hu)
 have old:∀c,c<s1.heap.objs.size->upd (iP as xs ys H1) S o c=H1 c:=fun c hc=>by
  rw[ay (Nat.ne_of_lt (Nat.lt_of_lt_of_le hc hSn))]
  exact rB as xs ys fun hm=>absurd (Nat.lt_of_lt_of_le hc (Nat.le_trans hlo (low c hm))) (Nat.lt_irrefl _)
 have tups:∀(j:Nat) (u:Nat),as[j]?=some u->∃x y,xs[j]?=some x/\ys[j]?=some y/\upd (iP as xs ys H1) S o u=some (.tup [x,y]):=fun j u hj=>by
  have hj0:=(List.getElem?_eq_some_iff.mp hj).1
  have hjl:j<xs.length:=by omega
  have hjl2:j<ys.length:=by omega
  have hx:xs[j]?=some xs[j]:=List.getElem?_eq_getElem hjl
  have hy:ys[j]?=some ys[j]:=List.getElem?_eq_getElem hjl2
  refine⟨_,_,hx,hy,?_⟩
  rw[ay (hS5 u (List.mem_of_getElem? hj))]
  exact um as xs ys hG.rise j u _ _ hj hx hy
 refine⟨I1.grow (t':=tk) hk old (fun c o' hc e=>?_),⟨fun c o e=>by rw[old c (I1.hok.lt e)];exact e,hal,tups⟩,I1.hok.fresh hSn⟩
 by_cases hcS:c=S
 ·subst hcS
  rw[af]at e
  cases e
  exact hS
 ·rw[ay hcS]at e
  rcases oY as xs ys e with z|⟨j,x,y,f1,f2,f3,rfl⟩
  ·exact absurd (I1.hok.lt z) (Nat.not_lt.mpr hc)
  ·obtain⟨vx,vy,g1,g2,g3⟩:=hG.pairs j c f1
   obtain⟨ux,k1,k2⟩:=rv.get f2
   obtain⟨uy,k3,k4⟩:=rw'.get f3
   have g1':its[j]?=some vx:=by simpa using g1
   have g2':jts[j]?=some vy:=by simpa using g2
   rw[k1]at g1'
   rw[k3]at g2'
   cases g1'
   cases g2'
   exact⟨(by show 2<=sizeLine;decide),_,.cons k2 (.cons k4 .nil),⟨_,g3,rfl,_,rfl⟩,_,g3,rfl⟩
end
theorem pJ:entryFor table "dict.update.loop"=some Builtin.«dict.update.loop»:=by kernel_rfl
theorem iH:plainId "dict.update.loop"=true:=by kernel_rfl
theorem tF:typeLookup (.type "tuple") (Str.ofString "keys")=pure none:=by rw[typeLookup_type,builtinLookup_eq_fast];kernel_rfl
theorem tG:typeLookup (.type "list") (Str.ofString "keys")=pure none:=by rw[typeLookup_type,builtinLookup_eq_fast];kernel_rfl
theorem hU:isSubtype (.type "AttributeError") (.type "AttributeError")=pure true:=by kernel_rfl
section
variable {prog:Program}{w:World}{A:Around}{E:Value->Shared->Prop}{s:Shared}
theorem tH{a:Addr}{xs:Array Value}{k:Nat}{sl:Array (Option Value)}{u:Tok}{Q E:Value->Shared->Prop}(hh:A.handled=none)(ho:s.heap.get? a=some {cls:=.type "tuple",dict:=none,data:=.seq xs k,slots:=sl})
  (hE:∀h' tk e,s.heap.NewAttrErr h' e (.ref a) (Str.ofString "keys")->E (.ref e) {s with heap:=h',toks:=tk}):wpAny (model prog w) A (call (.builtin "tuple.__getattribute__") ([.ref a]++[.str (Str.ofString "keys") u])) Q E s:=by
 have hT:s.TypeIs (.ref a) "tuple":=⟨_,ho,rfl⟩
 refine wpAny_call (codeAny_call_builtin PySem.F.slot_tuple_getattribute.plain PySem.F.entry_tuple_ga (PySem.F.slot_tuple_getattribute.check _ _ _ _ _ _ [] _ hT (PySem.F.args_tuple_getattribute_2 _ _) ?_))
 refine wpAny_mono (meets_getattribute_miss_tuple a xs k sl (Str.ofString "keys") u tF (by decide) (by decide) prog w A (fun r s'=>∃h' tk e,r=.error (.ref e)/\s.heap.NewAttrErr h' e (.ref a) (Str.ofString "keys")/\s'={s with heap:=h',toks:=tk}) s ⟨ho,hh,fun h' tk e ne=>⟨h',tk,e,rfl,ne,rfl⟩⟩) (fun fin s' z=>?_) (fun e s' z=>?_)
 ·rcases fin with f|c
  ·obtain⟨_,_,_,h,_⟩:=z;cases h
  ·exact⟨z.1,codeAny_mono z.2 fun r s'' q=>by obtain⟨h',tk,e,rfl,ne,rfl⟩:=q;exact hE h' tk e ne⟩
 ·obtain⟨h',tk,e,h,ne,rfl⟩:=z
  cases h
  exact hE h' tk e ne
theorem ou{a:Addr}{xs:Array Value}{k:Nat}{sl:Array (Option Value)}{Q:Option Value->Shared->Prop}(hh:A.handled=none)(ho:s.heap.get? a=some {cls:=.type "tuple",dict:=none,data:=.seq xs k,slots:=sl})
  (hQ:∀h' tk,(∀b o,s.heap.get? b=some o->h'.get? b=some o)->Q none {s with heap:=h',toks:=tk}):wpAny (model prog w) A (getAttr? (.ref a) (Str.ofString "keys")) Q E s:=by
 unfold getAttr?
 refine wpAny_bind (wpAny_mkText ?_)
 have hT:Shared.TypeIs {s with toks:=s.toks+1} (.ref a) "tuple":=⟨_,ho,rfl⟩
 unfold getAttrBy?
 refine wpAny_bind (wpAny_attempt ?_)
 unfold getAttrBy
 refine wpAny_holding (wpAny_bind (wpAny_typeOf hT ?_))
 rw[show typeLookup (.type "tuple") (Str.ofString "__getattribute__")=pure (some (.builtin "tuple.__getattribute__"))from PySem.F.slot_tuple_getattribute.lookup]
 refine wpAny_bind (wpAny_pure ?_)
 dsimp only
 rw[if_neg (by decide)]
 unfold getAttrByItsOwn hookBefore
 rw[if_neg (by decide)]
 refine wpAny_bind (wpAny_pure ?_)
 refine wpAny_bind (wpAny_attempt (wpAny_holding ?_))
 unfold callGetattribute
 rw[if_neg (by decide)]
 unfold boundAndCalled
 rw[PySem.F.slot_tuple_getattribute.bind]
 refine wpAny_bind (wpAny_pure ?_)
 refine tH (s:={s with toks:=s.toks+1}) hh ho fun h' tk e ne=>?_
 obtain⟨t,u,he⟩:=ne.there
 have hTe:Shared.TypeIs {s with heap:=h',toks:=tk} (.ref e) "AttributeError":=⟨_,he,rfl⟩
 show wpAny _ _ (getattributeRaised _ _ _ _ none false false) _ _ _
 unfold getattributeRaised
 refine wpAny_bind (wpAny_isInstance hTe hU ?_)
 rw[if_pos rfl]
 unfold hookBehind
 rw[if_neg (by decide),PySem.F.plainAttrs_tuple.noGetattr]
 refine wpAny_bind (wpAny_pure ?_)
 unfold hookOrError
 dsimp only
 unfold attributeErrorLeaves
 dsimp only
 rw[if_pos (show(!false)=true from rfl)]
 refine wpAny_bind (wpAny_throw ?_)
 refine wpAny_bind (wpAny_isInstance hTe hU ?_)
 rw[if_pos rfl]
 exact wpAny_pure (hQ h' tk ne.keeps)
theorem vI{a:Addr}{xs:Array Value}{k:Nat}{sl:Array (Option Value)}{u:Tok}{Q E:Value->Shared->Prop}(hh:A.handled=none)(ho:s.heap.get? a=some {cls:=.type "list",dict:=none,data:=.seq xs k,slots:=sl})
  (hE:∀h' tk e,s.heap.NewAttrErr h' e (.ref a) (Str.ofString "keys")->E (.ref e) {s with heap:=h',toks:=tk}):wpAny (model prog w) A (call (.builtin "list.__getattribute__") ([.ref a]++[.str (Str.ofString "keys") u])) Q E s:=by
 have hT:s.TypeIs (.ref a) "list":=⟨_,ho,rfl⟩
 refine wpAny_call (codeAny_call_builtin PySem.F.slot_list_getattribute.plain PySem.F.entry_list_ga (PySem.F.slot_list_getattribute.check _ _ _ _ _ _ [] _ hT (PySem.F.args_list_getattribute_2 _ _) ?_))
 refine wpAny_mono (meets_getattribute_miss_list a xs k sl (Str.ofString "keys") u tG (by decide) (by decide) prog w A (fun r s'=>∃h' tk e,r=.error (.ref e)/\s.heap.NewAttrErr h' e (.ref a) (Str.ofString "keys")/\s'={s with heap:=h',toks:=tk}) s ⟨ho,hh,fun h' tk e ne=>⟨h',tk,e,rfl,ne,rfl⟩⟩) (fun fin s' z=>?_) (fun e s' z=>?_)
 ·rcases fin with f|c
  ·obtain⟨_,_,_,h,_⟩:=z;cases h
  ·exact⟨z.1,codeAny_mono z.2 fun r s'' q=>by obtain⟨h',tk,e,rfl,ne,rfl⟩:=q;exact hE h' tk e ne⟩
 ·obtain⟨h',tk,e,h,ne,rfl⟩:=z
  cases h
  exact hE h' tk e ne
theorem qu{a:Addr}{xs:Array Value}{k:Nat}{sl:Array (Option Value)}{Q:Option Value->Shared->Prop}(hh:A.handled=none)(ho:s.heap.get? a=some {cls:=.type "list",dict:=none,data:=.seq xs k,slots:=sl})
  (hQ:∀h' tk,(∀b o,s.heap.get? b=some o->h'.get? b=some o)->Q none {s with heap:=h',toks:=tk}):wpAny (model prog w) A (getAttr? (.ref a) (Str.ofString "keys")) Q E s:=by
 unfold getAttr?
 refine wpAny_bind (wpAny_mkText ?_)
 have hT:Shared.TypeIs {s with toks:=s.toks+1} (.ref a) "list":=⟨_,ho,rfl⟩
 unfold getAttrBy?
 refine wpAny_bind (wpAny_attempt ?_)
 unfold getAttrBy
 refine wpAny_holding (wpAny_bind (wpAny_typeOf hT ?_))
 rw[show typeLookup (.type "list") (Str.ofString "__getattribute__")=pure (some (.builtin "list.__getattribute__"))from PySem.F.slot_list_getattribute.lookup]
 refine wpAny_bind (wpAny_pure ?_)
 dsimp only
 rw[if_neg (by decide)]
 unfold getAttrByItsOwn hookBefore
 rw[if_neg (by decide)]
 refine wpAny_bind (wpAny_pure ?_)
 refine wpAny_bind (wpAny_attempt (wpAny_holding ?_))
 unfold callGetattribute
 rw[if_neg (by decide)]
 unfold boundAndCalled
 rw[PySem.F.slot_list_getattribute.bind]
 refine wpAny_bind (wpAny_pure ?_)
 refine vI (s:={s with toks:=s.toks+1}) hh ho fun h' tk e ne=>?_
 obtain⟨t,u,he⟩:=ne.there
 have hTe:Shared.TypeIs {s with heap:=h',toks:=tk} (.ref e) "AttributeError":=⟨_,he,rfl⟩
 show wpAny _ _ (getattributeRaised _ _ _ _ none false false) _ _ _
 unfold getattributeRaised
 refine wpAny_bind (wpAny_isInstance hTe hU ?_)
 rw[if_pos rfl]
 unfold hookBehind
 rw[if_neg (by decide),PySem.F.plainAttrs_list.noGetattr]
 refine wpAny_bind (wpAny_pure ?_)
 unfold hookOrError
 dsimp only
 unfold attributeErrorLeaves
 dsimp only
 rw[if_pos (show(!false)=true from rfl)]
 refine wpAny_bind (wpAny_throw ?_)
 refine wpAny_bind (wpAny_isInstance hTe hU ?_)
 rw[if_pos rfl]
 exact wpAny_pure (hQ h' tk ne.keeps)
theorem xB{κ:Type}[DecidableEq κ]{knd:KeyKind prog w κ}{d I:Addr}{fp wr:List Addr}{n:Nat}{St:Nat->Heap->Prop}{R:Result->Shared->Prop}{us:List Value}{rs:List (κ×Value)}{h₁:Heap}(W:Walks prog w A.in1 I fp wr n (fun i v=>us[i]?=some v) St)(hn:n=us.length)(hrl:rs.length=us.length)(hsz:n<=sizeLine)
  (hd:d∉fp) (hpr:∀(i:Nat) (u:Value) (kv:κ×Value),us[i]?=some u->rs[i]?=some kv->∃a o m key,u=.ref a/\h₁.get? a=some o/\o.cls=.type "tuple"/\o.data=.seq #[key,kv.2] m/\knd.is kv.1 key=true/\a≠d/\a∉wr)
  (hR:∀h' tk,h'.DictOf knd d (merged [] rs)->(∀b o,b≠d->b∉wr->h₁.get? b=some o->h'.get? b=some o)->R (.ok (.ret .none)) {s with heap:=h',toks:=tk}) :
  ∀(k i:Nat) (h:Heap) (tk:Nat),n-i=k->i<=n->St i h->h.DictOf knd d (merged [] (rs.take i))->(∀b o,b≠d->b∉wr->h₁.get? b=some o->h.get? b=some o) ->
   codeAny (model prog w) A (.builtin "dict.update.loop" ⟨[.ref d,.ref I,rawInt i,.none],[]⟩) R {s with heap:=h,toks:=tk}:=by
 intro k
 induction k with
 |zero =>
  intro i h tk hk hi hst hdd hkeep
  have hin:i=n:=by omega
  subst hin
  refine codeAny_builtin pJ ?_
  rw[Around.under_plainId iH _]
  show wpAny _ A.in1 (pyNext (.ref I)>>=_) _ _ _
  refine wpAny_bind (W.done {s with heap:=h,toks:=tk} _ _ hst fun h' tk' hq=>?_)
  refine wpAny_bind (wpAny_pure (wpAny_pure ?_))
  refine hR h' tk' ?_ (fun b o b1 b2 e=>hq b o b2 (hkeep b o b1 b2 e))
  rw[hn,←hrl,List.take_length]at hdd
  exact hdd.at fun o e=>hq d o (fun z=>hd (W.sub d z)) e
 |succ k ih =>
  intro i h tk hk hi hst hdd hkeep
  refine codeAny_builtin pJ ?_
  rw[Around.under_plainId iH _]
  show wpAny _ A.in1 (pyNext (.ref I)>>=_) _ _ _
  refine wpAny_bind (W.item i {s with heap:=h,toks:=tk} _ _ (by omega) hst fun v h2 tk2 hv hst2 hq=>?_)
  have hil:i<rs.length:=by omega
  obtain⟨a,o,m,key,rfl,ha,hc,hdta,hkey,nad,naw⟩:=hpr i v rs[i] hv (List.getElem?_eq_getElem hil)
  have ha2:h2.get? a=some o:=hq a o naw (hkeep a o nad naw ha)
  have hdd2:h2.DictOf knd d (merged [] (rs.take i)):=hdd.at fun o e=>hq d o (fun z=>hd (W.sub d z)) e
  have hT:Shared.TypeIs {s with heap:=h2,toks:=tk2} (.ref a) "tuple":=⟨o,ha2,hc⟩
  dsimp only
  refine wpAny_bind (wpAny_holding (wpAny_bind (wpAny_tryCatch ?_)))
  unfold Builtin.Dict.pairItems
  refine wpAny_bind (wpAny_typeOf hT ?_)
  rw[if_pos (show(Value.type "tuple" == Value.type "list"||Value.type "tuple" == Value.type "tuple")=true by decide)]
  refine wpAny_bind (wpAny_seqItems ha2 hdta (wpAny_pure ?_))
  show wpAny _ _ (holding [key,rs[i].2] (dictSet d key rs[i].2)) _ _ _
  refine wpAny_holding (wpAny_dictSet_pairs hkey hdd2 (fun h3 hd3 hs3=>?_) (by have:=merged_length_le ([]:List (κ×Value)) (rs.take i);rw[List.length_take]at this;simp at this;omega))
  refine wpAny_pure ⟨plainId_quiet iH _,?_⟩
  have e1:stored (merged [] (rs.take i)) rs[i].1 rs[i].2=merged [] (rs.take (i+1)):=by
   rw[merged_take_succ [] rs i _ (List.getElem?_eq_getElem hil)]
  rw[e1]at hd3
  exact ih (i+1) h3 _ (by omega) (by omega) (W.frame (i+1) _ _ hst2 fun b hb ob e=>hs3.extBut b ob (fun z=>hd (z▸hb)) e) hd3 fun b ob b1 b2 e=>hs3.extBut b ob b1 (hq b ob b2 (hkeep b ob b1 b2 e))
theorem lT{κ:Type}[DecidableEq κ]{knd:KeyKind prog w κ}{p:Addr}{o:Obj}{us:List Value}{m:Nat}{T:String}{rs:List (κ×Value)}{Q:Value->Shared->Prop}(hh:A.handled=none)(hTy:T="list"\/T="tuple")(ho:s.heap.get? p=some o)(hcl:o.cls=.type T)(hdi:o.dict=none)(hdt:o.data=.seq us.toArray m)
  (hrl:rs.length=us.length) (hsz:us.length<=sizeLine) (hpr:∀(i:Nat) (u:Value) (kv:κ×Value),us[i]?=some u->rs[i]?=some kv->∃a o m key,u=.ref a/\s.heap.get? a=some o/\o.cls=.type "tuple"/\o.data=.seq #[key,kv.2] m/\knd.is kv.1 key=true)
  (hQ:∀h' tk,h'.DictOf knd s.heap.objs.size (merged [] rs)->(∀b o,s.heap.get? b=some o->h'.get? b=some o)->Q (.ref s.heap.objs.size) {s with heap:=h',toks:=tk}) :
  wpAny (model prog w) A (call (.type "dict") [.ref p]) Q E s:=by
 have hlt:p<s.heap.objs.size:=Heap.lt_size ho
 have hS:(s.heap.push {cls:=.type "dict",data:=.dict #[]}).get? s.heap.objs.size=some {cls:=.type "dict",data:=.dict #[]}:=Heap.get?_push_size _ rfl
 have oth:∀b o,s.heap.get? b=some o->(s.heap.push {cls:=.type "dict",data:=.dict #[]}).get? b=some o:=fun b o e=>Heap.get?_push_of_some _ e
 refine callType_codes (Q₁:=fun obj s₁=>obj=.ref s.heap.objs.size/\s₁={s with heap:=s.heap.push {cls:=.type "dict",data:=.dict #[]}}) PySem.F.kt_called_dict (PySem.F.kt_typeCall_dict_1 _) PySem.F.entry_dict_init
  (kt_code_dict_new _ ⟨rfl,rfl⟩) fun obj s₁ h₁=>?_
 obtain⟨rfl,rfl⟩:=h₁
 refine⟨⟨_,hS,rfl⟩,PySem.F.args_dict_init_2 _ _,?_⟩
 have hD0:Heap.DictOf knd (s.heap.push {cls:=.type "dict",data:=.dict #[]}) s.heap.objs.size (merged ([]:List (κ×Value)) (rs.take 0)):=Heap.DictOf.new s.heap
 generalize s.heap.push {cls:=.type "dict",data:=.dict #[]}=g at hS oth hD0⊢
 have hTd:Shared.TypeIs {s with heap:=g} (.ref s.heap.objs.size) "dict":=⟨_,hS,rfl⟩
 have hTp:Shared.TypeIs {s with heap:=g} (.ref p) T:=⟨_,oth _ _ ho,hcl⟩
 unfold Builtin.«dict.__init__» Builtin.Dict.selfAndRest Builtin.Dict.notOrdered
 refine wpAny_bind (wpAny_bind ?_)
 rw[if_pos (by decide)]
 dsimp only[List.headD]
 refine wpAny_bind (wpAny_typeOf hTd ?_)
 rw[if_neg (by decide)]
 refine wpAny_pure ?_
 refine wpAny_bind (show wpAny _ _ (Builtin.Dict.addrOf (.ref s.heap.objs.size)) _ _ _ from wpAny_pure (wpAny_pure ?_))
 show wpAny _ _ (Builtin.Dict.updateFrom "dict.__init__" s.heap.objs.size (.ref p) [] .none) _ _ _
 unfold Builtin.Dict.updateFrom
 refine wpAny_bind (wpAny_typeOf hTp ?_)
 dsimp only
 rw[if_pos (by rcases hTy with rfl|rfl<;>decide)]
 have fin:∀(g2:Heap) (tk:Nat),(∀b o,g.get? b=some o->g2.get? b=some o)->wpAny (model prog w) A.in1.in1 (pyIter (.ref p)) (fun it s2=>wpAny (model prog w) A.in1.in1 (again (.builtin "dict.update.loop" ⟨[.ref s.heap.objs.size,it,rawInt 0,.none],[]⟩))
   (fun fin s'=>match fin with
    |.done f=>wants (fun r s₂=>r=.none/\Q (.ref s.heap.objs.size) s₂) E (.ok f) s'
    |.again c'=>c'.quiet=true/\codeAny (model prog w) A.in1 c' (wants (fun r s₂=>r=.none/\Q (.ref s.heap.objs.size) s₂) E) s')
   (fun e s'=>wants (fun r s₂=>r=.none/\Q (.ref s.heap.objs.size) s₂) E (.error e) s') s2)
   (fun e s'=>wants (fun r s₂=>r=.none/\Q (.ref s.heap.objs.size) s₂) E (.error e) s') {s with heap:=g2,toks:=tk}:=by
  intro g2 tk hk2
  have ho2:g2.get? p=some o:=hk2 _ _ (oth _ _ ho)
  have hdlt:s.heap.objs.size<g2.objs.size:=Heap.lt_size (hk2 _ _ hS)
  have loop:∀(g3:Heap) (tk3:Nat) (St:Nat->Heap->Prop),Walks prog w A.in1.in1 g2.objs.size [g2.objs.size,p] [g2.objs.size] us.toArray.size (fun i v=>us.toArray[i]?=some v) St->St 0 g3->(∀b o,g2.get? b=some o->g3.get? b=some o) ->
    codeAny (model prog w) A.in1 (.builtin "dict.update.loop" ⟨[.ref s.heap.objs.size,.ref g2.objs.size,rawInt 0,.none],[]⟩) (wants (fun r s₂=>r=.none/\Q (.ref s.heap.objs.size) s₂) E) {s with heap:=g3,toks:=tk3}:=by
   intro g3 tk3 St W hst hk3
   have nd:s.heap.objs.size∉[g2.objs.size,p]:=by
    intro hm
    rcases List.mem_cons.mp hm with z|z
    ·exact absurd hdlt (by rw[z];exact Nat.lt_irrefl _)
    ·rw[List.mem_singleton]at z;exact absurd hlt (by rw[←z];exact Nat.lt_irrefl _)
   refine xB (A:=A.in1) (us:=us) (rs:=rs) (h₁:=g3) (n:=us.toArray.size) (by simpa using W) (by simp) hrl (by simpa using hsz) nd ?_ ?_ us.toArray.size 0 g3 tk3 (by simp) (Nat.zero_le _) hst (hD0.at fun o e=>hk3 _ _ (hk2 _ _ e)) (fun _ _ _ _ e=>e)
   ·intro i u kv hu hkv
    obtain⟨a,ob,mm,key,e1,e2,e3,e4,e5⟩:=hpr i u kv hu hkv
    have hal:a<s.heap.objs.size:=Heap.lt_size e2
    refine⟨a,ob,mm,key,e1,hk3 _ _ (hk2 _ _ (oth _ _ e2)),e3,e4,e5,Nat.ne_of_lt hal,fun z=>?_⟩
    rw[List.mem_singleton]at z
    exact absurd (Nat.lt_trans hal hdlt) (by rw[z];exact Nat.lt_irrefl _)
   ·intro h' tk' hd' hkp
    refine⟨rfl,hQ h' tk' hd' fun b ob e=>hkp b ob (Nat.ne_of_lt (Heap.lt_size e)) (fun z=>?_) (hk3 _ _ (hk2 _ _ (oth _ _ e)))⟩
    rw[List.mem_singleton]at z
    exact absurd (Nat.lt_trans (Heap.lt_size e) hdlt) (by rw[z];exact Nat.lt_irrefl _)
  have pne:p≠g2.objs.size:=Nat.ne_of_lt (Nat.lt_trans hlt hdlt)
  rcases hTy with rfl|rfl
  ·have hl:g2.IsList p us.toArray:=⟨o,ho2,hcl,m,hdt⟩
   refine wpAny_pyIter_list (s:={s with heap:=g2,toks:=tk}) hl (wpAny_pure ⟨plainId_quiet iH _,?_⟩)
   exact loop _ tk _ (Walks.list (A:=A.in1.in1) hh _ p pne us.toArray) ⟨⟨_,Heap.get?_push_size _ rfl,rfl,rfl⟩,hl.push _⟩ fun b o e=>Heap.get?_push_of_some _ e
  ·have hl:g2.IsTuple p us.toArray:=⟨o,ho2,hcl,m,hdt⟩
   refine wpAny_pyIter_tuple (s:={s with heap:=g2,toks:=tk}) hl (wpAny_pure ⟨plainId_quiet iH _,?_⟩)
   exact loop _ tk _ (Walks.tuple (A:=A.in1.in1) hh _ p pne us.toArray) ⟨⟨_,Heap.get?_push_size _ rfl,rfl,rfl⟩,hl.push _⟩ fun b o e=>Heap.get?_push_of_some _ e
 obtain⟨ocl,odi,odt,osl⟩:=o
 obtain rfl:ocl=_:=hcl
 obtain rfl:odi=_:=hdi
 obtain rfl:odt=_:=hdt
 rcases hTy with rfl|rfl
 ·refine wpAny_bind (qu (s:={s with heap:=g}) hh (oth _ _ ho) fun g2 tk hk2=>?_)
  dsimp only
  rw[if_pos (show(none:Option Value).isNone=true from rfl)]
  exact wpAny_bind (wpAny_rule (wpAny_bind (fin g2 tk hk2)))
 ·refine wpAny_bind (ou (s:={s with heap:=g}) hh (oth _ _ ho) fun g2 tk hk2=>?_)
  dsimp only
  rw[if_pos (show(none:Option Value).isNone=true from rfl)]
  exact wpAny_bind (wpAny_rule (wpAny_bind (fin g2 tk hk2)))
end
section
variable {X:Cx}{pins:List (Addr×Obj)}{σ:St}{H:Hp}{s:Shared}
noncomputable abbrev dm(K:PySem.W.Frag)(H:Hp):List (Key×V)->List V->Prop:=Paired fun kv y=>∃a,y=.ref a/\bx K H a [kV kv.1,kv.2]
theorem vJ(I:Inv X pins σ H s):∀{kvs:List (Key×V)}{ys:List V}{its:List Value},dm X.K H kvs ys->Vals ys its ->
  ∃rs:List (Key×Value),KV kvs rs/\rs.length=its.length/\∀(i:Nat) (u:Value) (kv:Key×Value),its[i]?=some u->rs[i]?=some kv->∃a o m key,u=.ref a/\s.heap.get? a=some o/\o.cls=.type "tuple"/\o.data=.seq #[key,kv.2] m/\(cz X.prog X.w).is kv.1 key=true:=by
 intro kvs ys its h
 induction h generalizing its with
 |nil=>intro v;cases v;exact⟨[],.nil,rfl,fun i u kv h _=>by simp at h⟩
 |@cons kv y kvs ys hd r ih =>
  intro v
  cases v with
  |cons ru rv =>
   obtain⟨a,e,hq⟩:=hd
   obtain⟨rs,k1,k2,k3⟩:=ih rv
   subst e
   cases ru
   obtain⟨jts,rj,⟨o,o1,o2,m,o3⟩,_⟩:=I.tuple hq
   obtain⟨u1,u2,rfl,r1,r2⟩:=vals2 rj
   refine⟨(kv.1,u2)::rs,.cons ⟨rfl,r2⟩ k1,by simp[k2],fun i u kv' h1 h2=>?_⟩
   cases i with
   |zero =>
    simp at h1 h2
    subst h1 h2
    exact⟨a,o,m,u1,rfl,o1,o2,by simpa using o3,oW r1⟩
   |succ i=>exact k3 i u kv' (by simpa using h1) (by simpa using h2)
theorem Inv.A0(I:Inv X pins σ H s){a:Addr}{xs:List V}(h:bx X.K H a xs):∃(its:List Value) (o:Obj) (n:Nat),Vals xs its/\s.heap.get? a=some o/\o.cls=.type "tuple"/\o.dict=none/\o.data=.seq its.toArray n/\xs.length<=sizeLine:=by
 rcases h with h|⟨o,its,n,hk,hc,hs,hz,r,hd⟩
 ·obtain⟨z,its,r,⟨o,e1,e2,n,e3⟩,o2,f1,f2⟩:=h.ok I.hok
  rw[e1]at f1
  cases f1
  exact⟨its,o,n,r,e1,e2,f2,e3,z⟩
 ·refine⟨its.toList,o,n,r,I.yq a o hk,hc,hd,by simpa using hs,?_⟩
  have e:=r.length
  simp only[Array.length_toList]at e
  omega
theorem tI(hc:X.calm=true):fN X (.type "dict") (fun xs H Q=>∃p ys kvs,xs=[.ref p]/\(H p=some (.lst ys)\/bx X.K H p ys)/\dm X.K H kvs ys/\∀d,H d=none->Q (.ref d) (upd H d (.dK (eR [] kvs)))):=by
 intro pins s σ H xs us Q I r h
 obtain⟨p,ys,kvs,rfl,hp,hd,q⟩:=h
 obtain⟨u,rfl,ru⟩:=vals1 r
 cases ru
 obtain⟨its,o,T,m,rv,hTy,ho,hcl,hdi,hdt,hz⟩:∃(its:List Value) (o:Obj) (T:String) (m:Nat),Vals ys its/\(T="list"\/T="tuple")/\s.heap.get? p=some o/\o.cls=.type T/\o.dict=none/\o.data=.seq its.toArray m/\ys.length<=sizeLine:=by
  rcases hp with hp|hp
  ·obtain⟨z,its,n,rv,e⟩:=(show cW X.prog X.w H s.heap p (.lst ys)from I.hok p _ hp)
   exact⟨its,_,"list",n,rv,.inl rfl,e,rfl,rfl,rfl,z⟩
  ·obtain⟨its,o,n,rv,e1,e2,e3,e4,z⟩:=I.A0 hp
   exact⟨its,o,"tuple",n,rv,.inr rfl,e1,e2,e3,e4,z⟩
 obtain⟨rs,k1,k2,k3⟩:=vJ I hd rv
 have hl:=rv.length
 have hkl:kvs.length<=sizeLine:=by have:=KV.length k1;omega
 refine lT (knd:=cz X.prog X.w) (rs:=rs) (I.ok.hd hc) hTy ho hcl hdi hdt k2 (by omega) k3 fun h' tk hd' hk=>?_
 have hb:=I.big
 refine⟨.ref s.heap.objs.size,_,I.laid (t':=tk) hk (Nat.le_refl _) (sW (kvs:=eR [] kvs) ?_ (beq_eq_false_iff_ne.mpr (Ne.symm (Nat.ne_of_lt hb))) (KV.merge k1 .nil) hd'),rfl,q _ (I.hok.fresh (Nat.le_refl _))⟩
 have:=ir kvs []
 simp at this
 omega
end
section
variable {prog:Program}{w:World}{A:Around}{R:Result->Shared->Prop}{s:Shared}
end
section
variable {X:Cx}{pins:List (Addr×Obj)}{σ:St}{H:Hp}{s:Shared}
end
section
variable {X:Cx}
end
section
variable {g:TG}{tt:TT}{tk tv:TE}{Q:VK}{σ0:St}{H0:Hp}
end
end L2
namespace L2
open PySem
section
variable {K:PySem.W.Frag}{H:Hp}{v:V}
theorem Rp.t2{x y:T}(h:Rp K H (.t [x,y]) v):∃a u1 u2,v=.ref a/\bx K H a [u1,u2]/\Rp K H x u1/\Rp K H y u2:=by
 obtain⟨a,vs,rfl,sq,r⟩:=h.aC
 obtain⟨u,q,rfl,g,r2⟩:=r.inv
 obtain⟨u2,q2,rfl,g2,r3⟩:=r2.inv
 obtain rfl:=r3.dh
 exact⟨a,u,u2,rfl,sq,g,g2⟩
theorem Rp.t3{x y z:T}(h:Rp K H (.t [x,y,z]) v):∃a u1 u2 u3,v=.ref a/\bx K H a [u1,u2,u3]/\Rp K H x u1/\Rp K H y u2/\Rp K H z u3:=by
 obtain⟨a,vs,rfl,sq,r⟩:=h.aC
 obtain⟨u,q,rfl,g,r2⟩:=r.inv
 obtain⟨u2,q2,rfl,g2,r3⟩:=r2.inv
 obtain⟨u3,q3,rfl,g3,r4⟩:=r3.inv
 obtain rfl:=r4.dh
 exact⟨a,u,u2,u3,rfl,sq,g,g2,g3⟩
end
end L2
namespace L2
open PySem PySem.Spec PyProof.Rows
section
variable {X:Cx}
section
variable {prog:Program}{w:World}{A:Around}{E:Value->Shared->Prop}{s:Shared}
end
end
section
variable {X:Cx}
end
section
variable {X:Cx}
end
end L2
namespace L2
open PySem
theorem zk{X:Cx}(K:PySem.W.Frag)(hK:X.K=K):vY X (Dl K):=by subst hK;exact qi
theorem uB{X:Cx}(K:PySem.W.Frag)(hK:X.K=K)(hu:X.A.units+150<cLine):kJ X (compareOp .Eq) (B0 K):=by subst hK;exact tq hu
theorem xC{tt:TT}{ta tb:TS}{D:Ends}{σ:St}{H:Hp}(p:Prop)(ht:∀C:Bool->Hp->Prop,(p->C true H)->(¬p->C false H)->tt σ H C)(a:p->ta D σ H)(b:¬p->tb D σ H):u0 tt ta tb D σ H:=ht _ (fun h=>by rw[if_pos rfl];exact a h) (fun h=>by rw[if_neg Bool.false_ne_true];exact b h)
theorem qv{tt:TT}{ta tb:TS}{D:Ends}{σ:St}{H:Hp}(R:Bool->Hp->Prop)(ht:∀C:Bool->Hp->Prop,(∀b H1,R b H1->C b H1)->tt σ H C)(a:∀H1,R true H1->ta D σ H1)(b:∀H1,R false H1->tb D σ H1):u0 tt ta tb D σ H:=ht _ fun c H1 h=>by
 cases c with
 |true=>rw[if_pos rfl];exact a H1 h
 |false=>rw[if_neg Bool.false_ne_true];exact b H1 h
theorem aI.ow{H H1:Hp}{l:Addr}(s:aI H H1)(h:H l=none)(o:HO):aI H (upd H1 l o):=fun b o' e=>by rw[ay (au e h)];exact s b o' e
structure Dn(K:PySem.W.Frag) (Ps:St->Prop) (H2:Hp) (us:List V) (ys:List T) (σ:St) (H5:Hp):Prop where
 p:Ps σ
 s:aI H2 H5
 r:aO K H5 ys us
section
variable {K:PySem.W.Frag}{σ0:St}{H0:Hp}{g:TG}{tt:TT}{te:TE}{Q:VK}
theorem qw{α β:Type}{φ:α->List β}(h1:∀p,(φ p).length<=1):∀ps:List α,(ps.flatMap φ).length<=ps.length
 | []=>Nat.zero_le _
 |x::r=>by
  rw[List.flatMap_cons,List.length_append,List.length_cons]
  have:=h1 x
  have:=qw h1 r
  omega
theorem iy{α β:Type}(f:α->β):∀l:List α,(l.flatMap fun p=>[f p])=l.map f
 | []=>rfl
 |x::r=>by rw[List.flatMap_cons,iy f r];rfl
theorem dZ{α:Type}{e:α->T}{φ:α->List T}{ps:List α}{vs:List V}{a:Addr}(Ps:St->Prop)(hS:bx K H0 a vs)(hr:aO K H0 (ps.map e) vs)(hl:ps.length<=900)(h1:∀p,(φ p).length<=1)(h0:Ps σ0)
  (hs:∀p∈ps,∀x σ H2 (N:List V->St->Hp->Prop),aI H0 H2->Ps σ->Rp K H2 (e p) x->(∀us σ2 H5,Dn K Ps H2 us (φ p) σ2 H5->N us σ2 H5)->g x σ H2 fun σ2 H3=>tt σ2 H3 fun ok H4=>if ok=true then te σ2 H4 fun v H5=>N [v] σ2 H5 else N [] σ2 H4)
  (k:∀l H' ws,aI H0 H'->H0 l=none->H' l=some (.lst ws)->aO K H' (ps.flatMap φ) ws->Q (.ref l) H'):gY (vW K a) g tt te Q σ0 H0:=by
 have l:=hr.length
 rw[List.length_map]at l
 refine fB (xs:=vs) (fun i σ us H2=>Ps σ/\aI H0 H2/\aO K H2 ((ps.take i).flatMap φ) us) ⟨h0,aI.refl _,.nil⟩ ?_ (small (by omega)) ?_ ?_ ?_
 ·rintro i σ us H2 hi ⟨_,_,r⟩
  rw[r.length]
  exact Nat.le_trans (qw h1 _) (by rw[List.length_take];exact Nat.min_le_left _ _)
 ·rintro i σ us H2 hi ⟨_,s,_⟩
  exact hS.same s
 ·rintro i x σ us H2 hx ⟨p,s,r⟩
  obtain⟨y,hy,ry⟩:=hr.get' hx
  rw[List.getElem?_map]at hy
  obtain⟨q,hq,rfl⟩:=Option.map_eq_some_iff.mp hy
  have hil:i<ps.length:=(List.getElem?_eq_some_iff.mp hq).1
  have ep:ps[i]=q:=(List.getElem?_eq_some_iff.mp hq).2
  have z:=hs q (List.mem_of_getElem? hq) x σ H2 (fun ws σ2 H5=>Ps σ2/\aI H0 H5/\aO K H5 ((ps.take (i+1)).flatMap φ) (us++ws)) s p (ry.same s) fun ws σ2 H5 m=>by
   refine⟨m.p,s.trans m.s,?_⟩
   rw[List.take_succ_eq_append_getElem hil,ep,List.flatMap_append]
   exact(r.same m.s).append (by rw[List.flatMap_cons,List.flatMap_nil,List.append_nil];exact m.r)
  simp only[List.append_nil]at z
  exact z
 ·rintro σ us H2 ⟨_,s,r⟩ p hp
  rw[l,List.take_length]at r
  exact k p _ us (s.trans (ae hp _)) (s.free hp) af (r.same (ae hp _))
theorem iI{α:Type}{e:α->T}{φ:α->List T}{ps:List α}{vs:List V}{a:Addr}(Ps:St->Prop)(hS:H0 a=some (.lst vs))(hr:aO K H0 (ps.map e) vs)(hl:ps.length<=900)(h1:∀p,(φ p).length<=1)(h0:Ps σ0)
  (hs:∀p∈ps,∀x σ H2 (N:List V->St->Hp->Prop),aI H0 H2->Ps σ->Rp K H2 (e p) x->(∀us σ2 H5,Dn K Ps H2 us (φ p) σ2 H5->N us σ2 H5)->g x σ H2 fun σ2 H3=>tt σ2 H3 fun ok H4=>if ok=true then te σ2 H4 fun v H5=>N [v] σ2 H5 else N [] σ2 H4)
  (k:∀l H' ws,aI H0 H'->H0 l=none->H' l=some (.lst ws)->aO K H' (ps.flatMap φ) ws->Q (.ref l) H'):gY (zW K a) g tt te Q σ0 H0:=by
 have l:=hr.length
 rw[List.length_map]at l
 refine dX (xs:=vs) (fun i σ us H2=>Ps σ/\aI H0 H2/\aO K H2 ((ps.take i).flatMap φ) us) ⟨h0,aI.refl _,.nil⟩ ?_ (small (by omega)) ?_ ?_ ?_
 ·rintro i σ us H2 hi ⟨_,_,r⟩
  rw[r.length]
  exact Nat.le_trans (qw h1 _) (by rw[List.length_take];exact Nat.min_le_left _ _)
 ·rintro i σ us H2 hi ⟨_,s,_⟩
  exact cy.of (s _ _ hS)
 ·rintro i x σ us H2 hx ⟨p,s,r⟩
  obtain⟨y,hy,ry⟩:=hr.get' hx
  rw[List.getElem?_map]at hy
  obtain⟨q,hq,rfl⟩:=Option.map_eq_some_iff.mp hy
  have hil:i<ps.length:=(List.getElem?_eq_some_iff.mp hq).1
  have ep:ps[i]=q:=(List.getElem?_eq_some_iff.mp hq).2
  have z:=hs q (List.mem_of_getElem? hq) x σ H2 (fun ws σ2 H5=>Ps σ2/\aI H0 H5/\aO K H5 ((ps.take (i+1)).flatMap φ) (us++ws)) s p (ry.same s) fun ws σ2 H5 m=>by
   refine⟨m.p,s.trans m.s,?_⟩
   rw[List.take_succ_eq_append_getElem hil,ep,List.flatMap_append]
   exact(r.same m.s).append (by rw[List.flatMap_cons,List.flatMap_nil,List.append_nil];exact m.r)
  simp only[List.append_nil]at z
  exact z
 ·rintro σ us H2 ⟨_,s,r⟩ p hp
  rw[l,List.take_length]at r
  exact k p _ us (s.trans (ae hp _)) (s.free hp) af (r.same (ae hp _))
theorem aO.ku{H:Hp}:∀{ns:List Int}{vs:List V},aO K H (ns.map .i) vs->vs=ns.map V.int
 | [],_,h=>h.dh
 |n::r,_,h=>by
  obtain⟨v,us,rfl,g,h⟩:=aO.inv (K:=K) (x:=.i n) h
  rw[g.dB,ku h]
  rfl
theorem aO.nv{H:Hp}:∀{ns:List Str}{vs:List V},aO K H (ns.map .s) vs->vs=ns.map V.str
 | [],_,h=>h.dh
 |n::r,_,h=>by
  obtain⟨v,us,rfl,g,h⟩:=aO.inv (K:=K) (x:=.s n) h
  rw[g.aF,nv h]
  rfl
theorem aO.Ad{H:Hp}:∀ns:List Int,aO K H (ns.map .i) (ns.map V.int)
 | []=>.nil
 |n::r=>.cons .i (aO.Ad r)
end
end L2
namespace G03
open PySem L2
inductive Kk|num|kd (x:Str)|op (n:Int)|row (k:Kk)
noncomputable def dz:Kk->T
 |.num=>.s "num"
 |.kd x=>.t [.s "kind",.s x]
 |.op n=>.t [.s "open",.i n]
 |.row k=>.t [.s "row",dz k]
noncomputable def Kk.core:Kk->Kk
 |.row k=>k.core
 |k=>k
noncomputable def Kk.kY:Kk->Option Int
 |.row k=>k.kY
 |.op n=>some n
 |_=>none
noncomputable def Kk.dep:Kk->Nat
 |.row k=>k.dep+1
 |_=>0
noncomputable def Kk.ok(ns:List Str):Kk->Prop
 |.num=>True
 |.kd x=>x∈ns
 |.op _=>False
 |.row k=>k.ok ns
theorem ic:∀k:Kk,(dz k).dep<=k.dep+1
 |.num=>Bp
 |.kd x=>CD (d:=0) (AX Bp (AX Bp CC))
 |.op n=>CD (d:=0) (AX Bp (AX Dm CC))
 |.row k=>CD (d:=k.dep+1) (AX Bp (AX (ic k) CC))
theorem Kk.rO:∀k:Kk,k.core.kY=k.kY
 |.num=>rfl
 |.kd x=>rfl
 |.op n=>rfl
 |.row k=>rO k
theorem Kk.uC:∀(k j:Kk),k.core≠.row j
 |.num,_=>nofun
 |.kd x,_=>nofun
 |.op n,_=>nofun
 |.row k,j=>uC k j
noncomputable def ny(p:Str×Kk):T:=.t [.s p.1,dz p.2]
noncomputable def rP(d:Str×List (Str×Kk)×Tm):T:=.t [.s d.1,.t (d.2.1.map ny),enc d.2.2]
noncomputable def i0(kt:T)(ds:List (Str×List (Str×Kk)×Tm)):T:=.t [kt,.t (ds.map rP)]
noncomputable def eo(ps:List (Str×Kk)):List Int:=ps.filterMap fun p=>p.2.kY
noncomputable def b9(ds:List (Str×List (Str×Kk)×Tm)):List Int:=ds.flatMap fun d=>d.2.2.parts.filterMap cR
noncomputable def bh(ds:List (Str×List (Str×Kk)×Tm)):List Int:=ds.flatMap fun d=>eo d.2.1
theorem qx{α β:Type}{f:α->List β}{b:Nat}:∀{l:List α},(∀x∈l,(f x).length<=b)->(l.flatMap f).length<=l.length*b
 | [],_=>Nat.zero_le _
 |x::r,h=>by
  rw[List.flatMap_cons,List.length_append,List.length_cons,Nat.succ_mul]
  have:=h x (.head _)
  have:=qx (f:=f) (b:=b) (l:=r) (fun y hy=>h y (.tail _ hy))
  omega
noncomputable def tJ(ds:List (Str×List (Str×Kk)×Tm)):Prop:=ds.length<=8/\∀d∈ds,Wf d.2.2/\d.2.2.size<=100/\d.2.1.length<=8
theorem tJ.take{ds:List (Str×List (Str×Kk)×Tm)}(h:tJ ds)(j:Nat):tJ (ds.take j):=⟨Nat.le_trans (by rw[List.length_take];exact Nat.min_le_right _ _) h.1,fun d hd=>h.2 d (List.mem_of_mem_take hd)⟩
theorem xD{ds:List (Str×List (Str×Kk)×Tm)}(h:tJ ds):(b9 ds).length<=900:=by
 have:=qx (f:=fun d:Str×List (Str×Kk)×Tm=>d.2.2.parts.filterMap cR) (b:=100) (l:=ds) (fun d hd=>Nat.le_trans (List.length_filterMap_le _ _) (by rw[Tm.fR];exact(h.2 d hd).2.1))
 have:=h.1
 unfold b9
 omega
theorem xE{ds:List (Str×List (Str×Kk)×Tm)}(h:tJ ds):(bh ds).length<=64:=by
 have:=qx (f:=fun d:Str×List (Str×Kk)×Tm=>eo d.2.1) (b:=8) (l:=ds) (fun d hd=>Nat.le_trans (List.length_filterMap_le _ _) (h.2 d hd).2.2)
 have:=h.1
 unfold bh
 omega
theorem qy{ds:List (Str×List (Str×Kk)×Tm)}{j:Nat}{d:Str×List (Str×Kk)×Tm}(hj:j<ds.length)(e:ds[j]=d):b9 (ds.take (j+1))=b9 (ds.take j)++d.2.2.parts.filterMap cR:=by
 unfold b9
 rw[List.take_succ_eq_append_getElem hj,e,List.flatMap_append]
 simp
theorem qz{ds:List (Str×List (Str×Kk)×Tm)}{j:Nat}{d:Str×List (Str×Kk)×Tm}(hj:j<ds.length)(e:ds[j]=d):bh (ds.take (j+1))=bh (ds.take j)++eo d.2.1:=by
 unfold bh
 rw[List.take_succ_eq_append_getElem hj,e,List.flatMap_append]
 simp
structure GI(H0:Hp) (l1 l2:Addr) (a b:List Int) (H:Hp):Prop where
 s:aI H0 H
 h1:H l1=some (.lst (a.map V.int))
 h2:H l2=some (.lst (b.map V.int))
noncomputable def lH(K:PySem.W.Frag):Sp:=fun vs H Q _=>∃(v:V) (k:Kk),vs=[v]/\Rp K H (dz k) v/\∀v',Rp K H (dz k.core) v'->Q v' H
section
variable {P:Program}{w:World}{K:PySem.W.Frag}{mg:Str->Option Value}{base:Heap}{gI gG:Addr}{ifd gfd:FuncData}
theorem iR:Nm ["kind"] (ak fD):=by decide +kernel
theorem qA:Lm ["kind"] (ak fD):=by decide +kernel
theorem kA:aN ["kind"] ["kind"] (ak fD):=⟨rfl,rfl,rfl,by decide +kernel,rfl,by decide +kernel,by decide +kernel⟩
theorem qB{f:Addr}{fd:FuncData}(F:fJ K "innermost" "innermost" fD f fd):bT P w K mg base fk 1 f fd ["kind"] (lH K):=by
 refine F.ok kA (fun vs H Q E h=>?_) (fun cdv A outer s H vs Q E hr h=>?_)
 ·obtain⟨_,_,rfl,_⟩:=h
  rfl
 obtain⟨v,k0,rfl,r0,k⟩:=h
 refine⟨_,(Z5 (@qT _ _ _ _ _ _ PassesOwn.never (Zc bJ (Za qi (va iR 0)) az) (Zd (Z4 kA.nd qA 0 (Za qi (va iR 0))))) (Zd (bQ (va iR 0)))),?_⟩
 try dsimp only[bU]
 try dsimp only[bU]
 refine⟨fun m σ H1=>H1=H/\∃(v:V) (k1:Kk),σ=[some v]/\Rp K H (dz k1) v/\k1.dep=m/\k1.core=k0.core,⟨k0.dep,rfl,v,k0,rfl,r0,rfl,rfl⟩,?_⟩
 rintro m σ H1 ⟨rfl,v,k1,rfl,r1,hm,hc⟩
 have stop:∀(s:Str),s≠"row"->¬(decide (V.str s=V.str "row")=true):=fun s hs h=>by
  have e:=of_decide_eq_true h
  injection e with e
  exact hs e
 cases k1 with
 |num =>
  obtain rfl:=(show Rp K H1 (.s "num") v from r1).aF
  refine⟨_,rfl,.inr (.inr ⟨_,0,110,rfl,rfl,(by decide +kernel),(by decide +kernel),rfl,_,rfl,ck (fun c=>absurd c (stop _ (by decide +kernel))) (fun _=>?_)⟩)⟩
  fail "R"
  exact k _ (by rw[←hc];exact r1)
 |kd x =>
  obtain⟨ka,k1,k2,rfl,ksq,g1,g2⟩:=(show Rp K H1 (.t [.s "kind",.s x]) v from r1).t2
  obtain rfl:=g1.aF
  refine⟨_,rfl,.inr (.inl ⟨ka,_,0,.str "kind",rfl,rfl,ksq,rfl,rfl,_,rfl,ck (fun c=>absurd c (stop _ (by decide +kernel))) (fun _=>?_)⟩)⟩
  fail "R"
  exact k _ (by rw[←hc];exact r1)
 |op n =>
  obtain⟨ka,k1,k2,rfl,ksq,g1,g2⟩:=(show Rp K H1 (.t [.s "open",.i n]) v from r1).t2
  obtain rfl:=g1.aF
  refine⟨_,rfl,.inr (.inl ⟨ka,_,0,.str "open",rfl,rfl,ksq,rfl,rfl,_,rfl,ck (fun c=>absurd c (stop _ (by decide +kernel))) (fun _=>?_)⟩)⟩
  fail "R"
  exact k _ (by rw[←hc];exact r1)
 |row k2 =>
  obtain⟨ka,v1,v2,rfl,ksq,g1,g2⟩:=(show Rp K H1 (.t [.s "row",dz k2]) v from r1).t2
  obtain rfl:=g1.aF
  refine⟨_,rfl,.inr (.inl ⟨ka,_,0,.str "row",rfl,rfl,ksq,rfl,rfl,_,rfl,ck (fun _=>?_) (fun c=>absurd (by decide +kernel) c)⟩)⟩
  refine⟨fun σ' H'=>H'=H1/\σ'=[some v2],fun σ' H' ⟨e1,e2⟩=>⟨k2.dep,by rw[←hm];exact Nat.lt_succ_self _,e1,v2,k2,e2,g2,rfl,hc⟩,?_⟩
  exact⟨_,rfl,.inr (.inl ⟨ka,_,1,v2,rfl,rfl,ksq,rfl,rfl,rfl⟩)⟩
theorem fU:Nm ["program","kinds","defs","of_terms","of_kinds","name","params","term","cores"] (ak jR):=by decide +kernel
theorem ie:Lm ["program","kinds","defs","of_terms","of_kinds","name","params","term","cores"] (ak jR):=by decide +kernel
theorem fV:aN ["program","kinds","defs","of_terms","of_kinds","name","params","term","cores"] ["program"] (ak jR):=⟨rfl,rfl,rfl,by decide +kernel,rfl,by decide +kernel,by decide +kernel⟩
noncomputable def xF(K:PySem.W.Frag):Sp:=fun vs H Q _=>∃(v:V) (kt:T) (ds:List (Str×List (Str×Kk)×Tm)),vs=[v]/\Rp K H (i0 kt ds) v/\tJ ds /\
 ∀(p l1 l2:Addr) (H':Hp),aI H H'->H l1=none->H l2=none->l1≠l2->H' p=some (.tup [.ref l1,.ref l2])->H' l1=some (.lst ((b9 ds).map V.int))->H' l2=some (.lst ((bh ds).map V.int))->Q (.ref p) H'
theorem zl{f:Addr}{fd:FuncData}(F:fJ K "gaps" "gaps" jR f fd)(IM:bS P w K mg base "innermost" 1 ["kind"] (lH K) gI ifd)(GA:bS P w K mg base "gaps_in" 4 ["term"] (rM K) gG gfd):bT P w K mg base fk 5 f fd ["program"] (xF K):=by
 refine F.ok fV (fun vs H Q E h=>?_) (fun cdv A outer s H vs Q E hr h=>?_)
 ·obtain⟨_,_,_,rfl,_⟩:=h
  rfl
 obtain⟨v,kt,ds,rfl,r0,hds,k⟩:=h
 refine⟨_,(Z5 (@jN _ _ _ _ _ _ (va fU 0) (Ze (2) (Zj (ga fV.nd ie 1) (aR (ga fV.nd ie 2) bz))) (by rfl) (by rfl) (by rfl)) (Z5 (sa fV.nd ie 3 (bf ao)) (Z5 (sa fV.nd ie 4 (bf ao)) (Z5 (Zi (bX (va fU 2)) (Ze (3) (Zj (ga fV.nd ie 5) (Zj (ga fV.nd ie 6) (aR (ga fV.nd ie 7) bz)))) (Z5 (Zp (Z7 PySem.F.slot_list_extend PySem.F.type_list_extend eO (va fU 3) (Z1 (Z0 GA (Zb (va fU 7))) ao))) (Z5 (Zl (ak jR) ["program","kinds","defs","of_terms","of_kinds","name","params","term","cores"] ["param","kind"] [] (bX (va fU 6)) (fun _ _ _ _=>(Ze (2) (Zj (Z3 (i:=0) (show(["param","kind"]:List Str).Nodup by decide +kernel)) (aR (Z3 (i:=1) (show(["param","kind"]:List Str).Nodup by decide +kernel)) bz)))) (fun _ _ _ _=>(Z0 IM (Zb (va (show Nm ["param","kind"] _ by show _=_;kernel_rfl) 1)))) (ga fV.nd ie 8)) (Zd (Zp (Z7 PySem.F.slot_list_extend PySem.F.type_list_extend eO (va fU 4) (Z1 (@eE _ _ _ _ _ _ _ _ _ _ _ (ak jR) ["program","kinds","defs","of_terms","of_kinds","name","params","term","cores"] ["core"] [] rfl rfl rfl (by decide +kernel) (dw (va fU 8)) (fun _ _ _ _=>(Z3 (i:=0) (show(["core"]:List Str).Nodup by decide +kernel))) (fun _ _ _ _=>(@iD _ _ _ (Zc bJ (Za (zk K rfl) (va (show Nm ["core"] _ by show _=_;kernel_rfl) 0)) az))) (fun _ _ _ _=>(Za (fg K rfl) (va (show Nm ["core"] _ by show _=_;kernel_rfl) 0))) (by intro _;rfl)) ao))))))) (Zd (Zq (Zk (Z1 (va fU 3) (Zb (va fU 4)))))))))),?_⟩
 try dsimp only[bU]
 try dsimp only[bU]
 obtain⟨pa,v1,v2,rfl,psq,g1,g2⟩:=r0.t2
 obtain⟨da,dvs,rfl,dsq,rds⟩:=g2.aC
 have ld:=rds.length
 rw[List.length_map]at ld
 fail "R"
 intro l1 hl1
 have s1:=ae hl1 (.lst [])
 have h1:upd H l1 (.lst []) l1=some (.lst []):=af
 generalize upd H l1 (.lst [])=H1 at s1 h1⊢
 fail "R"
 intro l2 hl2
 have s2:=ae hl2 (.lst [])
 have n12:l1≠l2:=au h1 hl2
 have h12:=s2 _ _ h1
 have h2:upd H1 l2 (.lst []) l2=some (.lst []):=af
 have hl2':H l2=none:=s1.free hl2
 generalize upd H1 l2 (.lst [])=H2 at s2 h2 h12⊢
 have dsq2:=dsq.same (s1.trans s2)
 fail "R"
 refine fP (K:=K) (xs:=dvs) (fun j σ H3=>(∃y5 y6 y7 y8,σ=[some (.ref pa),some v1,some (.ref da),some (.ref l1),some (.ref l2),y5,y6,y7,y8])/\GI H l1 l2 (b9 (ds.take j)) (bh (ds.take j)) H3) ⟨⟨_,_,_,_,rfl⟩,⟨s1.trans s2,h12,h2⟩⟩ ?_ ?_ ?_
 ·rintro j σ H3 hj ⟨_,g⟩
  exact dsq.same g.s
 ·rintro j xv σ H3 hxv ⟨⟨_,_,_,_,rfl⟩,g⟩
  obtain⟨yv,hyv,ryv⟩:=rds.get' hxv
  rw[List.getElem?_map]at hyv
  obtain⟨d,hd1,rfl⟩:=Option.map_eq_some_iff.mp hyv
  have hjl:j<ds.length:=(List.getElem?_eq_some_iff.mp hd1).1
  have ej:ds[j]=d:=(List.getElem?_eq_some_iff.mp hd1).2
  obtain⟨ta,w1,w2,w3,rfl,tsq,q1,q2,q3⟩:=(show Rp K H3 (.t [.s d.1,.t (d.2.1.map ny),enc d.2.2]) xv from ryv.same g.s).t3
  obtain⟨qa,qvs,rfl,qsq,rqs⟩:=q2.aC
  have lq:=rqs.length
  rw[List.length_map]at lq
  obtain⟨wf,wz,wp⟩:=hds.2 d (by rw[←ej];exact List.getElem_mem hjl)
  have wz9:d.2.2.size<=900:=by omega
  have hg1:=g.h1
  have hg2:=g.h2
  fail "R"
  intro p4 H4 s4 hp4 h4
  have ht1:=xD (hds.take j)
  have ht2:=xE (hds.take j)
  have ht3:=xD (hds.take (j+1))
  have ht4:=xE (hds.take (j+1))
  rw[qy hjl ej]at ht3⊢
  rw[qz hjl ej]at ht4⊢
  have h4a:=s4 _ _ hg1
  have h4b:=s4 _ _ hg2
  have s04:=g.s.trans s4
  rw[List.length_append]at ht3 ht4
  have z3:(List.map V.int (b9 (List.take j ds))).length+(List.map V.int (List.filterMap cR d.2.2.parts)).length<=sizeLine:=small (by rw[List.length_map,List.length_map];omega)
  have s5:=s04.ow hl1 (.lst (List.map V.int (b9 (List.take j ds))++List.map V.int (List.filterMap cR d.2.2.parts)))
  have h5a:upd H4 l1 (.lst (List.map V.int (b9 (List.take j ds))++List.map V.int (List.filterMap cR d.2.2.parts))) l1=some (.lst (List.map V.int (b9 (List.take j ds))++List.map V.int (List.filterMap cR d.2.2.parts))):=af
  have h5b:upd H4 l1 (.lst (List.map V.int (b9 (List.take j ds))++List.map V.int (List.filterMap cR d.2.2.parts))) l2=some (.lst ((bh (ds.take j)).map V.int)):=by rw[ay n12.symm];exact h4b
  have k5:=Kt.lst h4a (.lst (List.map V.int (b9 (List.take j ds))++List.map V.int (List.filterMap cR d.2.2.parts)))
  have rq5:=(rqs.same s4).kt k5
  have sq5:=(qsq.same s4).kt k5
  fail "R"
  generalize upd H4 l1 (.lst (List.map V.int (b9 (List.take j ds))++List.map V.int (List.filterMap cR d.2.2.parts)))=H5 at s5 h5a h5b k5 rq5 sq5⊢
  refine dZ (e:=ny) (φ:=fun p=>[dz p.2.core]) (fun σ=>∃a b,σ=[a,b]) sq5 rq5 (by omega) (fun _=>Nat.le_refl _) ⟨_,_,rfl⟩ ?_ ?_
  ·rintro p hp x _ H6 N s6 ⟨_,_,rfl⟩ rx kN
   obtain⟨xa,x1,x2,rfl,xsq,r1,r2⟩:=(show Rp K H6 (.t [.s p.1,dz p.2]) x from rx).t2
   fail "R"
   intro v' r'
   exact kN _ _ _ ⟨⟨_,_,rfl⟩,aI.refl _,.one r'⟩
  intro l6 H6 ws6 s6 hl6 h6 r6
  have h6b:=s6 _ _ h5b
  fail "R"
  refine iI (ps:=d.2.1) (e:=fun p=>dz p.2.core) (φ:=fun p=>p.2.kY.toList.map .i) (fun σ=>∃a,σ=[a]) h6 ?_ (by omega) (fun p=>?_) ⟨_,rfl⟩ ?_ ?_
  ·rw[iy]at r6;exact r6
  ·cases p.2.kY<;>simp
  ·rintro p hp x _ H7 N s7 ⟨_,rfl⟩ rx kN
   have stop:∀(s:Str),s≠"open"->¬(decide (V.str s=V.str "open")=true):=fun s hs h=>by
    have e:=of_decide_eq_true h
    injection e with e
    exact hs e
   have hc:=Kk.rO p.2
   have hn:=Kk.uC p.2
   generalize p.2.core=c at rx hc hn
   rw[←hc]at kN
   cases c with
   |row c=>exact absurd rfl (hn c)
   |num =>
    obtain rfl:=(show Rp K H7 (.s "num") x from rx).aF
    refine⟨_,rfl,.inr (.inr ⟨_,0,110,rfl,rfl,(by decide +kernel),(by decide +kernel),rfl,_,rfl,ck (fun c=>absurd c (stop _ (by decide +kernel))) (fun _=>?_)⟩)⟩
    exact kN _ _ _ ⟨⟨_,rfl⟩,aI.refl _,.nil⟩
   |kd y =>
    obtain⟨ka,k1,k2,rfl,ksq,g1,g2⟩:=(show Rp K H7 (.t [.s "kind",.s y]) x from rx).t2
    obtain rfl:=g1.aF
    refine⟨_,rfl,.inr (.inl ⟨ka,_,0,.str "kind",rfl,rfl,ksq,rfl,rfl,_,rfl,ck (fun c=>absurd c (stop _ (by decide +kernel))) (fun _=>?_)⟩)⟩
    exact kN _ _ _ ⟨⟨_,rfl⟩,aI.refl _,.nil⟩
   |op n =>
    obtain⟨ka,k1,k2,rfl,ksq,g1,g2⟩:=(show Rp K H7 (.t [.s "open",.i n]) x from rx).t2
    obtain rfl:=g1.aF
    obtain rfl:=g2.dB
    refine⟨_,rfl,.inr (.inl ⟨ka,_,0,.str "open",rfl,rfl,ksq,rfl,rfl,_,rfl,ck (fun _=>?_) (fun c=>absurd (by decide +kernel) c)⟩)⟩
    fail "R"
    exact kN _ _ _ ⟨⟨_,rfl⟩,aI.refl _,.one .i⟩
  intro l7 H7 ws7 s7 hl7 h7 r7
  have e7:(d.2.1.flatMap fun p=>p.2.kY.toList.map .i)=(eo d.2.1).map T.i:=by
   unfold eo
   generalize d.2.1=l
   induction l with
   |nil=>rfl
   |cons p l ih=>rw[List.flatMap_cons,ih,List.filterMap_cons];cases p.2.kY<;>rfl
  rw[e7]at r7
  obtain rfl:=r7.ku
  have h7b:=s7 _ _ h6b
  have h7a:=s7 _ _ (s6 _ _ h5a)
  have z4:(List.map V.int (bh (List.take j ds))).length+(List.map V.int (eo d.2.1)).length<=sizeLine:=small (by rw[List.length_map,List.length_map];omega)
  fail "R"
  ·exact⟨((s5.trans s6).trans s7).ow hl2' _,by rw[ay n12,qy hjl ej,List.map_append];exact h7a,by rw[qz hjl ej,List.map_append];exact af⟩
 ·rintro σ H3 ⟨⟨_,_,_,_,rfl⟩,g⟩
  rw[ld,List.take_length]at g
  fail "R"
  intro p hp
  have s4:=ae hp (.tup [.ref l1,.ref l2])
  exact k p l1 l2 _ (g.s.trans s4) hl1 hl2' n12 af (s4 _ _ g.h1) (s4 _ _ g.h2)
end
noncomputable def Un(xs:List Str):Prop:=∀(i j:Nat) (x:Str),xs[i]?=some x->xs[j]?=some x->i=j
noncomputable def lets:List Nat:=(Str.ofString "abcdefghijklmnopqrstuvwxyz").cps.toList
theorem zm:∀i<26,∀j<26,lets[i]?=lets[j]?->i=j:=by decide +kernel
theorem xG:lets.length=26:=by decide +kernel
noncomputable def nY(pre:List Nat)(d:Int)(i:Nat)(x:Str):Prop:=∃c r,jC lets ((d+7*(i:Int)) % 26)=some c/\x.cps.toList=pre++c::r
theorem nY.un{pre:List Nat}{d:Int}{i j:Nat}{x:Str}(hi:i<26)(hj:j<26)(a:nY pre d i x)(b:nY pre d j x):i=j:=by
 obtain⟨c,r,h1,h2⟩:=a
 obtain⟨c',r',h3,h4⟩:=b
 rw[h2]at h4
 have e:=List.append_cancel_left h4
 injection e with e _
 subst e
 have f:∀n:Int,0<=n->n<26->jC lets n=lets[n.toNat]?:=fun n h0 h=>by
  have hk:n.toNat<lets.length:=by rw[xG];omega
  have ek:n=((n.toNat:Nat):Int):=by omega
  have q:jC lets ((n.toNat:Nat):Int)=some lets[n.toNat]:=cF (List.getElem?_eq_getElem hk)
  rw[←ek]at q
  rw[q,List.getElem?_eq_getElem hk]
 rw[f _ (by omega) (by omega)]at h1 h3
 have:=zm _ (by omega) _ (by omega) (h1.trans h3.symm)
 omega
theorem nY.snoc{pre:List Nat}{d:Int}{i:Nat}{x:Str}(a:nY pre d i x)(y:Str):nY pre d i (x++y):=by
 obtain⟨c,r,h1,h2⟩:=a
 refine⟨c,r++y.cps.toList,h1,?_⟩
 show(x.cps++y.cps).toList=_
 rw[Array.toList_append,h2]
 simp
theorem nY.DA{pre:List Nat}{d:Int}{xs:List Str}(hl:xs.length<=26)(h:∀j x,xs[j]?=some x->nY pre d j x):Un xs:=fun i j x ei ej=>by
 have:=(List.getElem?_eq_some_iff.mp ei).1
 have:=(List.getElem?_eq_some_iff.mp ej).1
 exact nY.un (by omega) (by omega) (h i x ei) (h j x ej)
theorem nY.last{pre:List Nat}{d:Int}{xs:List Str}{x2 x1 y:Str}(hl:(xs++[x2,x1]).length<=26)(hy:0<y.length)(h:∀j x,(xs++[x2,x1])[j]?=some x->nY pre d j x):Un (xs++[x2,x2++y]):=by
 have hl':xs.length+2<=26:=by simpa using hl
 have e2:nY pre d xs.length x2:=h xs.length x2 (by simp)
 have e3:nY pre d xs.length (x2++y):=e2.snoc y
 have ne:x2++y≠x2:=fun z=>by
  have:=congrArg Str.length z
  rw[strLen_append]at this
  omega
 have old:∀j x,j<xs.length+1->(xs++[x2,x2++y])[j]?=some x->nY pre d j x:=fun j x hj e=>by
  refine h j x ?_
  by_cases c:j<xs.length
  ·rw[List.getElem?_append_left c]at e⊢;exact e
  ·have:j=xs.length:=by omega
   subst this
   simp at e⊢
   exact e
 intro i j x ei ej
 have li:=(List.getElem?_eq_some_iff.mp ei).1
 have lj:=(List.getElem?_eq_some_iff.mp ej).1
 have ll:(xs++[x2,x2++y]).length=xs.length+2:=by simp
 rw[ll]at li lj
 have lst:∀k x,k=xs.length+1->(xs++[x2,x2++y])[k]?=some x->x=x2++y:=fun k x hk e=>by
  subst hk
  rw[List.getElem?_append_right (by omega)]at e
  simp at e
  exact e.symm
 by_cases ci:i<xs.length+1
 ·by_cases cj:j<xs.length+1
  ·exact nY.un (by omega) (by omega) (old i x ci ei) (old j x cj ej)
  ·have hx:=lst j x (by omega) ej
   subst hx
   have:=nY.un (by omega) (by omega) (old i _ ci ei) e3
   subst this
   exact absurd (by simpa using ei) ne.symm
 ·by_cases cj:j<xs.length+1
  ·have hx:=lst i x (by omega) ei
   subst hx
   have:=nY.un (by omega) (by omega) (old j _ cj ej) e3
   subst this
   exact absurd (by simpa using ej) ne.symm
  ·omega
noncomputable def Lo(x:Str):Prop:=∀c∈x.cps.toList,c<1000
theorem Lo.append{x y:Str}(a:Lo x)(b:Lo y):Lo (x++y):=fun c h=>by
 have h':c∈(x.cps++y.cps).toList:=h
 rw[Array.toList_append]at h'
 rcases List.mem_append.mp h' with h|h
 ·exact a c h
 ·exact b c h
theorem Lo.slice{x:Str}(a:Lo x)(l u:Option Int):Lo (Txt.slice x l u):=fun c h=>by
 unfold Txt.slice at h
 split at h
 ·exact a c h
 ·rw[List.toList_toArray]at h
  obtain⟨i,_,e⟩:=List.mem_filterMap.mp h
  refine a c ?_
  rw[Array.mem_toList_iff]
  exact Array.mem_of_getElem? e
theorem uD:∀c∈lets,c<1000:=by decide +kernel
theorem Lo.one{c:Nat}(h:c∈lets):Lo ⟨#[c]⟩:=fun d hd=>by
 have:d=c:=by simpa using hd
 rw[this]
 exact uD c h
theorem Lo.q(b:Bool):Lo (Txt.mul "q" (if b then 1 else 0)):=by
 have h:∀b:Bool,((Txt.mul "q" (if b then 1 else 0)).cps.toList.all (· < 1000))=true:=by decide +kernel
 intro c hc
 have:=List.all_eq_true.mp (h b) c hc
 simpa using this
theorem Lo.q1:Lo (Str.ofString "q"):=by
 have h:((Str.ofString "q").cps.toList.all (· < 1000))=true:=by decide +kernel
 intro c hc
 have:=List.all_eq_true.mp h c hc
 simpa using this
noncomputable def uE:Sp:=fun vs H Q _=>∃(f:Addr) (m:Nat),vs=[.ref f,.int m]/\1<=m/\m<=26/\cH H f /\
 ∀(r:Addr) (H':Hp) (xs:List Str),Ext f H H'->H r=none->H' r=some (.lst (xs.map V.str))->xs.length=m->(∀x∈xs,x.length<=20/\Lo x)->Un xs->Q (.ref r) H'
theorem Ext.free{f:Addr}{H H':Hp}(e:Ext f H H'){l:Addr}(h:H' l=none):H l=none:=by
 cases q:H l with
 |none=>rfl
 |some o =>
  by_cases n:l=f
  ·subst n;obtain⟨a,b,z⟩:=e.2;rw[h]at z;cases z
  ·rw[e.1 l o n q]at h;cases h
theorem nA(x:Str):∀xs:List Str,BS (.str x) (xs.map V.str)=decide (x∈xs)
 | []=>rfl
 |y::r=>by
  have ih:=nA x r
  unfold BS at ih⊢
  rw[List.map_cons,List.any_cons,ih]
  by_cases h:y=x
  ·subst h;simp[yt]
  ·have h2:¬x=y:=fun z=>h z.symm
   by_cases h3:x∈r<;>simp[yt,h,h2,h3]
theorem jF:∀xs:List Str,(xs.map V.str).all jH=true
 | []=>rfl
 |y::r=>by rw[List.map_cons,List.all_cons,jF r];rfl
end G03
namespace L2
open PySem
structure cP(M:List Addr) (f:Addr) (H H':Hp):Prop where
 oth:∀b o,b∉M->b≠f->H b=some o->H' b=some o
 kt:Kt H H'
 ff:cH H' f
section
variable {M:List Addr}{f:Addr}{H H1 H2:Hp}
theorem cP.refl(hf:cH H f):cP M f H H:=⟨fun _ _ _ _ e=>e,Kt.refl,hf⟩
theorem cP.ext(a:cP M f H H1)(e:Ext f H1 H2):cP M f H H2:=⟨fun b o n1 n2 h=>e.1 b o n2 (a.oth b o n1 n2 h),a.kt.trans (e.kt a.ff),e.2⟩
theorem cP.same(a:cP M f H H1)(e:aI H1 H2):cP M f H H2:=⟨fun b o n1 n2 h=>e b o (a.oth b o n1 n2 h),a.kt.trans (Kt.same e),let⟨p,q,h⟩:=a.ff;⟨p,q,e _ _ h⟩⟩
theorem cP.trans(a:cP M f H H1)(b:cP M f H1 H2):cP M f H H2:=⟨fun c o n1 n2 h=>b.oth c o n1 n2 (a.oth c o n1 n2 h),a.kt.trans b.kt,b.ff⟩
theorem cP.upd{l:Addr}{us:List V}{o:HO}(a:cP M f H H1)(hm:l∈M)(n:l≠f)(h:H1 l=some (.lst us)):cP M f H (upd H1 l o):=⟨fun b o' n1 n2 e=>by have z:b≠l:=(fun z=>n1 (by rw[z];exact hm));rw[ay z];exact a.oth b o' n1 n2 e,a.kt.trans (Kt.lst h o),let⟨p,q,e⟩:=a.ff;⟨p,q,by rw[ay n.symm];exact e⟩⟩
theorem cP.xH{l:Addr}{us:List (Key×V)}{o:HO}(a:cP M f H H1)(hm:l∈M)(n:l≠f)(h:H1 l=some (.dK us)):cP M f H (L2.upd H1 l o):=⟨fun b o' n1 n2 e=>by have z:b≠l:=(fun z=>n1 (by rw[z];exact hm));rw[ay z];exact a.oth b o' n1 n2 e,a.kt.trans (Kt.upd h (fun _ z=>nomatch z) (fun _ _ z=>nomatch z) o),let⟨p,q,e⟩:=a.ff;⟨p,q,by rw[ay n.symm];exact e⟩⟩
theorem cP.Cj{l:Addr}{us:List V}{o:HO}(a:cP M f H H1)(hn:H l=none)(n:l≠f)(h:H1 l=some (.lst us)):cP M f H (L2.upd H1 l o):=⟨fun b o' n1 n2 e=>by rw[ay (au e hn)];exact a.oth b o' n1 n2 e,a.kt.trans (Kt.lst h o),let⟨p,q,e⟩:=a.ff;⟨p,q,by rw[ay n.symm];exact e⟩⟩
theorem cP.drop{l:Addr}(a:cP (l::M) f H H1)(hn:H l=none):cP M f H H1:=⟨fun b o n1 n2 h=>a.oth b o (fun z=>(List.mem_cons.mp z).elim (fun z=>by subst z;rw[hn]at h;cases h) n1) n2 h,a.kt,a.ff⟩
theorem cP.more{l:Addr}(a:cP M f H H1):cP (l::M) f H H1:=⟨fun b o n1 n2 h=>a.oth b o (fun z=>n1 (.tail _ z)) n2 h,a.kt,a.ff⟩
theorem cP.sub{M':List Addr}(a:cP M f H H1)(h:∀z∈M,z∈M'):cP M' f H H1:=⟨fun b o n1 n2 e=>a.oth b o (fun z=>n1 (h b z)) n2 e,a.kt,a.ff⟩
theorem cP.ex(a:cP [] f H H1):Ext f H H1:=⟨fun b o n h=>a.oth b o (fun z=>nomatch z) n h,a.ff⟩
theorem Ext.Ae(hf:cH H f)(e:Ext f H H1):cP M f H H1:=(cP.refl hf).ext e
theorem cP.nB(a:cP [] f H H1){b:Addr}{o:HO}(n:b≠f)(h:H b=some o):H1 b=some o:=a.oth b o (fun z=>nomatch z) n h
theorem cP.gy{l:Addr}(a:cP [l] f H H1){b:Addr}{o:HO}(n1:b≠l)(n:b≠f)(h:H b=some o):H1 b=some o:=a.oth b o (fun z=>n1 (List.mem_singleton.mp z)) n h
theorem cP.gJ{l m:Addr}(a:cP [l,m] f H H1){b:Addr}{o:HO}(n1:b≠l)(n2:b≠m)(n:b≠f)(h:H b=some o):H1 b=some o:=a.oth b o (fun z=>(List.mem_cons.mp z).elim n1 fun z=>n2 (List.mem_singleton.mp z)) n h
theorem cP.free(a:cP M f H H1){p:Addr}(hp:H1 p=none)(hm:p∉M):H p=none:=by
 cases e:H p with
 |none=>rfl
 |some o =>
  by_cases c:p=f
  ·subst c;obtain⟨x,y,z⟩:=a.ff;rw[z]at hp;cases hp
  ·rw[a.oth p o hm c e]at hp;cases hp
end
theorem iJ(xs:List V)(n:Nat):cB xs none (some (n:Int))=xs.take n:=by
 unfold cB
 rw[HT.jB,HT.mS,List.drop_zero,Nat.sub_zero]
 rcases Nat.le_total n xs.length with h|h
 ·rw[Nat.min_eq_left h]
 ·rw[Nat.min_eq_right h,List.take_of_length_le (Nat.le_refl _),List.take_of_length_le h]
theorem pK(xs:List V)(j:Nat):cB xs (some (j:Int)) none=xs.drop j:=by
 unfold cB
 rw[HT.jB,HT.mS]
 rcases Nat.le_total j xs.length with h|h
 ·rw[Nat.min_eq_left h,List.take_of_length_le (by rw[List.length_drop];omega)]
 ·rw[Nat.min_eq_right h,List.drop_of_length_le h,List.drop_of_length_le (Nat.le_refl _)];simp
theorem kB(xs:List V)(a b:Nat)(h:b<=xs.length)(hab:a<=b):cB xs (some (a:Int)) (some (b:Int))=(xs.drop a).take (b-a):=by
 unfold cB
 rw[HT.jB,HT.jB,Nat.min_eq_left h,Nat.min_eq_left (by omega)]
end L2
namespace G03
open PySem L2
theorem mq{f:Addr}{H:Hp}{xs:List Str}{l:Addr}(hf:cH H f)(h:H l=some (.lst (xs.map V.str))):l≠f:=fun z=>by
 obtain⟨p,q,e⟩:=hf
 rw[←z,h]at e
 injection e with e
 injection e with e
 cases xs with
 |nil=>cases e
 |cons y ys=>rw[List.map_cons]at e;injection e with e;cases e
theorem aY{f:Addr}{H:Hp}{l:Addr}(hf:cH H f)(h:H l=none):l≠f:=fun z=>by
 obtain⟨p,q,e⟩:=hf
 rw[←z,h]at e
 cases e
noncomputable def ee(K:PySem.W.Frag)(n:Nat):Sp:=fun vs H Q _=>∃(f l:Addr) (d:Int) (xs:List Str),vs=[.ref f,.ref l,.int d]/\cH H f/\H l=some (.lst (xs.map V.str))/\xs.length<=100/\0<=d/\d<n /\
 ∀(v:V) (H':Hp) (k:Kk),Ext f H H'->Rp K H' (dz k) v->k.ok xs->k.dep<=d.toNat->Q v H'
section
variable {P:Program}{w:World}{K:PySem.W.Frag}{mg:Str->Option Value}{base:Heap}{gT gA:Addr}{tfd afd:FuncData}
theorem bH:Nm ["_law_feed_here","_law_known","_law_down","_law_form"] (ak dI):=by decide +kernel
theorem oz:Lm ["_law_feed_here","_law_known","_law_down","_law_form"] (ak dI):=by decide +kernel
theorem jL:aN ["_law_feed_here","_law_known","_law_down","_law_form"] ["_law_feed_here","_law_known","_law_down"] (ak dI):=⟨rfl,rfl,rfl,by decide +kernel,rfl,by decide +kernel,by decide +kernel⟩
theorem rQ{f:Addr}{fd:FuncData}{n j:Nat}(hj:1<=j)(F:fJ K "_law_any_kind" "_law_any_kind" dI f fd)(TK:bS P w K mg base "_law_take" 1 ["_law_feed_here","_law_many"] dD gT tfd)(AK:bS P w K mg base "_law_any_kind" j ["_law_feed_here","_law_known","_law_down"] (ee K n) gA afd)(z_len:mg "len"=none):bT P w K mg base fk (j+1) f fd ["_law_feed_here","_law_known","_law_down"] (ee K (n+1)):=by
 refine F.ok jL (fun vs H Q E h=>?_) (fun cdv A outer s H vs Q E hr h=>?_)
 ·obtain⟨_,_,_,_,rfl,_⟩:=h
  rfl
 obtain⟨fe,l,d,xs,rfl,hf,hl,hx,hd0,hd,k⟩:=h
 refine⟨_,(Z5 (Z4 jL.nd oz 3 (Z0 TK (cV (va bH 0) (Zb aj)))) (Z5 (Zf (PW.pt (@bW _ _ _ _ _ _ _ (aM bJ (va bH 3) aj (bF _)) (@cE _ _ _ _ (aM iX (va bH 2) aj (bF _))))) (Zd (Zq (Zk (Z1 az (Z1 (Z0 AK (Z1 (va bH 0) (Z1 (va bH 1) (Z1 (aJ bu (va bH 2) aj) ao)))) ao)))))) (Z5 (Zf (PW.pt (@bW _ _ _ _ _ _ _ (aM iX (va bH 3) aj (bF _)) (@cE _ _ _ _ (Zc iX (Z2 aB z_len PySem.boot_len (Zb (va bH 1))) aj)))) (Zd (Zq (Zk (Z1 az (Z1 (Zm bg (va bH 1) (Z0 TK (Z1 (va bH 0) (Z1 (Z2 aB z_len PySem.boot_len (Zb (va bH 1))) ao)))) ao)))))) (bR (bQ az))))),?_⟩
 try dsimp only[bU]
 try dsimp only[bU]
 refine kj ?_
 intro N1 N2 N3 c1 c2 c3
 fail "R"
 intro fm H1 fm0 fm1 x1
 have hl1:=x1.1 _ _ (mq hf hl) hl
 have hf1:=x1.2
 have rest2:N3 [some (.ref fe),some (.ref l),some (.int d),some (.int fm)] H1:=by
  fail "R"
  exact k _ _ .num x1 .s True.intro (Nat.zero_le _)
 have rest:N2 [some (.ref fe),some (.ref l),some (.int d),some (.int fm)] H1:=by
  clear c3
  fail "R"
  refine ck (fun c=>?_) (fun c=>?_)
  ·fail "R"
   refine ck (fun c2=>?_) (fun c2=>?_)
   ·have c2':(0:Int)<((xs.map V.str).length:Int):=of_decide_eq_true c2
    have ll2:((xs.map V.str).length:Int)<1073741824:=by rw[List.length_map];omega
    fail "R"
    intro r5 H5 r50 r51 x5
    have h5:=x5.1 _ _ (mq hf1 hl1) hl1
    obtain⟨v5,hv5,hm5⟩:=iQ (xs:=xs.map V.str) r50 r51
    obtain⟨y5,hy5,rfl⟩:=List.mem_map.mp hm5
    fail "R"
    intro p6 hp6
    have s6:=ae hp6 (.tup [.str "kind",.str y5])
    exact k _ _ (.kd y5) (x1.trans (x5.same s6)) (Rp.t (bx.of af) (.cons .s (.one .s))) hy5 (Nat.zero_le _)
   ·fail "R"
    exact rest2
  ·fail "R"
   exact rest2
 clear c3 c2
 fail "R"
 refine ck (fun c=>?_) (fun c=>?_)
 ·fail "R"
  refine ck (fun c2=>?_) (fun c2=>?_)
  ·have c3:(0:Int)<d:=of_decide_eq_true c2
   fail "R"
   intro v3 H3 k3 x3 r3 o3 d3
   fail "R"
   intro p6 hp6
   have s6:=ae hp6 (.tup [.str "row",v3])
   exact k _ _ (.row k3) (x1.trans (x3.same s6)) (Rp.new (K:=K) hp6 (.cons .s (.one r3))) o3 (by show k3.dep+1<=_;omega)
  ·fail "R"
   exact rest
 ·fail "R"
  exact rest
end
noncomputable def kD(t:Str×List Kk):T:=.t [.s t.1,.t (t.2.map dz)]
noncomputable def zp(k:Str×List (Str×List Kk)):T:=.t [.s k.1,.t (k.2.map kD)]
noncomputable def qC(kl:List (Str×List (Str×List Kk))):T:=.t (kl.map zp)
noncomputable def qD(kl:List (Str×List (Str×List Kk))):List Str:=kl.flatMap fun k=>k.2.map (·.1)
noncomputable def Ck(xs:List Str)(t:Str×List Kk):Prop:=t.2.length<=2/\∀c∈t.2,c.ok xs/\c.dep<=2
structure xJ(xs ts:List Str) (kl:List (Str×List (Str×List Kk))):Prop where
 nm:kl.map (·.1)=xs.take kl.length
 tg:qD kl=ts.take (qD kl).length
 pt:∀i k,kl[i]?=some k->1<=k.2.length/\k.2.length<=3/\∀t∈k.2,Ck (xs.take i) t
noncomputable def uF(K:PySem.W.Frag):Sp:=fun vs H Q _=>∃(f ln lt:Addr) (xs ts:List Str),vs=[.ref f,.ref ln,.ref lt]/\cH H f/\H ln=some (.lst (xs.map V.str))/\H lt=some (.lst (ts.map V.str))/\xs.length=3/\ts.length=9 /\
 ∀(v:V) (H':Hp) (kl:List (Str×List (Str×List Kk))),Ext f H H'->xJ xs ts kl->kl.length<=3->Rp K H' (qC kl) v->Q v H'
structure KO(K:PySem.W.Frag) (f lf:Addr) (xs ts:List Str) (H:Hp) (i:Nat) (at_:Int) (H':Hp):Prop where
 x:∃(kl:List (Str×List (Str×List Kk))) (vs:List V),cP [] f H H'/\H' lf=some (.lst vs)/\aO K H' (kl.map zp) vs/\kl.length=i/\xJ xs ts kl/\at_=(qD kl).length/\(qD kl).length<=3*i
structure KJ(K:PySem.W.Frag) (f lo:Addr) (xs ts:List Str) (H:Hp) (i vF j:Nat) (at_:Int) (H':Hp):Prop where
 x:∃(own:List (Str×List Kk)) (us:List V),cP [lo] f H H'/\H' lo=some (.lst us)/\aO K H' (own.map kD) us/\own.length=j/\own.map (·.1)=(ts.drop vF).take j/\(∀t∈own,Ck (xs.take i) t)/\at_=vF+j
structure KP(K:PySem.W.Frag) (f:Addr) (xs:List Str) (H:Hp) (i:Nat) (us:List V) (H':Hp):Prop where
 x:∃(ps:List Kk),cP [] f H H'/\aO K H' (ps.map dz) us/\ps.length=i/\∀c∈ps,c.ok xs/\c.dep<=2
section
variable {P:Program}{w:World}{K:PySem.W.Frag}{mg:Str->Option Value}{base:Heap}{gT gA:Addr}{tfd afd:FuncData}
theorem bZ:Nm ["_law_feed_here","_law_names_here","_law_tags","_law_found","_law_at","_law_k","_law_own","_law_j","_law_parts_here"] (ak gb):=by decide +kernel
theorem dU:Lm ["_law_feed_here","_law_names_here","_law_tags","_law_found","_law_at","_law_k","_law_own","_law_j","_law_parts_here"] (ak gb):=by decide +kernel
theorem dF:aN ["_law_feed_here","_law_names_here","_law_tags","_law_found","_law_at","_law_k","_law_own","_law_j","_law_parts_here"] ["_law_feed_here","_law_names_here","_law_tags"] (ak gb):=⟨rfl,rfl,rfl,by decide +kernel,rfl,by decide +kernel,by decide +kernel⟩
theorem xK{f:Addr}{fd:FuncData}{j:Nat}(hj:1<=j)(F:fJ K "_law_kinds" "_law_kinds" gb f fd)(TK:bS P w K mg base "_law_take" 1 ["_law_feed_here","_law_many"] dD gT tfd)(AK:bS P w K mg base "_law_any_kind" j ["_law_feed_here","_law_known","_law_down"] (ee K 3) gA afd)(z_range:mg "range"=none)(z_tuple:mg "tuple"=none):bT P w K mg base fk (j+1) f fd ["_law_feed_here","_law_names_here","_law_tags"] (uF K):=by
 refine F.ok dF (fun vs H Q E h=>?_) (fun cdv A outer s H vs Q E hr h=>?_)
 ·obtain⟨_,_,_,_,_,rfl,_⟩:=h
  rfl
 obtain⟨fe,ln,lt,xs,ts,rfl,hf,hn,ht,hx,ht9,k⟩:=h
 refine⟨_,(Z5 (sa dF.nd dU 3 (bf ao)) (Z5 (sa dF.nd dU 4 aj) (Z5 (Zi (Zo (Z1 (Z0 TK (cV (va bZ 0) (Zb aj))) ao)) (ga dF.nd dU 5) (Z5 (sa dF.nd dU 6 (bf ao)) (Z5 (Zi (Zo (Z1 (Zn cJ aj (Z0 TK (cV (va bZ 0) (Zb aj)))) ao)) (ga dF.nd dU 7) (Z5 (Zl (ak gb) ["_law_feed_here","_law_names_here","_law_tags","_law_found","_law_at","_law_k","_law_own","_law_j","_law_parts_here"] ["_law_i"] [0,1,5] (Zo (Z1 (Z0 TK (cV (va bZ 0) (Zb aj))) ao)) (fun _ _ _ _=>(Z3 (i:=0) (show(["_law_i","_law_feed_here","_law_names_here","_law_k"]:List Str).Nodup by decide +kernel))) (fun _ _ _ _=>(Z0 AK (Z1 (va (show Nm ["_law_i","_law_feed_here","_law_names_here","_law_k"] _ by show _=_;kernel_rfl) 1) (Z1 (@cO _ _ _ _ _ _ _ _ _ _ (wY K rfl) (va (show Nm ["_law_i","_law_feed_here","_law_names_here","_law_k"] _ by show _=_;kernel_rfl) 2) dH (cf (va (show Nm ["_law_i","_law_feed_here","_law_names_here","_law_k"] _ by show _=_;kernel_rfl) 3))) (Zb aj))))) (ga dF.nd dU 8)) (Z5 (Zp (Z7 PySem.F.slot_list_append PySem.F.type_list_append bG (va bZ 6) (Z1 (Zk (Z1 (gm bg (va bZ 2) (va bZ 4) (fun _ _=>rfl)) (Z1 (Z6 aL z_tuple PyProof.Rows.boot_tuple (Zb (va bZ 8))) ao))) ao))) (Zd (Z4 dF.nd dU 4 (aJ cJ (va bZ 4) aj)))))) (Zd (Zp (Z7 PySem.F.slot_list_append PySem.F.type_list_append bG (va bZ 3) (Z1 (Zk (Z1 (gm bg (va bZ 1) (va bZ 5) (fun _ _=>rfl)) (Z1 (Z6 aL z_tuple PyProof.Rows.boot_tuple (Zb (va bZ 6))) ao))) ao))))))) (Zd (Zq (Z6 aL z_tuple PyProof.Rows.boot_tuple (Zb (va bZ 3)))))))),?_⟩
 try dsimp only[bU]
 try dsimp only[bU]
 fail "R"
 intro lf hlf
 have s1:=ae hlf (.lst [])
 have h1:upd H lf (.lst []) lf=some (.lst []):=af
 generalize upd H lf (.lst [])=H1 at s1 h1⊢
 have f1:cP [] fe H H1:=(cP.refl hf).same s1
 have hf1:=f1.ff
 fail "R"
 intro m H2 m0 m1 x2
 have f2:=f1.ext x2
 have h2:=x2.1 _ _ (aY hf hlf) h1
 have nlf:=aY hf hlf
 have nln:=mq hf hn
 have nlt:=mq hf ht
 fail "R"
 refine iz (n:=m.toNat) (fun i σ H3=>(∃(at_:Int) (y5 y6 y7 y8:Option V),σ=[some (.ref fe),some (.ref ln),some (.ref lt),some (.ref lf),some (.int at_),y5,y6,y7,y8]/\KO K fe lf xs ts H i at_ H3)) ⟨0,_,_,_,_,rfl,⟨[],[],f2,h2,.nil,rfl,⟨rfl,rfl,fun i k h=>by cases h⟩,rfl,Nat.zero_le _⟩⟩ ?_ ?_
 ·rintro i σ H3 hi ⟨at_,_,_,_,_,rfl,⟨kl,vs,f3,h3,r3,lk,ok,ha,ha3⟩⟩
  have hf3:=f3.ff
  fail "R"
  intro lo hlo
  have s4:=ae hlo (.lst [])
  have h4:upd H3 lo (.lst []) lo=some (.lst []):=af
  generalize upd H3 lo (.lst [])=H4 at s4 h4⊢
  have f4:=f3.same s4
  have hf4:=f4.ff
  fail "R"
  intro m5 H5 m50 m51 x5
  have f5:=f4.ext x5
  have nlo:=aY hf3 hlo
  have nlolf:lf≠lo:=au h3 hlo
  have h5:=x5.1 _ _ nlo h4
  have h5f:=x5.1 _ _ nlf (s4 _ _ h3)
  have r5:=(r3.same s4).kt (x5.kt hf4)
  fail "R"
  refine iz (n:=(1+m5).toNat) (fun j σ H6=>(∃(at_:Int) (y7 y8:Option V),σ=[some (.ref fe),some (.ref ln),some (.ref lt),some (.ref lf),some (.int at_),some (.int (0+(i:Int))),some (.ref lo),y7,y8]/\KJ K fe lo xs ts H5 i (qD kl).length j at_ H6)) ⟨at_,_,_,rfl,⟨[],[],cP.refl f5.ff,h5,.nil,rfl,rfl,fun t h=>(nomatch h),by omega⟩⟩ ?_ ?_
  ·rintro j σ H6 hj ⟨at2,_,_,rfl,⟨own,us,f6,h6,r6,lo6,on6,ok6,ha6⟩⟩
   have hf6:=f6.ff
   fail "R"
   intro m7 H7 m70 m71 x7
   have f7:=f6.ext x7
   fail "R"
   refine gn (n:=m7.toNat) (fun i7 σ us H8=>(∃y,σ=[y,some (.ref fe),some (.ref ln),some (.int (0+(i:Int)))])/\KP K fe (xs.take i) H7 i7 us H8) ⟨⟨_,rfl⟩,⟨[],cP.refl x7.2,.nil,rfl,fun c h=>by cases h⟩⟩ ?_ (small (by omega)) ?_ ?_
   ·rintro i7 σ us H8 h ⟨_,⟨ps,_,r,e,_⟩⟩
    rw[r.length,List.length_map,e];exact Nat.le_refl _
   ·rintro i7 σ us7 H8 hi7 ⟨⟨_,rfl⟩,⟨ps,f8,r8,l8,o8⟩⟩
    have hn8:H8 ln=some (.lst (xs.map V.str)):=f8.nB nln (f7.gy (au (f3.nB nln hn) hlo) nln (x5.1 _ _ nln (s4 _ _ (f3.nB nln hn))))
    have hf8:=f8.ff
    have e0:cB (xs.map V.str) none (some (0+(i:Int)))=(xs.take i).map V.str:=by rw[Int.zero_add,iJ,List.map_take]
    fail "R"
    intro l9 hl9
    rw[e0]
    have s9:=ae hl9 (.lst ((xs.take i).map V.str))
    have h9:upd H8 l9 (.lst ((xs.take i).map V.str)) l9=some (.lst ((xs.take i).map V.str)):=af
    generalize upd H8 l9 (.lst ((xs.take i).map V.str))=H9 at s9 h9⊢
    have f9:=f8.same s9
    have hf9:=f9.ff
    have lx9:(xs.take i).length<=100:=by rw[List.length_take];omega
    fail "R"
    intro v10 H10 k10 x10 r10 o10 d10
    fail "R"
    exact⟨ps++[k10],f9.ext x10,by rw[List.map_append];exact((r8.same s9).kt (x10.kt hf9)).snoc r10,by rw[List.length_append,l8];rfl,fun c hc=>(List.mem_append.mp hc).elim (o8 c) (fun h=>by rw[List.mem_singleton.mp h];exact⟨o10,d10⟩)⟩
   ·rintro σ us7 H8 ⟨⟨_,rfl⟩,⟨ps,f8,r8,l8,o8⟩⟩ p9 hp9
    have s9:=ae hp9 (.lst us7)
    have h9:upd H8 p9 (.lst us7) p9=some (.lst us7):=af
    have r9:=r8.same s9
    generalize upd H8 p9 (.lst us7)=H9 at s9 h9 r9⊢
    have f9:=f8.same s9
    have nlo9:H9 lo=some (.lst us):=f9.nB nlo (x7.1 _ _ nlo h6)
    have lus:us.length<sizeLine:=aZ (by rw[r6.length,List.length_map];omega)
    have ht9':H9 lt=some (.lst (ts.map V.str)):=f9.nB nlt (f7.gy (au (f3.nB nlt ht) hlo) nlt (x5.1 _ _ nlt (s4 _ _ (f3.nB nlt ht))))
    have hat:at2.toNat<ts.length:=by omega
    have hat2:jC (ts.map V.str) at2=some (.str ts[at2.toNat]):=by
     have:=cF (xs:=ts.map V.str) (j:=at2.toNat) (v:=.str ts[at2.toNat]) (by rw[List.getElem?_map,List.getElem?_eq_getElem hat];rfl)
     rw[show((at2.toNat:Nat):Int)=at2 by omega]at this
     exact this
    fail "R"
    refine .inl ⟨cy.of h9,fun p10 hp10=>?_⟩
    have s10:=ae hp10 (.tup us7)
    have r10:=Rp.new (K:=K) hp10 r9
    have n10:=s10 _ _ nlo9
    generalize upd H9 p10 (.tup us7)=H10 at s10 r10 n10⊢
    fail "R"
    intro p11 hp11
    have s11:=ae hp11 (.tup [.str ts[at2.toNat],.ref p10])
    have r11:=Rp.new (K:=K) (xs:=[.s ts[at2.toNat],.t (ps.map dz)]) hp11 (.cons .s (.one r10))
    have n11:=s11 _ _ n10
    generalize upd H10 p11 (.tup [.str ts[at2.toNat],.ref p10])=H11 at s11 r11 n11⊢
    have f11:=(f9.same s10).same s11
    have g11:cP [lo] fe H5 H11:=f7.trans f11.more
    have k11:=Kt.lst (l:=lo) n11 (.lst (us++[.ref p11]))
    fail "R"
    refine⟨own++[(ts[at2.toNat],ps)],us++[.ref p11],g11.upd (List.mem_singleton.mpr rfl) nlo n11,af,?_,by rw[List.length_append,lo6];rfl,?_,fun t hm=>(List.mem_append.mp hm).elim (ok6 t) (fun h=>by rw[List.mem_singleton.mp h];exact⟨by show ps.length<=2;omega,o8⟩),by omega⟩
    ·rw[List.map_append]
     exact(((r6.kt (x7.kt hf6)).kt f11.kt).kt k11).snoc (r11.kt k11)
    ·rw[List.map_append,on6,List.take_succ_eq_append_getElem (by rw[List.length_drop];omega),List.getElem_drop]
     have ei:at2.toNat=(qD kl).length+j:=by omega
     simp only[ei]
     rfl
  ·rintro σ H6 ⟨at2,_,_,rfl,⟨own,us,f6,h6,r6,lo6,on6,ok6,ha6⟩⟩
   have h6f:=f6.gy nlolf nlf h5f
   have r6k:=r5.kt f6.kt
   have hn6:H6 ln=some (.lst (xs.map V.str)):=f6.gy (au (f3.nB nln hn) hlo) nln (x5.1 _ _ nln (s4 _ _ (f3.nB nln hn)))
   have lvs:vs.length<sizeLine:=aZ (by rw[r3.length,List.length_map];omega)
   have hil:i<xs.length:=by omega
   have hat2:jC (xs.map V.str) (0+(i:Int))=some (.str xs[i]):=by
    rw[Int.zero_add]
    exact cF (by rw[List.getElem?_map,List.getElem?_eq_getElem hil];rfl)
   fail "R"
   refine .inl ⟨cy.of h6,fun p10 hp10=>?_⟩
   have s10:=ae hp10 (.tup us)
   have r10:=Rp.new (K:=K) hp10 r6
   have n10:=s10 _ _ h6f
   generalize upd H6 p10 (.tup us)=H10 at s10 r10 n10⊢
   fail "R"
   intro p11 hp11
   have s11:=ae hp11 (.tup [.str xs[i],.ref p10])
   have r11:=Rp.new (K:=K) (xs:=[.s xs[i],.t (own.map kD)]) hp11 (.cons .s (.one r10))
   have n11:=s11 _ _ n10
   generalize upd H10 p11 (.tup [.str xs[i],.ref p10])=H11 at s11 r11 n11⊢
   have f11:cP [] fe H H11:=((f5.more.trans f6).drop (f3.free hlo (fun z=>nomatch z))).same (s10.trans s11)
   have k11:=Kt.lst (l:=lf) n11 (.lst (vs++[.ref p11]))
   fail "R"
   have et:qD (kl++[(xs[i],own)])=qD kl++own.map (·.1):=by
    unfold qD
    rw[List.flatMap_append]
    simp
   have lom:(own.map (·.1)).length=own.length:=List.length_map _
   refine⟨kl++[(xs[i],own)],vs++[.ref p11],f11.Cj hlf nlf n11,af,?_,by rw[List.length_append,lk];rfl,⟨?_,?_,?_⟩,?_,?_⟩
   ·rw[List.map_append]
    exact((r6k.same (s10.trans s11)).kt k11).snoc (r11.kt k11)
   ·rw[List.map_append,ok.nm,List.length_append,lk,show [(xs[i],own)].length=1 from rfl,List.take_succ_eq_append_getElem hil]
    rfl
   ·rw[et,List.length_append,lom,on6,ok.tg,List.length_take,Nat.min_eq_left (by omega)]
    conv=>lhs;rw[lo6.symm]
    rw[List.take_add]
   ·intro i' k' e'
    by_cases c:i' < kl.length
    ·rw[List.getElem?_append_left c]at e';exact ok.pt i' k' e'
    ·rw[List.getElem?_append_right (by omega)]at e'
     have:i'=i:=by
      have:=(List.getElem?_eq_some_iff.mp e').1
      have:[(xs[i],own)].length=1:=rfl
      omega
     subst this
     rw[lk,Nat.sub_self]at e'
     cases e'
     exact⟨by show 1<=own.length;omega,by show own.length<=3;omega,ok6⟩
   ·rw[et,List.length_append,lom];omega
   ·rw[et,List.length_append,lom];omega
 ·rintro σ H3 ⟨at_,_,_,_,_,rfl,⟨kl,vs,f3,h3,r3,lk,ok,ha,ha3⟩⟩
  fail "R"
  refine .inl ⟨cy.of h3,fun p10 hp10=>?_⟩
  have s10:=ae hp10 (.tup vs)
  exact k _ _ kl (f3.same s10).ex ok (by omega) (Rp.new (K:=K) hp10 r3)
end
noncomputable abbrev Kl:=List (Str×List (Str×List Kk))
noncomputable def kn(kl:Kl):List Str:=kl.map (·.1)
structure i8 where
 kd:Addr
 ld:Addr
 ln:Addr
 lg:Addr
 la:Addr
 lc:Addr
 lp:Addr
 mo:Int
 tn:Int
 x1:Addr
 x2:Addr
noncomputable def i8.nn(S:i8)(f:Addr):List Addr:=[f,S.lg,S.ld,S.x1,S.x2]
noncomputable def qN(S:i8):List (Key×V):=[(.inr "kinds",.ref S.kd),(.inr "defs",.ref S.ld),(.inr "names",.ref S.ln),(.inr "gaps",.ref S.lg),(.inr "most",.int S.mo),(.inr "asked",.ref S.la),(.inr "turn",.int S.tn),(.inr "called",.ref S.lc),(.inr "params",.ref S.lp)]
noncomputable abbrev ky(x:Str):Key:=Sum.inr x
noncomputable def vK(K:PySem.W.Frag)(H:Hp)(nn:List Addr)(d:Str×List Kk×Kk)(v:V):Prop:=∃(a l:Addr) (g:V) (ws:List V),v=.ref a/\bx K H a [.str d.1,.ref l,g]/\H l=some (.lst ws)/\aO K H (d.2.1.map dz) ws/\Rp K H (dz d.2.2) g/\l∉nn
noncomputable def fH(K:PySem.W.Frag)(H:Hp)(nn:List Addr):List (Str×List Kk×Kk)->List V->Prop
 | [],vs=>vs=[]
 |d::r,vs=>∃v us,vs=v::us/\vK K H nn d v/\fH K H nn r us
noncomputable def A1(ns:List Str)(dl:List (Str×List Kk×Kk)):Prop:=dl.length<=8/\∀d∈dl,d.2.1.length<=3/\(∀k∈d.2.1,k.ok ns/\k.dep<=2)/\d.2.2.ok ns/\d.2.2.dep<=2
structure bV(K:PySem.W.Frag) (H:Hp) (f d:Addr) (S:i8) (xs:List Str) (kl:Kl) (dl:List (Str×List Kk×Kk)) (gs:List Int):Prop where
 sd:H d=some (.dK (qN S))
 kd:Rp K H (qC kl) (.ref S.kd)
 ok:xJ (xs.take 3) ((xs.drop 3).take 9) kl
 k3:kl.length<=3
 lx:xs.length=26
 un:Un xs
 ln:H S.ln=some (.lst (((xs.drop 12).take 6).map V.str))
 lc:H S.lc=some (.lst (((xs.drop 18).take 3).map V.str))
 lp:H S.lp=some (.lst (((xs.drop 21).take 3).map V.str))
 ld:∃vs,H S.ld=some (.lst vs)/\fH K H (S.nn f) dl vs
 dl:A1 (kn kl) dl
 lg:H S.lg=some (.lst (gs.map V.int))
 la:∃kvs,H S.la=some (.dK kvs)/\kvs.length<=gs.length
 mm:(gs.length:Int)<=S.mo
 mo:S.mo<=5
 tn:S.tn=0\/S.tn=1
 ff:cH H f
 nf:d≠f/\S.ln≠f/\S.lc≠f/\S.lp≠f/\S.ld≠f/\S.lg≠f/\S.la≠f
 ng:S.ln≠S.lg/\S.lc≠S.lg/\S.lp≠S.lg/\S.ld≠S.lg
 nd:S.ln≠S.ld/\S.lc≠S.ld/\S.lp≠S.ld
 na:d≠S.la
section
variable {K:PySem.W.Frag}{H H':Hp}{f d:Addr}{S:i8}{xs:List Str}{kl:Kl}{dl:List (Str×List Kk×Kk)}{gs gs':List Int}
theorem iS(S:i8):eK (qN S) (ky "kinds")=some (.ref S.kd):=by kernel_rfl
theorem tK(S:i8):eK (qN S) (ky "defs")=some (.ref S.ld):=by kernel_rfl
theorem mw(S:i8):eK (qN S) (ky "names")=some (.ref S.ln):=by kernel_rfl
theorem xM(S:i8):eK (qN S) (ky "gaps")=some (.ref S.lg):=by kernel_rfl
theorem A2(S:i8):eK (qN S) (ky "most")=some (.int S.mo):=by kernel_rfl
theorem zq(S:i8):eK (qN S) (ky "asked")=some (.ref S.la):=by kernel_rfl
theorem A3(S:i8):eK (qN S) (ky "turn")=some (.int S.tn):=by kernel_rfl
theorem rR(S:i8):eK (qN S) (ky "called")=some (.ref S.lc):=by kernel_rfl
theorem xN(S:i8):eK (qN S) (ky "params")=some (.ref S.lp):=by kernel_rfl
theorem bV.get{y:Str}{v:V}(s:bV K H f d S xs kl dl gs)(e:eK (qN S) (ky y)=some v):jP H d (.str y) (some v):=by
 have h:=jP.k (k:=ky y) s.sd
 rw[e]at h
 exact h
theorem fH.go{nn:List Addr}(oth:∀b ws,b∉nn->H b=some (.lst ws)->H' b=some (.lst ws))(kt:Kt H H'):∀{dl:List (Str×List Kk×Kk)}{vs:List V},fH K H nn dl vs->fH K H' nn dl vs
 | [],_,h=>h
 |_::_,_,⟨v,us,e,⟨a,l,g,ws,e2,sq,hl,r,rg,n1⟩,h⟩=>⟨v,us,e,⟨a,l,g,ws,e2,sq.kt kt,oth _ _ n1 hl,r.kt kt,rg.kt kt,n1⟩,fH.go oth kt h⟩
theorem lI{b:Addr}(h:b∉S.nn f):b≠f/\b≠S.lg/\b≠S.ld/\b≠S.x1/\b≠S.x2:=by
 unfold i8.nn at h
 simp only[List.mem_cons,List.not_mem_nil,or_false,not_or]at h
 exact h
theorem bV.go(s:bV K H f d S xs kl dl gs)(fr:cP [S.lg,S.la] f H H')(lg:H' S.lg=some (.lst (gs'.map V.int)))(la:∃kvs,H' S.la=some (.dK kvs)/\kvs.length<=gs'.length)(mm:(gs'.length:Int)<=S.mo):bV K H' f d S xs kl dl gs':=by
 obtain⟨kv0,ha0,_⟩:=s.la
 obtain⟨vs,hd,rdl⟩:=s.ld
 obtain⟨n0,n1,n2,n3,n4,n5,n6⟩:=s.nf
 obtain⟨m1,m2,m3,m4⟩:=s.ng
 have nla:∀{b:Addr}{ws:List V},H b=some (.lst ws)->b≠S.la:=fun h=>gj h ha0 (fun z=>nomatch z)
 have nlg:d≠S.lg:=gj s.sd s.lg (fun z=>nomatch z)
 exact⟨fr.gJ nlg s.na n0 s.sd,s.kd.kt fr.kt,s.ok,s.k3,s.lx,s.un,fr.gJ m1 (nla s.ln) n1 s.ln,fr.gJ m2 (nla s.lc) n2 s.lc,fr.gJ m3 (nla s.lp) n3 s.lp,⟨vs,fr.gJ m4 (nla hd) n4 hd,rdl.go (fun b ws z h=>fr.gJ (lI z).2.1 (nla h) (lI z).1 h) fr.kt⟩,s.dl,lg,la,mm,s.mo,s.tn,fr.ff,s.nf,s.ng,s.nd,s.na⟩
theorem bV.ext(s:bV K H f d S xs kl dl gs)(e:Ext f H H'):bV K H' f d S xs kl dl gs:=by
 obtain⟨kv0,ha0,hl⟩:=s.la
 obtain⟨n0,n1,n2,n3,n4,n5,n6⟩:=s.nf
 exact s.go (Ext.Ae s.ff e) (e.1 _ _ n5 s.lg) ⟨kv0,e.1 _ _ n6 ha0,hl⟩ s.mm
theorem bV.same(s:bV K H f d S xs kl dl gs)(e:aI H H'):bV K H' f d S xs kl dl gs:=s.ext ((Ext.refl s.ff).same e)
theorem Kk.qE{a b:List Str}(h:∀x∈a,x∈b):∀{k:Kk},k.ok a->k.ok b
 |.num,_=>True.intro
 |.kd x,z=>h x z
 |.op _,z=>z
 |.row k,z=>Kk.qE (k:=k) h z
theorem xJ.qF{ts:List Str}(h:xJ xs ts kl){i:Nat}(hi:i<=kl.length):(kn kl).take i=xs.take i:=by
 unfold kn
 rw[h.nm,List.take_take,Nat.min_eq_left hi]
theorem bV.C8(s:bV K H f d S xs kl dl gs):Un (kn kl):=by
 have e:=s.ok.nm
 unfold kn
 rw[e,List.take_take]
 intro i j x hi hj
 refine s.un i j x ?_ ?_
 ·rw[List.getElem?_take]at hi;split at hi
  ·exact hi
  ·cases hi
 ·rw[List.getElem?_take]at hj;split at hj
  ·exact hj
  ·cases hj
end
noncomputable def iK(K:PySem.W.Frag):Sp:=fun vs H Q _=>∃(f d:Addr) (vk:V) (S:i8) (xs:List Str) (kl:Kl) (dl:List (Str×List Kk×Kk)) (gs:List Int) (x:Str),vs=[.ref d,vk]/\bV K H f d S xs kl dl gs/\Rp K H (dz (.kd x)) vk/\x∈kn kl /\
 ∀(v:V) (H':Hp) (k:Str×List (Str×List Kk)),aI H H'->k∈kl->k.1=x->Rp K H' (.t (k.2.map kD)) v->Q v H'
section
variable {P:Program}{w:World}{K:PySem.W.Frag}{mg:Str->Option Value}{base:Heap}{gT gA gN:Addr}{tfd afd nfd:FuncData}
theorem qG:Nm ["_law_scene_here","_law_kind"] (ak fE):=by decide +kernel
theorem qH:aN ["_law_scene_here","_law_kind"] ["_law_scene_here","_law_kind"] (ak fE):=⟨rfl,rfl,rfl,by decide +kernel,rfl,by decide +kernel,by decide +kernel⟩
theorem tL{f:Addr}{fd:FuncData}(F:fJ K "_law_tags_of" "_law_tags_of" fE f fd):bT P w K mg base fk 1 f fd ["_law_scene_here","_law_kind"] (iK K):=by
 refine F.ok qH (fun vs H Q E h=>?_) (fun cdv A outer s H vs Q E hr h=>?_)
 ·obtain⟨_,_,_,_,_,_,_,_,_,rfl,_⟩:=h
  rfl
 obtain⟨fe,d,vk,S,xs,kl,dl,gs,x,rfl,sc,rk,hx,k⟩:=h
 refine⟨_,(Zd (Zq (Zm bg (@eE _ _ _ _ _ _ _ _ _ _ _ (ak fE) ["_law_scene_here","_law_kind"] ["_law_name","_law_tags"] [1] rfl rfl rfl (by decide +kernel) (@bX _ _ _ _ (Zg (va qG 0))) (fun _ _ _ _=>(Ze (2) (Zj (Z3 (i:=0) (show(["_law_name","_law_tags","_law_kind"]:List Str).Nodup by decide +kernel)) (aR (Z3 (i:=1) (show(["_law_name","_law_tags","_law_kind"]:List Str).Nodup by decide +kernel)) bz)))) (fun _ _ _ _=>(@iD _ _ _ (Zc bJ (va (show Nm ["_law_name","_law_tags","_law_kind"] _ by show _=_;kernel_rfl) 0) (Za (fg K rfl) (va (show Nm ["_law_name","_law_tags","_law_kind"] _ by show _=_;kernel_rfl) 2))))) (fun _ _ _ _=>(va (show Nm ["_law_name","_law_tags","_law_kind"] _ by show _=_;kernel_rfl) 1)) (by intro _;rfl)) aj))),?_⟩
 try dsimp only[bU]
 try dsimp only[bU]
 have hg:=sc.get (iS S)
 obtain⟨ka,kvs,ek,ksq,rks⟩:=sc.kd.aC
 cases ek
 obtain⟨va,v1,v2,rfl,vsq,g1,g2⟩:=(show Rp K H (.t [.s "kind",.s x]) vk from rk).t2
 obtain rfl:=g2.aF
 have k3:=sc.k3
 fail "R"
 refine dZ (e:=zp) (φ:=fun k=>if k.1=x then [.t (k.2.map kD)]else []) (fun σ=>∃a b,σ=[a,b,some (.ref va)]) ksq rks (by omega) (fun k=>by split<;>simp) ⟨_,_,rfl⟩ ?_ ?_
 ·rintro p hp y _ H6 N s6 ⟨_,_,rfl⟩ rx kN
  obtain⟨xa,x1,x2,rfl,xsq,r1,r2⟩:=(show Rp K H6 (.t [.s p.1,.t (p.2.map kD)]) y from rx).t2
  obtain rfl:=r1.aF
  have vsq6:=vsq.same s6
  fail "R"
  refine ck (fun c=>?_) (fun c=>?_)
  ·fail "R"
   have e:p.1=x:=by injection(of_decide_eq_true c)
   exact kN _ _ _ ⟨⟨_,_,rfl⟩,aI.refl _,by rw[if_pos e];exact .one r2⟩
  ·have e:¬p.1=x:=fun z=>c (decide_eq_true (by rw[z]))
   exact kN _ _ _ ⟨⟨_,_,rfl⟩,aI.refl _,by rw[if_neg e];exact .nil⟩
 intro l H1 ws s1 hl h1 r1
 obtain⟨k0,hk0,e0⟩:=List.mem_map.mp hx
 have hm:(T.t (k0.2.map kD))∈kl.flatMap fun k=>if k.1=x then [T.t (k.2.map kD)]else []:=List.mem_flatMap.mpr ⟨k0,hk0,by rw[if_pos e0];exact .head _⟩
 generalize e9:(kl.flatMap fun k=>if k.1=x then [T.t (k.2.map kD)]else [])=ys at r1 hm
 cases ys with
 |nil=>cases hm
 |cons y q =>
  have hy:y∈kl.flatMap fun k=>if k.1=x then [T.t (k.2.map kD)]else []:=by rw[e9];exact .head _
  obtain⟨k1,hk1,hy1⟩:=List.mem_flatMap.mp hy
  obtain⟨v,us,rfl,rv,_⟩:=r1.inv
  split at hy1
  ·next e1 =>
   have hy2:=List.mem_singleton.mp hy1
   subst hy2
   have a0:=vF v us
   fail "R"
   exact k v H1 k1 s1 hk1 e1 rv
  ·cases hy1
end
noncomputable def qI(H:Hp)(a:Addr)(ws:List Str):Prop:=H a=some (.lst (ws.map V.str))/\1<=ws.length/\ws.length<=100
theorem qI.same{H H':Hp}{a:Addr}{ws:List Str}(h:qI H a ws)(e:aI H H'):qI H' a ws:=⟨e a _ h.1,h.2⟩
noncomputable def nC:Sp:=fun vs H Q _=>∃f:Addr,vs=[.ref f]/\cH H f/\∀(n:Int) (H':Hp),0<=n->n<1000000->Ext f H H'->Q (.int n) H'
section
variable {P:Program}{w:World}{K:PySem.W.Frag}{mg:Str->Option Value}{base:Heap}{gT gN gA:Addr}{tfd nfd afd:FuncData}
theorem dG:Nm ["_law_feed_here","_law_form"] (ak gq):=by decide +kernel
theorem rS:Lm ["_law_feed_here","_law_form"] (ak gq):=by decide +kernel
theorem lJ:aN ["_law_feed_here","_law_form"] ["_law_feed_here"] (ak gq):=⟨rfl,rfl,rfl,by decide +kernel,rfl,by decide +kernel,by decide +kernel⟩
theorem vL{f:Addr}{fd:FuncData}(F:fJ K "_law_number" "_law_number" gq f fd)(TK:bS P w K mg base "_law_take" 1 ["_law_feed_here","_law_many"] dD gT tfd):bT P w K mg base fk 2 f fd ["_law_feed_here"] nC:=by
 refine F.ok lJ (fun vs H Q E h=>?_) (fun cdv A outer s H vs Q E hr h=>?_)
 ·obtain⟨v,rfl,_⟩:=h
  rfl
 obtain⟨r,rfl,hf,k⟩:=h
 refine⟨_,(br (sa lJ.nd rS 1 (gQ TK.ok (hr.mono (by omega)) (by show _=_;kernel_rfl) TK.at' TK.kp TK.bd .nil jm (aA (va dG 0) (aA aj ao))))
  (br (fj (aM j0 (va dG 1) aj (bF _)) (bR (bQ (gQ TK.ok (hr.mono (by omega)) (by show _=_;kernel_rfl) TK.at' TK.kp TK.bd .nil jm (aA (va dG 0) (aA (gm bg (bf (aA aj (aA aj (aA aj (aA aj (aA aj (aA aj ao))))))) (va dG 1) (fun _ _=>rfl)) ao))))) fO)
  (bR (bQ (gm bg (bf (aA (gQ TK.ok (hr.mono (by omega)) (by show _=_;kernel_rfl) TK.at' TK.kp TK.bd .nil jm (aA (va dG 0) (aA aj ao))) (aA (aJ bu aj (gQ TK.ok (hr.mono (by omega)) (by show _=_;kernel_rfl) TK.at' TK.kp TK.bd .nil jm (aA (va dG 0) (aA aj ao)))) ao))) (aJ bu (va dG 1) aj) (fun _ _=>rfl)))))),?_⟩
 refine⟨_,rfl,r,8,rfl,by decide,by decide,hf,fun q H1 q0 q1 e1=>?_⟩
 refine⟨_,rfl,_,_,rfl,rfl,_,rfl,ck (fun c=>?_) (fun c=>?_)⟩
 ·have c6:q<6:=of_decide_eq_true c
  refine⟨_,rfl,(by show 6<=sizeLine;decide),fun l hl=>?_⟩
  obtain⟨v,hv,hm⟩:=iQ (xs:=[V.int 2,V.int 4,V.int 4,V.int 10,V.int 10,V.int 100]) q0 (by simpa using c6)
  obtain⟨n,rfl,n0,n1⟩:∃n:Int,v=.int n/\0<n/\n<=100:=by
   simp only[List.mem_cons,List.not_mem_nil,or_false]at hm
   rcases hm with rfl|rfl|rfl|rfl|rfl|rfl
   ·exact⟨2,rfl,by decide,by decide⟩
   ·exact⟨4,rfl,by decide,by decide⟩
   ·exact⟨4,rfl,by decide,by decide⟩
   ·exact⟨10,rfl,by decide,by decide⟩
   ·exact⟨10,rfl,by decide,by decide⟩
   ·exact⟨100,rfl,by decide,by decide⟩
  refine⟨_,rfl,l,_,_,_,rfl,rfl,cy.of af,hv,r,n,rfl,n0,by omega,e1.2.same (ae hl _),fun x H2 x0 x1 e2=>?_⟩
  exact k x H2 x0 (by omega) ((e1.new hl _).trans e2)
 ·have c6:¬q<6:=fun z=>c (decide_eq_true z)
  refine⟨_,rfl,r,1000000,rfl,by decide,by decide,e1.2,fun x H2 x0 x1 e2=>?_⟩
  refine⟨_,rfl,r,3,rfl,by decide,by decide,e2.2,fun y H3 y0 y1 e3=>?_⟩
  refine⟨_,_,rfl,rfl,(by show 2<=sizeLine;decide),fun l hl=>?_⟩
  have e4:=((e1.trans e2).trans e3).new hl (.lst [.int x,.int (999999-y)])
  obtain⟨v,hv,hm⟩:=iQ (xs:=[V.int x,V.int (999999-y)]) (k:=q-6) (by omega) (by simp;omega)
  refine⟨_,rfl,_,_,rfl,rfl,l,_,_,_,rfl,rfl,cy.of af,hv,?_⟩
  simp only[List.mem_cons,List.not_mem_nil,or_false]at hm
  rcases hm with rfl|rfl
  ·exact k _ _ x0 x1 e4
  ·exact k _ _ (by omega) (by omega) e4
end
noncomputable def A4:Hd->Prop
 |.gap n=>0<=n/\n<1000
 |_=>True
inductive Tok:Tm->Prop
 |mk {h:Hd}{ks:List Tm}:cD h ks.length=true->ks.length<=9->(∀k∈ks,Tok k)->(g:A4 h:=by exact True.intro)->Tok (.mk h ks)
theorem Tok.wf{tm:Tm}(h:Tok tm):Wf tm:=by
 induction h with
 |mk a b c g ih=>exact .mk a ih
noncomputable def jw(K:PySem.W.Frag)(n:Nat):Sp:=fun vs H Q _=>∃(f d:Addr) (vk:V) (S:i8) (xs:List Str) (kl:Kl) (dl:List (Str×List Kk×Kk)) (gs:List Int) (k:Kk) (r:Nat),vs=[.ref f,.ref d,vk]/\bV K H f d S xs kl dl gs/\Rp K H (dz k) vk/\k.ok ((kn kl).take r)/\k.dep<=100/\r<n/\r<=kl.length /\
 ∀(v:V) (H':Hp) (tm:Tm),Ext f H H'->Rp K H' (enc tm) v->Tok tm->tm.depth<=r->tm.size+1<=2 ^ (r+1)->Q v H'
structure NI(K:PySem.W.Frag) (f:Addr) (H:Hp) (e i:Nat) (us:List V) (H':Hp):Prop where
 x:∃ts:List Tm,Ext f H H'/\aO K H' (ts.map enc) us/\ts.length=i/\∀t∈ts,Tok t/\t.depth<=e/\t.size+1<=2 ^ (e+1)
theorem rT{b:Nat}:∀{ts:List Tm},(∀t∈ts,t.size<=b)->Tm.sizes ts<=ts.length*b
 | [],_=>by rw[Tm.sizes];exact Nat.zero_le _
 |t::r,h=>by
  rw[Tm.bM,List.length_cons,Nat.succ_mul]
  have:=h t (.head _)
  have:=rT (b:=b) (ts:=r) (fun x hx=>h x (.tail _ hx))
  omega
section
variable {P:Program}{w:World}{K:PySem.W.Frag}{mg:Str->Option Value}{base:Heap}{gT gA gN gO:Addr}{tfd afd nfd ofd:FuncData}
theorem cX:Nm ["_law_feed_here","_law_scene_here","_law_kind","_law_tags","_law_t","_law_inner"] (ak dS):=by decide +kernel
theorem jx:Lm ["_law_feed_here","_law_scene_here","_law_kind","_law_tags","_law_t","_law_inner"] (ak dS):=by decide +kernel
theorem ig:aN ["_law_feed_here","_law_scene_here","_law_kind","_law_tags","_law_t","_law_inner"] ["_law_feed_here","_law_scene_here","_law_kind"] (ak dS):=⟨rfl,rfl,rfl,by decide +kernel,rfl,by decide +kernel,by decide +kernel⟩
theorem vM{f:Addr}{fd:FuncData}{n j:Nat}(hj:2<=j)(F:fJ K "_law_nought" "_law_nought" dS f fd)(NU:bS P w K mg base "_law_number" 2 ["_law_feed_here"] nC gN nfd)(TG:bS P w K mg base "_law_tags_of" 1 ["_law_scene_here","_law_kind"] (iK K) gT tfd)(NO:bS P w K mg base "_law_nought" j ["_law_feed_here","_law_scene_here","_law_kind"] (jw K n) gO ofd)(z_tuple:mg "tuple"=none):bT P w K mg base fk (j+1) f fd ["_law_feed_here","_law_scene_here","_law_kind"] (jw K (n+1)):=by
 refine F.ok ig (fun vs H Q E h=>?_) (fun cdv A outer s H vs Q E hr h=>?_)
 ·obtain⟨_,_,_,_,_,_,_,_,_,_,rfl,_⟩:=h
  rfl
 obtain⟨fe,d,vk,S,xs,kl,dl,gs,kk,r,rfl,sc,rk,ok,kdp,hr1,hr2,k⟩:=h
 refine⟨_,(Z5 (Zf (aM (tq hr.oi) (va cX 2) az (bF _)) (Zd (Zq (Zk (Z1 az (Z1 (Z0 NU (Zb (va cX 0))) ao)))))) (Z5 (Zf (Zc bJ (Za aD (va cX 2)) az) (Zd (Zq (Zk (Z1 az (Zb (cQ ao))))))) (Z5 (Z4 ig.nd jx 3 (Z0 TG (Z1 (va cX 1) (Zb (va cX 2))))) (Z5 (@jN _ _ _ _ _ _ (Za aD (va cX 3)) (Ze (2) (Zj (ga ig.nd jx 4) (aR (ga ig.nd jx 5) bz))) (by rfl) (by rfl) (by rfl)) (Zd (Zq (Zk (Z1 az (Z1 (va cX 4) (Z1 (Z6 aL z_tuple PyProof.Rows.boot_tuple (Z1 (Z8 (ak dS) ["_law_feed_here","_law_scene_here","_law_kind","_law_tags","_law_t","_law_inner"] ["_law_one"] [0,1] (bX (va cX 5)) (fun _ _ _ _=>(Z3 (i:=0) (show(["_law_one","_law_feed_here","_law_scene_here"]:List Str).Nodup by decide +kernel))) (fun _ _ _ _=>(Z0 NO (Z1 (va (show Nm ["_law_one","_law_feed_here","_law_scene_here"] _ by show _=_;kernel_rfl) 1) (Z1 (va (show Nm ["_law_one","_law_feed_here","_law_scene_here"] _ by show _=_;kernel_rfl) 2) (Zb (va (show Nm ["_law_one","_law_feed_here","_law_scene_here"] _ by show _=_;kernel_rfl) 0))))))) ao)) ao)))))))))),?_⟩
 try dsimp only[bU]
 try dsimp only[bU]
 have hf:=sc.ff
 have kdp2:(dz kk).dep<=150:=Nat.le_trans (ic kk) (by omega)
 have p1:1<=2 ^ r:=Nat.one_le_two_pow
 have p2:2 ^ (r+1)=2*2 ^ r:=by rw[Nat.pow_succ];omega
 have leaf:∀(h:Hd) (v:V) (H':Hp),cD h 0=true/\A4 h->Ext fe H H'->Rp K H' (eT h []) v->Q v H':=fun h v H' a e rv =>
  k v H' (.mk h []) e (by rw[cZ];exact rv) (.mk a.1 (Nat.zero_le _) (fun k hk=>nomatch hk) a.2) (Nat.zero_le _) (by show 1+1<=_;omega)
 refine kq ?_
 intro N1 N2 N3 N4 c1 c2 c3 c4
 have rN:Rp K H (T.s "num") (.str "num"):=.s
 fail "R"
 refine ck (fun c=>?_) (fun c=>?_)
 ·fail "R"
  intro m H1 m0 m1 x1
  fail "R"
  intro p2 hp2
  have s2:=ae hp2 (.tup [.str "num",.int m])
  exact leaf (.num m) _ _ ⟨rfl,True.intro⟩ (x1.same s2) (Rp.t (bx.of af) (.cons .s (.one .i)))
 cases kk with
 |num=>exact absurd (decide_eq_true rfl) c
 |op n=>exact absurd ok id
 |row k2 =>
  obtain⟨va,v1,v2,rfl,vsq,g1,g2⟩:=(show Rp K H (.t [.s "row",dz k2]) vk from rk).t2
  obtain rfl:=g1.aF
  fail "R"
  intro p9 hp9
  have s9:=ae hp9 (.tup [])
  have r9:=Rp.new (K:=K) hp9 .nil
  generalize upd H p9 (.tup [])=H9 at s9 r9⊢
  fail "R"
  intro p10 hp10
  have s10:=ae hp10 (.tup [.str "row",.ref p9])
  exact leaf .row _ _ ⟨rfl,True.intro⟩ ((Ext.refl hf).same (s9.trans s10)) (Rp.new (K:=K) hp10 (.cons .s (.one r9)))
 |kd x =>
  obtain⟨va,v1,v2,rfl,vsq,g1,g2⟩:=(show Rp K H (.t [.s "kind",.s x]) vk from rk).t2
  obtain rfl:=g1.aF
  have hx:x∈kn kl:=List.mem_of_mem_take ok
  fail "R"
  intro v3 H3 k3 s3 hk3 ek3 r3
  obtain⟨i,hi⟩:=List.getElem?_of_mem hk3
  have hil:i<kl.length:=(List.getElem?_eq_some_iff.mp hi).1
  obtain⟨hq1,hq3,hqt⟩:=sc.ok.pt i k3 hi
  have hir:i<r:=by
   obtain⟨i',hi'⟩:=List.getElem?_of_mem (show x∈(kn kl).take r from ok)
   have hl':=(List.getElem?_eq_some_iff.mp hi').1
   rw[List.length_take]at hl'
   have e1:(kn kl)[i]?=some x:=by unfold kn;rw[List.getElem?_map,hi];exact congrArg some ek3
   rw[List.getElem?_take]at hi'
   split at hi'
   ·next hlt=>rw[sc.C8 i i' x e1 hi'];exact hlt
   ·cases hi'
  obtain⟨ta,tvs,rfl,tsq,rts⟩:=r3.aC
  obtain⟨tg,tr,etg⟩:∃a b,k3.2=a::b:=by
   cases e:k3.2 with
   |nil=>rw[e]at hq1;simp at hq1
   |cons a b=>exact⟨a,b,rfl⟩
  rw[etg]at rts
  obtain⟨u1,us1,rfl,ru1,_⟩:=aO.inv (K:=K) (x:=kD tg) rts
  obtain⟨ga,w1,w2,rfl,gsq,q1,q2⟩:=(show Rp K H3 (.t [.s tg.1,.t (tg.2.map dz)]) u1 from ru1).t2
  obtain rfl:=q1.aF
  obtain⟨ia,ivs,rfl,isq,ris⟩:=q2.aC
  obtain⟨tl2,tok⟩:=hqt tg (by rw[etg];exact .head _)
  have li:=ris.length
  rw[List.length_map]at li
  have a0:=vF (V.ref ga) us1
  have x3:Ext fe H H3:=(Ext.refl hf).same s3
  fail "R"
  refine fB (K:=K) (xs:=ivs) (fun i7 σ us H5=>(∃y,σ=[y,some (.ref fe),some (.ref d)])/\NI K fe H3 i i7 us H5) ⟨⟨_,rfl⟩,⟨[],Ext.refl x3.2,.nil,rfl,fun t h=>nomatch h⟩⟩ ?_ (small (by omega)) ?_ ?_ ?_
  ·rintro i7 σ us H5 h ⟨_,⟨ts,_,r,e,_⟩⟩
   rw[r.length,List.length_map,e];exact Nat.le_refl _
  ·rintro i7 σ us H5 h ⟨_,⟨ts,x5,_⟩⟩
   exact isq.kt (x5.kt x3.2)
  ·rintro i7 y σ us H5 hy ⟨⟨_,rfl⟩,⟨ts,x5,r5,l5,o5⟩⟩
   obtain⟨t,ht,rt⟩:=ris.get' hy
   rw[List.getElem?_map]at ht
   obtain⟨q,hq,rfl⟩:=Option.map_eq_some_iff.mp ht
   have sc5:=(sc.ext x3).ext x5
   have rt5:=rt.kt (x5.kt x3.2)
   obtain⟨oq1,oq2⟩:=tok q (List.mem_of_getElem? hq)
   have oq:q.ok ((kn kl).take i):=by rw[sc.ok.qF (Nat.le_of_lt hil)];exact oq1
   have oq3:q.dep<=100:=by omega
   have hin:i<n:=by omega
   have hil2:i<=kl.length:=by omega
   fail "R"
   intro v6 H6 tm x6 r6 tk6 d6 z6
   fail "R"
   refine⟨ts++[tm],x5.trans x6,by rw[List.map_append];exact(r5.kt (x6.kt x5.2)).snoc r6,by rw[List.length_append,l5];rfl,fun t hm=>(List.mem_append.mp hm).elim (o5 t) (fun h=>by rw[List.mem_singleton.mp h];exact⟨tk6,d6,z6⟩)⟩
  ·rintro σ us H5 ⟨_,⟨ts,x5,r5,l5,o5⟩⟩ p6 hp6
   have s6:=ae hp6 (.lst us)
   have h6:upd H5 p6 (.lst us) p6=some (.lst us):=af
   have r6:=r5.same s6
   generalize upd H5 p6 (.lst us)=H6 at s6 h6 r6⊢
   fail "R"
   refine .inl ⟨cy.of h6,fun p7 hp7=>?_⟩
   have s7:=ae hp7 (.tup us)
   have r7:=Rp.new (K:=K) hp7 r6
   generalize upd H6 p7 (.tup us)=H7 at s7 r7⊢
   fail "R"
   intro p8 hp8
   have s8:=ae hp8 (.tup [.str "tag",.str tg.1,.ref p7])
   have p3:2 ^ (i+1)<=2 ^ r:=Nat.pow_le_pow_right (by omega) hir
   refine k _ _ (.mk (.tag tg.1) ts) (x3.trans (((x5.same s6).same s7).same s8)) (by rw[cZ];exact Rp.new (K:=K) hp8 (.cons .s (.cons .s (.one r7)))) (.mk rfl (by omega) fun t ht=>(o5 t ht).1) (Nat.le_trans (Tm.j7 fun t ht=>(o5 t ht).2.1) hir) ?_
   rw[Tm.eB]
   have hz:=rT (b:=2 ^ r-1) (ts:=ts) fun t ht=>by have:=(o5 t ht).2.2;omega
   have hz2:ts.length*(2 ^ r-1)<=2*(2 ^ r-1):=Nat.mul_le_mul_right _ (by omega)
   omega
end
noncomputable def rV(K:PySem.W.Frag)(H:Hp)(a:Addr)(ps:List (Str×Kk)):Prop:=∃vs,H a=some (.lst vs)/\aO K H (ps.map ny) vs
noncomputable def kE(ps qs:List (Str×Kk)):List (Str×Kk):=ps.filter (fun p=>!decide (p.1∈qs.map (·.1)))++qs
noncomputable def mz(K:PySem.W.Frag):Sp:=fun vs H Q _=>∃(a b:Addr) (ps qs:List (Str×Kk)),vs=[.ref a,.ref b]/\rV K H a ps/\rV K H b qs/\ps.length+qs.length<=900 /\
 ∀(p:Addr) (H':Hp),aI H H'->H p=none->rV K H' p (kE ps qs)->Q (.ref p) H'
theorem zu(ps qs:List (Str×Kk)):(ps.flatMap fun p=>if p.1∈qs.map (·.1)then []else [ny p])=(ps.filter (fun p=>!decide (p.1∈qs.map (·.1)))).map ny:=by
 induction ps with
 |nil=>rfl
 |cons p r ih =>
  rw[List.flatMap_cons,ih,List.filter_cons]
  by_cases c:p.1∈qs.map (·.1)
  ·rw[if_pos c,decide_eq_true c];rfl
  ·rw[if_neg c,decide_eq_false c];rfl
section
variable {P:Program}{w:World}{K:PySem.W.Frag}{mg:Str->Option Value}{base:Heap}{gT gO:Addr}{tfd ofd:FuncData}
theorem jS:Nm ["_law_around","_law_more","_law_fresh_here"] (ak eV):=by decide +kernel
theorem tM:Lm ["_law_around","_law_more","_law_fresh_here"] (ak eV):=by decide +kernel
theorem nD:aN ["_law_around","_law_more","_law_fresh_here"] ["_law_around","_law_more"] (ak eV):=⟨rfl,rfl,rfl,by decide +kernel,rfl,by decide +kernel,by decide +kernel⟩
theorem xO{f:Addr}{fd:FuncData}(F:fJ K "_law_bound" "_law_bound" eV f fd):bT P w K mg base fk 1 f fd ["_law_around","_law_more"] (mz K):=by
 refine F.ok nD (fun vs H Q E h=>?_) (fun cdv A outer s H vs Q E hr h=>?_)
 ·obtain⟨_,_,_,_,rfl,_⟩:=h
  rfl
 obtain⟨a,b,ps,qs,rfl,⟨pvs,ha,rp⟩,⟨qvs,hb,rq⟩,hl,k⟩:=h
 refine⟨_,(Z5 (Z4 nD.nd tM 2 (Z8 (ak eV) ["_law_around","_law_more","_law_fresh_here"] ["_law_x","_law_kind"] [] (dw (va jS 1)) (fun _ _ _ _=>(Ze (2) (Zj (Z3 (i:=0) (show(["_law_x","_law_kind"]:List Str).Nodup by decide +kernel)) (aR (Z3 (i:=1) (show(["_law_x","_law_kind"]:List Str).Nodup by decide +kernel)) bz)))) (fun _ _ _ _=>(va (show Nm ["_law_x","_law_kind"] _ by show _=_;kernel_rfl) 0)))) (Zd (Zq (Zn mU (@eE _ _ _ _ _ _ _ _ _ _ _ (ak eV) ["_law_around","_law_more","_law_fresh_here"] ["_law_one"] [2] rfl rfl rfl (by decide +kernel) (dw (va jS 0)) (fun _ _ _ _=>(Z3 (i:=0) (show(["_law_one","_law_fresh_here"]:List Str).Nodup by decide +kernel))) (fun _ _ _ _=>(@iD _ _ _ (@aM _ _ _ _ _ _ _ _ (oj K rfl) (Za (fg K rfl) (va (show Nm ["_law_one","_law_fresh_here"] _ by show _=_;kernel_rfl) 0)) (va (show Nm ["_law_one","_law_fresh_here"] _ by show _=_;kernel_rfl) 1) (by with_unfolding_all rfl)))) (fun _ _ _ _=>(va (show Nm ["_law_one","_law_fresh_here"] _ by show _=_;kernel_rfl) 0)) (by intro _;rfl)) (va jS 1))))),?_⟩
 try dsimp only[bU]
 try dsimp only[bU]
 have lp:=rp.length
 have lq:=rq.length
 rw[List.length_map]at lp lq
 fail "R"
 refine iI (e:=ny) (φ:=fun p=>[.s p.1]) (fun σ=>∃x y,σ=[x,y]) hb rq (by omega) (fun _=>Nat.le_refl _) ⟨_,_,rfl⟩ ?_ ?_
 ·rintro p hp x _ H6 N s6 ⟨_,_,rfl⟩ rx kN
  obtain⟨xa,x1,x2,rfl,xsq,r1,r2⟩:=(show Rp K H6 (.t [.s p.1,dz p.2]) x from rx).t2
  fail "R"
  exact kN _ _ _ ⟨⟨_,_,rfl⟩,aI.refl _,.one r1⟩
 intro lf H1 ws s1 hlf gf r1
 rw[iy (fun p:Str×Kk=>T.s p.1),show(qs.map fun p=>T.s p.1)=(qs.map (·.1)).map T.s from by rw[List.map_map];rfl]at r1
 obtain rfl:=r1.nv
 have ha1:=s1 _ _ ha
 have hb1:=s1 _ _ hb
 fail "R"
 refine iI (e:=ny) (φ:=fun p=>if p.1∈qs.map (·.1)then []else [ny p]) (fun σ=>∃x,σ=[x,some (.ref lf)]) ha1 (rp.same s1) (by omega) (fun p=>by split<;>simp) ⟨_,rfl⟩ ?_ ?_
 ·rintro p hp x _ H6 N s6 ⟨_,rfl⟩ rx kN
  obtain⟨xa,x1,x2,rfl,xsq,r1,r2⟩:=(show Rp K H6 (.t [.s p.1,dz p.2]) x from rx).t2
  obtain rfl:=r1.aF
  have hor:cy K H6 lf ((qs.map (·.1)).map V.str)\/bx K H6 lf ((qs.map (·.1)).map V.str):=.inl (cy.of (s6 _ _ gf))
  have hfl:=jF (qs.map (·.1))
  have hf2:jH (.str p.1)=true:=rfl
  fail "R"
  rw[nA]
  refine ck (fun c=>?_) (fun c=>?_)
  ·have c':¬p.1∈qs.map (·.1):=by simpa using c
   fail "R"
   exact kN _ _ _ ⟨⟨_,rfl⟩,aI.refl _,by rw[if_neg c'];exact .one rx⟩
  ·have c':p.1∈qs.map (·.1):=by simpa using c
   exact kN _ _ _ ⟨⟨_,rfl⟩,aI.refl _,by rw[if_pos c'];exact .nil⟩
 intro l2 H2 ws2 s2 hl2 h2 r2
 rw[zu]at r2
 have hb2:=s2 _ _ hb1
 have lu:=r2.length
 rw[List.length_map]at lu
 have lf2:(ps.filter (fun p=>!decide (p.1∈qs.map (·.1)))).length<=ps.length:=List.length_filter_le _ _
 have hz:ws2.length+qvs.length<=sizeLine:=small (by omega)
 fail "R"
 intro p3 hp3
 have s3:=ae hp3 (.lst (ws2++qvs))
 refine k p3 _ (s1.trans (s2.trans s3)) ((s1.trans s2).free hp3) ⟨_,af,?_⟩
 unfold kE
 rw[List.map_append]
 exact(r2.same s3).append (rq.same (s1.trans (s2.trans s3)))
structure uG(K:PySem.W.Frag) (H:Hp) (f:Addr) (S:i8) (kl:Kl) (ar:Addr) (ps:List (Str×Kk)):Prop where
 aa:rV K H ar ps
 nf:ar≠f
 ng:ar≠S.lg
 na:ar≠S.la
 pk:∀p∈ps,p.2.ok (kn kl)/\p.2.dep<=60
 pl:ps.length<=60
theorem uG.Ae{H H':Hp}{f:Addr}{S:i8}{kl:Kl}{ar:Addr}{ps:List (Str×Kk)}(a:uG K H f S kl ar ps)(fr:cP [S.lg,S.la] f H H'):uG K H' f S kl ar ps:=by
 obtain⟨vs,h,r⟩:=a.aa
 exact⟨⟨vs,fr.gJ a.ng a.na a.nf h,r.kt fr.kt⟩,a.nf,a.ng,a.na,a.pk,a.pl⟩
noncomputable def qJ(K:PySem.W.Frag):Sp:=fun vs H Q _=>∃(f d ar:Addr) (vk:V) (S:i8) (xs:List Str) (kl:Kl) (dl:List (Str×List Kk×Kk)) (gs:List Int) (k:Kk) (ps:List (Str×Kk)),vs=[.ref f,.ref d,.ref ar,vk]/\bV K H f d S xs kl dl gs/\uG K H f S kl ar ps/\Rp K H (dz k) vk/\k.ok (kn kl)/\k.dep<=60 /\
 ∀(v:V) (H':Hp) (tm:Tm) (gs':List Int),cP [S.lg,S.la] f H H'->bV K H' f d S xs kl dl gs'->Rp K H' (enc tm) v->Tok tm->tm.depth<=3->Q v H'
theorem bV.vN{H:Hp}{f d:Addr}{S:i8}{xs:List Str}{kl:Kl}{dl:List (Str×List Kk×Kk)}{gs:List Int}(s:bV K H f d S xs kl dl gs):cP [S.lg,S.la] f H H:=cP.refl s.ff
theorem xP{kvs:List (Key×V)}{k:Key}{v:V}:(putK kvs k v).length<=kvs.length+1:=by
 unfold putK
 split
 ·rw[List.length_map];omega
 ·rw[List.length_append];exact Nat.le_refl _
theorem aX:Nm ["_law_feed_here","_law_scene_here","_law_around","_law_kind","_law_some","_law_form","_law_n"] (ak iE):=by decide +kernel
theorem kZ:Lm ["_law_feed_here","_law_scene_here","_law_around","_law_kind","_law_some","_law_form","_law_n"] (ak iE):=by decide +kernel
theorem jG:aN ["_law_feed_here","_law_scene_here","_law_around","_law_kind","_law_some","_law_form","_law_n"] ["_law_feed_here","_law_scene_here","_law_around","_law_kind"] (ak iE):=⟨rfl,rfl,rfl,by decide +kernel,rfl,by decide +kernel,by decide +kernel⟩
theorem zw{f:Addr}{fd:FuncData}(F:fJ K "_law_leaf" "_law_leaf" iE f fd){j:Nat}(hj:1<=j)(TK:bS P w K mg base "_law_take" 1 ["_law_feed_here","_law_many"] dD gT tfd)(NO:bS P w K mg base "_law_nought" j ["_law_feed_here","_law_scene_here","_law_kind"] (jw K 4) gO ofd)(z_len:mg "len"=none)(z_list:mg "list"=none):bT P w K mg base fk (j+1) f fd ["_law_feed_here","_law_scene_here","_law_around","_law_kind"] (qJ K):=by
 refine F.ok jG (fun vs H Q E h=>?_) (fun cdv A outer s H vs Q E hr h=>?_)
 ·obtain⟨_,_,_,_,_,_,_,_,_,_,_,rfl,_⟩:=h
  rfl
 obtain⟨fe,d,ar,vk,S,xs,kl,dl,gs,kk,ps,rfl,sc,ai,rk,ok,kdp,k⟩:=h
 refine⟨_,(Z5 (@ni _ _ _ _ _ _ _ _ _ _ _ _ _ _ _ (ak iE) ["_law_feed_here","_law_scene_here","_law_around","_law_kind","_law_some","_law_form","_law_n"] ["_law_x","_law_one"] [3] rfl rfl rfl (by decide +kernel) (dw (va aX 2)) (fun _ _ _ _=>(Ze (2) (Zj (Z3 (i:=0) (show(["_law_x","_law_one","_law_kind"]:List Str).Nodup by decide +kernel)) (aR (Z3 (i:=1) (show(["_law_x","_law_one","_law_kind"]:List Str).Nodup by decide +kernel)) bz)))) (fun _ _ _ _=>(@iD _ _ _ (aM (uB K rfl hr.oi) (va (show Nm ["_law_x","_law_one","_law_kind"] _ by show _=_;kernel_rfl) 1) (va (show Nm ["_law_x","_law_one","_law_kind"] _ by show _=_;kernel_rfl) 2) (bF _)))) (fun _ _ _ _=>(va (show Nm ["_law_x","_law_one","_law_kind"] _ by show _=_;kernel_rfl) 0)) (ga jG.nd kZ 4) (by kernel_rfl) (by intro _;rfl)) (Z5 (Z4 jG.nd kZ 5 (Z0 TK (cV (va aX 0) (Zb aj)))) (Z5 (Zf (PW.pt (@bW _ _ _ _ _ _ _ (aM bJ (va aX 5) aj (bF _)) (@cE _ _ _ _ (Zc j0 (Z2 aB z_len PySem.boot_len (Z1 (Zg (va aX 1)) ao)) (Zg (va aX 1)))))) (Z5 (Z4 jG.nd kZ 6 (Zm bg (@bf _ _ _ _ (Z1 (Zn cJ (Zn fL aj (Z2 aB z_len PySem.boot_len (Z1 (Zg (va aX 1)) ao))) aj) (Z1 (Zn bu aj (Z2 aB z_len PySem.boot_len (Z1 (Zg (va aX 1)) ao))) ao))) (Zg (va aX 1)))) (Z5 (Zp (Z7 PySem.F.slot_list_append PySem.F.type_list_append bG (Zg (va aX 1)) (Zb (va aX 6)))) (Z5 (@lY _ _ _ _ _ _ _ _ _ (oV hr) (Zg (va aX 1)) (va aX 6) (Zk (Z1 (va aX 3) (Z1 (Z6 eA z_list PyProof.Rows.boot_list (Zb (va aX 2))) (Z1 (Z6 eA z_list PyProof.Rows.boot_list (Z1 (Zg (va aX 1)) ao)) ao)))) (by rfl)) (Zd (Zq (Zk (Z1 az (Zb (va aX 6)))))))))) (Z5 (Zf (PW.pt (@bW _ _ _ _ _ _ _ (aM j0 (va aX 5) aj (bF _)) (@cE _ _ _ _ (Zc iX (Z2 aB z_len PySem.boot_len (Zb (va aX 4))) aj)))) (Zd (Zq (Zk (Z1 az (Z1 (Zm bg (va aX 4) (Z0 TK (Z1 (va aX 0) (Z1 (Z2 aB z_len PySem.boot_len (Zb (va aX 4))) ao)))) ao)))))) (Zd (Zq (Z0 NO (Z1 (va aX 0) (Z1 (va aX 1) (Zb (va aX 3))))))))))),?_⟩
 try dsimp only[bU]
 try dsimp only[bU]
 obtain⟨pvs,har,rar⟩:=ai.aa
 have lp:=rar.length
 rw[List.length_map]at lp
 have hpl:=ai.pl
 have kdp2:(dz kk).dep<=150:=Nat.le_trans (ic kk) (by omega)
 refine kq ?_
 intro N1 N2 N3 N4 c1 c2 c3 c4
 fail "R"
 refine iI (e:=ny) (φ:=fun p=>if dz p.2=dz kk then [.s p.1]else []) (fun σ=>∃x y,σ=[x,y,some vk]) har rar (by omega) (fun p=>by split<;>simp) ⟨_,_,rfl⟩ ?_ ?_
 ·rintro p hp x _ H6 N s6 ⟨_,_,rfl⟩ rx kN
  obtain⟨xa,x1,x2,rfl,xsq,r1,r2⟩:=(show Rp K H6 (.t [.s p.1,dz p.2]) x from rx).t2
  obtain rfl:=r1.aF
  have hdq:(dz p.2).dep<=150:=Nat.le_trans (ic _) (by have:=(ai.pk p hp).2;omega)
  have rk6:=rk.same s6
  fail "R"
  refine ck (fun c=>?_) (fun c=>?_)
  ·fail "R"
   exact kN _ _ _ ⟨⟨_,_,rfl⟩,aI.refl _,by rw[if_pos (of_decide_eq_true c)];exact .one .s⟩
  ·exact kN _ _ _ ⟨⟨_,_,rfl⟩,aI.refl _,by rw[if_neg (fun z=>c (decide_eq_true z))];exact .nil⟩
 intro ls H1 ws s1 hls h1 r1
 have lw:ws.length<=60:=by
  rw[r1.length]
  exact Nat.le_trans (qw (fun p=>by split<;>simp) _) hpl
 have hws:∀v∈ws,∃y,v=.str y:=by
  intro v hv
  obtain⟨i,hi⟩:=List.getElem?_of_mem hv
  obtain⟨t,ht,rt⟩:=r1.get' hi
  obtain⟨p,hp,hm⟩:=List.mem_flatMap.mp (List.mem_of_getElem? ht)
  split at hm
  ·rw[List.mem_singleton.mp hm]at rt;exact⟨_,rt.aF⟩
  ·cases hm
 have sc1:=sc.same s1
 have ai1:=ai.Ae (sc.vN.same s1)
 have rk1:=rk.same s1
 have nls:ls≠fe:=aY sc.ff hls
 have hf1:=sc1.ff
 fail "R"
 intro fm H2 fm0 fm1 x2
 have f2:cP [S.lg,S.la] fe H H2:=(sc.vN.same s1).ext x2
 have sc2:=sc1.ext x2
 have rk2:=rk.kt f2.kt
 have h2s:=x2.1 _ _ nls h1
 have hf2:=sc2.ff
 have rest2:N4 [some (.ref fe),some (.ref d),some (.ref ar),some vk,some (.ref ls),some (.int fm),none] H2:=by
  have ok3:kk.ok ((kn kl).take kl.length):=by rw[List.take_of_length_le (by unfold kn;rw[List.length_map];exact Nat.le_refl _)];exact ok
  have k4:kl.length<4:=by have:=sc.k3;omega
  have kd1:kk.dep<=100:=by omega
  have hle:=Nat.le_refl kl.length
  fail "R"
  intro v H3 tm x3 r3 tk d3 _
  exact k v H3 tm gs (f2.ext x3) (sc2.ext x3) r3 tk (by have:=sc.k3;omega)
 have rest:N3 [some (.ref fe),some (.ref d),some (.ref ar),some vk,some (.ref ls),some (.int fm),none] H2:=by
  clear c4
  fail "R"
  refine ck (fun c=>?_) (fun c=>?_)
  ·fail "R"
   refine ck (fun c2=>?_) (fun c2=>?_)
   ·have c2':(0:Int)<(ws.length:Int):=of_decide_eq_true c2
    have ll2:(ws.length:Int)<1073741824:=by omega
    fail "R"
    intro r5 H5 r50 r51 x5
    have h5s:=x5.1 _ _ nls h2s
    obtain⟨v5,hv5,hm5⟩:=iQ (xs:=ws) r50 r51
    obtain⟨y5,rfl⟩:=hws v5 hm5
    fail "R"
    intro p6 hp6
    have s6:=ae hp6 (.tup [.str "name",.str y5])
    refine k _ _ (.mk (.name y5) []) gs ((f2.ext x5).same s6) ((sc2.ext x5).same s6) (by rw[cZ];exact Rp.t (bx.of af) (.cons .s (.one .s))) (.mk rfl (Nat.zero_le _) (fun k hk=>nomatch hk)) (Nat.zero_le _)
   ·fail "R"
    exact rest2
  ·fail "R"
   exact rest2
 clear c3 c4
 have hg1:=sc2.get (xM S)
 have hg2:=sc2.get (A2 S)
 have hlg:=sc2.lg
 have hmo:=sc2.mo
 have hmm:=sc2.mm
 fail "R"
 refine ck (fun c=>?_) (fun c=>?_)
 ·fail "R"
  refine ck (fun c2=>?_) (fun c2=>?_)
  ·have c3:((gs.map V.int).length:Int)<S.mo:=of_decide_eq_true c2
   rw[List.length_map]at c3
   fail "R"
   intro lq hlq
   have hat:∃n:Int,jC [V.int (7*((gs.map V.int).length:Int)+3),.int (99 - ((gs.map V.int).length:Int))] S.tn=some (.int n)/\0<=n/\n<1000:=by
    have:=List.length_map (f:=V.int) (as:=gs)
    rcases sc2.tn with e|e
    ·rw[e];exact⟨_,cF (j:=0) rfl,by omega,by omega⟩
    ·rw[e];exact⟨_,cF (j:=1) rfl,by omega,by omega⟩
   obtain⟨n,hat,hn0,hn1⟩:=hat
   have s5:=ae hlq (.lst [.int (7*((gs.map V.int).length:Int)+3),.int (99 - ((gs.map V.int).length:Int))])
   have h5:upd H2 lq (.lst [.int (7*((gs.map V.int).length:Int)+3),.int (99 - ((gs.map V.int).length:Int))]) lq=some (.lst [.int (7*((gs.map V.int).length:Int)+3),.int (99 - ((gs.map V.int).length:Int))]):=af
   generalize upd H2 lq (.lst [.int (7*((gs.map V.int).length:Int)+3),.int (99 - ((gs.map V.int).length:Int))])=H5 at s5 h5⊢
   have sc5:=sc2.same s5
   have f5:=f2.same s5
   have hg5:=sc5.get (xM S)
   have ht5:=sc5.get (A3 S)
   have hlg5:=sc5.lg
   have lgs:(gs.map V.int).length<sizeLine:=aZ (by rw[List.length_map];omega)
   obtain⟨n0,n1,n2,n3,n4,n5,n6⟩:=sc5.nf
   have f6:cP [S.lg,S.la] fe H5 (upd H5 S.lg (.lst (gs.map V.int++[.int n]))):=sc5.vN.upd (.head _) n5 hlg5
   obtain⟨kvs,hla,hlk⟩:=sc5.la
   have ngla:S.la≠S.lg:=gj hla hlg5 (fun z=>nomatch z)
   have hla6:upd H5 S.lg (.lst (gs.map V.int++[.int n])) S.la=some (.dK kvs):=by rw[ay ngla];exact hla
   have fM:bV K (upd H5 S.lg (.lst (gs.map V.int++[.int n]))) fe d S xs kl dl (gs++[n]):=sc5.go f6 (by rw[List.map_append];exact af) ⟨kvs,hla6,by rw[List.length_append];omega⟩ (by rw[List.length_append];show((gs.length+1:Nat):Int)<=_;omega)
   have a6:=(ai.Ae f5).Ae f6
   have rk6:=(rk2.same s5).kt f6.kt
   obtain⟨pv6,har6,_⟩:=a6.aa
   have hl6:cy K (upd H5 S.lg (.lst (gs.map V.int++[.int n]))) ar pv6\/bx K (upd H5 S.lg (.lst (gs.map V.int++[.int n]))) ar pv6:=.inl (cy.of har6)
   have f56:=f5.trans f6
   fail "R"
   generalize upd H5 S.lg (.lst (gs.map V.int++[.int n]))=H6 at f6 hla6 fM a6 rk6 har6 hl6 f56⊢
   intro l7 hl7
   have s7:=ae hl7 (.lst pv6)
   generalize upd H6 l7 (.lst pv6)=H7 at s7⊢
   have sc7:=fM.same s7
   have hd7:=sc7.get (tK S)
   obtain⟨dvs,hdv,_⟩:=sc7.ld
   have hl7':cy K H7 S.ld dvs\/bx K H7 S.ld dvs:=.inl (cy.of hdv)
   fail "R"
   intro l8 hl8
   have s8:=ae hl8 (.lst dvs)
   generalize upd H7 l8 (.lst dvs)=H8 at s8⊢
   have sc8:=sc7.same s8
   fail "R"
   intro l9 hl9
   have s9:=ae hl9 (.tup [vk,.ref l7,.ref l8])
   generalize upd H8 l9 (.tup [vk,.ref l7,.ref l8])=H9 at s9⊢
   have sc9:=sc8.same s9
   have ha9:=sc9.get (zq S)
   have hla9:=s9 _ _ (s8 _ _ (s7 _ _ hla6))
   have hgl:gs.length+1<=5:=by omega
   have pp:=mX.k (k:=(Sum.inl n:Key)) (v:=.ref l9) hla9 (aZ (by omega))
   have f9:=((f56.same s7).same s8).same s9
   have f10:=sc9.vN.xH (o:=.dK (putK kvs (Sum.inl n) (.ref l9))) (.tail _ (.head _)) n6 hla9
   have pl:=xP (kvs:=kvs) (k:=Sum.inl n) (v:=.ref l9)
   have ngl9:S.lg≠S.la:=ngla.symm
   have sc10:bV K (upd H9 S.la (.dK (putK kvs (Sum.inl n) (.ref l9)))) fe d S xs kl dl (gs++[n]):=sc9.go f10 (by rw[ay ngl9];exact sc9.lg) ⟨_,af,by rw[List.length_append];show _<=gs.length+1;omega⟩ sc9.mm
   have f11:=f9.trans f10
   fail "R"
   generalize upd H9 S.la (.dK (putK kvs (Sum.inl n) (.ref l9)))=H10 at pp f10 sc10 f11⊢
   intro l11 hl11
   have s11:=ae hl11 (.tup [.str "gap",.int n])
   exact k _ _ (.mk (.gap n) []) (gs++[n]) (f11.same s11) (sc10.same s11) (by rw[cZ];exact Rp.new (K:=K) hl11 (.cons .s (.one .i))) (.mk rfl (Nat.zero_le _) (fun k hk=>nomatch hk) ⟨hn0,hn1⟩) (Nat.zero_le _)
  ·fail "R"
   exact rest
 ·fail "R"
  exact rest
end
end G03
namespace L2
open PySem
theorem xQ{X:Cx}{pos:Pos}{k1 k2 k3 k4 k5 k6 v1 v2 v3 v4 v5 v6:Expr}{t1 t2 t3 t4 t5 t6 s1 s2 s3 s4 s5 s6:TE}(a1:PE X k1 t1)(b1:PE X v1 s1)(a2:PE X k2 t2)(b2:PE X v2 s2)(a3:PE X k3 t3)(b3:PE X v3 s3)(a4:PE X k4 t4)(b4:PE X v4 s4)(a5:PE X k5 t5)(b5:PE X v5 s5)(a6:PE X k6 t6)(b6:PE X v6 s6) :
  PE X (.Dict [some k1,some k2,some k3,some k4,some k5,some k6] [v1,v2,v3,v4,v5,v6] pos) (Ab [(t1,s1),(t2,s2),(t3,s3),(t4,s4),(t5,s5),(t6,s6)]) :=
 yN (iB a1 b1 (iB a2 b2 (iB a3 b3 (iB a4 b4 (iB a5 b5 (iB a6 b6 yM)))))) rfl rfl (List.cons_ne_nil _ _) (by show 6<=15;decide)
end L2
namespace G03
open PySem L2
noncomputable def uH(K:PySem.W.Frag):Sp:=fun vs H Q _=>∃(f:Addr) (mo:Int),vs=[.ref f,.int mo]/\cH H f/\0<=mo/\mo<=5 /\
 ∀(d:Addr) (H':Hp) (S:i8) (xs:List Str) (kl:Kl),Ext f H H'->S.mo=mo->bV K H' f d S xs kl [] []->H S.lg=none->H S.la=none->H S.ld=none->Q (.ref d) H'
noncomputable def fM(kd ld ln lg la:Addr)(mo:Int):List (Key×V):=[(.inr "kinds",.ref kd),(.inr "defs",.ref ld),(.inr "names",.ref ln),(.inr "gaps",.ref lg),(.inr "most",.int mo),(.inr "asked",.ref la)]
theorem A5(kd ld ln lg la:Addr)(mo:Int):eR [] (fM kd ld ln lg la mo)=fM kd ld ln lg la mo:=by kernel_rfl
theorem DB(kd ld ln lg la:Addr)(mo:Int)(v:V):putK (fM kd ld ln lg la mo) (ky "turn") v=fM kd ld ln lg la mo++[(ky "turn",v)]:=by kernel_rfl
theorem DC(kd ld ln lg la:Addr)(mo:Int)(v7 v:V):putK (fM kd ld ln lg la mo++[(ky "turn",v7)]) (ky "called") v=fM kd ld ln lg la mo++[(ky "turn",v7),(ky "called",v)]:=by kernel_rfl
theorem DE(kd ld ln lg la:Addr)(mo:Int)(v7 v8 v:V):putK (fM kd ld ln lg la mo++[(ky "turn",v7),(ky "called",v8)]) (ky "params") v=fM kd ld ln lg la mo++[(ky "turn",v7),(ky "called",v8),(ky "params",v)]:=by kernel_rfl
section
variable {P:Program}{w:World}{K:PySem.W.Frag}{mg:Str->Option Value}{base:Heap}{gT gN gK:Addr}{tfd nfd kfd:FuncData}
theorem bO:Nm ["_law_feed_here","_law_most_gaps","_law_names_here","_law_kinds_here","_law_scene_here"] (ak iF):=by decide +kernel
theorem jT:Lm ["_law_feed_here","_law_most_gaps","_law_names_here","_law_kinds_here","_law_scene_here"] (ak iF):=by decide +kernel
theorem iT:aN ["_law_feed_here","_law_most_gaps","_law_names_here","_law_kinds_here","_law_scene_here"] ["_law_feed_here","_law_most_gaps"] (ak iF):=⟨rfl,rfl,rfl,by decide +kernel,rfl,by decide +kernel,by decide +kernel⟩
theorem xR{f:Addr}{fd:FuncData}{j:Nat}(hj:2<=j)(F:fJ K "_law_scene" "_law_scene" iF f fd)(TK:bS P w K mg base "_law_take" 1 ["_law_feed_here","_law_many"] dD gT tfd)(NM:bS P w K mg base "_law_names" 2 ["_law_feed_here","_law_many"] uE gN nfd)(KI:bS P w K mg base "_law_kinds" j ["_law_feed_here","_law_names_here","_law_tags"] (uF K) gK kfd):bT P w K mg base fk (j+1) f fd ["_law_feed_here","_law_most_gaps"] (uH K):=by
 refine F.ok iT (fun vs H Q E h=>?_) (fun cdv A outer s H vs Q E hr h=>?_)
 ·obtain⟨_,_,rfl,_⟩:=h
  rfl
 obtain⟨fe,mo,rfl,hf,hm0,hm5,k⟩:=h
 refine⟨_,(Z5 (Z4 iT.nd jT 2 (Z0 NM (cV (va bO 0) (Zb aj)))) (Z5 (Z4 iT.nd jT 3 (Z0 KI (Z1 (va bO 0) (Z1 (cO fQ (va bO 2) dH (cf aj)) (Z1 (cO fQ (va bO 2) (cf aj) (cf aj)) ao))))) (Z5 (Z4 iT.nd jT 4 (@xQ _ _ _ _ _ _ _ _ _ _ _ _ _ _ _ _ _ _ _ _ _ _ _ _ _ _ az (va bO 3) az (bf ao) az (cO fQ (va bO 2) (cf aj) (cf aj)) az (bf ao) az (va bO 1) az wL)) (Z5 (@lY _ _ _ _ _ _ _ _ _ (oV hr) (va bO 4) az (Z0 TK (cV (va bO 0) (Zb aj))) (by rfl)) (Z5 (@lY _ _ _ _ _ _ _ _ _ (oV hr) (va bO 4) az (cO fQ (va bO 2) (cf aj) (cf aj)) (by rfl)) (Z5 (@lY _ _ _ _ _ _ _ _ _ (oV hr) (va bO 4) az (cO fQ (va bO 2) (cf aj) (cf aj)) (by rfl)) (Zd (bQ (va bO 4))))))))),?_⟩
 try dsimp only[bU]
 try dsimp only[bU]
 fail "R"
 intro ln0 H1 xs x1 hln0 hn1 lx lo un
 replace lx:xs.length=26:=lx
 have hf1:=x1.2
 have n0f:ln0≠fe:=aY hf hln0
 have lxm:(xs.map V.str).length=26:=by rw[List.length_map];exact lx
 have e1:cB (xs.map V.str) none (some 3)=(xs.take 3).map V.str:=by rw[show(some (3:Int))=some ((3:Nat):Int)from rfl,iJ,List.map_take]
 have e2:cB (xs.map V.str) (some 3) (some 12)=((xs.drop 3).take 9).map V.str:=by
  rw[show(some (3:Int))=some ((3:Nat):Int)from rfl,show(some (12:Int))=some ((12:Nat):Int)from rfl,kB _ _ _ (by omega) (by omega),List.map_take,List.map_drop]
 have e3:cB (xs.map V.str) (some 12) (some 18)=((xs.drop 12).take 6).map V.str:=by
  rw[show(some (12:Int))=some ((12:Nat):Int)from rfl,show(some (18:Int))=some ((18:Nat):Int)from rfl,kB _ _ _ (by omega) (by omega),List.map_take,List.map_drop]
 have e4:cB (xs.map V.str) (some 18) (some 21)=((xs.drop 18).take 3).map V.str:=by
  rw[show(some (18:Int))=some ((18:Nat):Int)from rfl,show(some (21:Int))=some ((21:Nat):Int)from rfl,kB _ _ _ (by omega) (by omega),List.map_take,List.map_drop]
 have e5:cB (xs.map V.str) (some 21) (some 24)=((xs.drop 21).take 3).map V.str:=by
  rw[show(some (21:Int))=some ((21:Nat):Int)from rfl,show(some (24:Int))=some ((24:Nat):Int)from rfl,kB _ _ _ (by omega) (by omega),List.map_take,List.map_drop]
 fail "R"
 intro l2 hl2
 rw[e1]
 have s2:=ae hl2 (.lst ((xs.take 3).map V.str))
 have h2:upd H1 l2 (.lst ((xs.take 3).map V.str)) l2=some (.lst ((xs.take 3).map V.str)):=af
 generalize upd H1 l2 (.lst ((xs.take 3).map V.str))=H2 at s2 h2⊢
 have hn2:=s2 _ _ hn1
 fail "R"
 intro l3 hl3
 rw[e2]
 have s3:=ae hl3 (.lst (((xs.drop 3).take 9).map V.str))
 have h3:upd H2 l3 (.lst (((xs.drop 3).take 9).map V.str)) l3=some (.lst (((xs.drop 3).take 9).map V.str)):=af
 have h32:=s3 _ _ h2
 generalize upd H2 l3 (.lst (((xs.drop 3).take 9).map V.str))=H3 at s3 h3 h32⊢
 have x3:Ext fe H H3:=(x1.same s2).same s3
 have hf3:=x3.2
 have l3a:(xs.take 3).length=3:=by rw[List.length_take];omega
 have l3b:((xs.drop 3).take 9).length=9:=by rw[List.length_take,List.length_drop];omega
 fail "R"
 intro v4 H4 kl x4 ok4 k34 r4
 have hn4:=x4.1 _ _ n0f (s3 _ _ hn2)
 have x04:=x3.trans x4
 fail "R"
 intro d hd
 have s5:=ae hd (.dK [])
 have h5:upd H4 d (.dK []) d=some (.dK []):=af
 generalize upd H4 d (.dK [])=H5 at s5 h5⊢
 have hn5:=s5 _ _ hn4
 have r5:=r4.same s5
 obtain⟨kd,kvs,rfl,ksq,rks⟩:=r4.aC
 fail "R"
 intro ld hld
 have s6:=ae hld (.lst [])
 have h6:upd H5 ld (.lst []) ld=some (.lst []):=af
 generalize upd H5 ld (.lst [])=H6 at s6 h6⊢
 have hn6:=s6 _ _ hn5
 fail "R"
 intro ln hln
 rw[e3]
 have s7:=ae hln (.lst (((xs.drop 12).take 6).map V.str))
 have h7:upd H6 ln (.lst (((xs.drop 12).take 6).map V.str)) ln=some (.lst (((xs.drop 12).take 6).map V.str)):=af
 generalize upd H6 ln (.lst (((xs.drop 12).take 6).map V.str))=H7 at s7 h7⊢
 fail "R"
 intro lg hlg
 have s8:=ae hlg (.lst [])
 have h8:upd H7 lg (.lst []) lg=some (.lst []):=af
 generalize upd H7 lg (.lst [])=H8 at s8 h8⊢
 fail "R"
 intro la hla
 have s9:=ae hla (.dK [])
 have h9:upd H8 la (.dK []) la=some (.dK []):=af
 have h9d:=s9 _ _ (s8 _ _ (s7 _ _ (s6 _ _ h5)))
 have h9ld:=s9 _ _ (s8 _ _ (s7 _ _ h6))
 have h9ln:=s9 _ _ (s8 _ _ h7)
 have h9lg:=s9 _ _ h8
 have h9n:=s9 _ _ (s8 _ _ (s7 _ _ hn6))
 have s49:aI H4 _:=(((s5.trans s6).trans s7).trans s8).trans s9
 have r9:=r4.same s49
 have nda:d≠la:=fun z=>by rw[←z]at hla;rw[s8 _ _ (s7 _ _ (s6 _ _ h5))]at hla;cases hla
 generalize upd H8 la (.dK [])=H9 at s9 h9 h9d h9ld h9ln h9lg h9n s49 r9⊢
 have x09:=x04.same s49
 have hf9:=x09.2
 have nl:∀{c:Addr}{us:List V},H9 c=some (.lst us)->c≠d:=fun e=>gj e h9d (fun z=>nomatch z)
 have ndf:d≠fe:=aY x04.2 hd
 have free:∀{c:Addr},H4 c=none->H c=none:=fun e=>Ext.free x04 e
 have nldf:ld≠fe:=aY ((x04.same s5).2) hld
 have nlnf:ln≠fe:=aY ((x04.same (s5.trans s6)).2) hln
 have nlgf:lg≠fe:=aY ((x04.same ((s5.trans s6).trans s7)).2) hlg
 have nlaf:la≠fe:=aY ((x04.same (((s5.trans s6).trans s7).trans s8)).2) hla
 have nlng:ln≠lg:=au h7 hlg
 have nldg:ld≠lg:=au (s7 _ _ h6) hlg
 fail "R"
 ·exact(show _=(fM kd ld ln lg la mo).map (fun kv=>(kV kv.1,kv.2))from rfl)
 refine⟨by show 6<=15;decide,?_⟩
 rw[A5]
 have f10:cP [d] fe H9 (upd H9 d (.dK (fM kd ld ln lg la mo))):=(cP.refl hf9).xH (.head _) ndf h9d
 have h10:upd H9 d (.dK (fM kd ld ln lg la mo)) d=some (.dK (fM kd ld ln lg la mo)):=af
 generalize upd H9 d (.dK (fM kd ld ln lg la mo))=H10 at f10 h10⊢
 have hf10:=f10.ff
 fail "R"
 intro tn H11 t0 t1 x11
 have f11:=f10.ext x11
 have h11:=x11.1 _ _ ndf h10
 have pp:=mX.k (k:=ky "turn") (v:=.int tn) h11 (aZ (by show 6<=1000;decide))
 rw[DB]at pp
 have f12:=f11.xH (o:=.dK (fM kd ld ln lg la mo++[(ky "turn",.int tn)])) (.head _) ndf h11
 have h12:upd H11 d (.dK (fM kd ld ln lg la mo++[(ky "turn",.int tn)])) d=some (.dK (fM kd ld ln lg la mo++[(ky "turn",.int tn)])):=af
 generalize upd H11 d (.dK (fM kd ld ln lg la mo++[(ky "turn",.int tn)]))=H12 at pp f12 h12
 have hn12:=f12.gy (nl h9n) n0f h9n
 fail "R"
 intro lc hlc
 rw[e4]
 have s13:=ae hlc (.lst (((xs.drop 18).take 3).map V.str))
 have h13:upd H12 lc (.lst (((xs.drop 18).take 3).map V.str)) lc=some (.lst (((xs.drop 18).take 3).map V.str)):=af
 have h13d:=s13 _ _ h12
 have f13:=f12.same s13
 generalize upd H12 lc (.lst (((xs.drop 18).take 3).map V.str))=H13 at s13 h13 h13d f13⊢
 have pq:=mX.k (k:=ky "called") (v:=.ref lc) h13d (aZ (by show 7<=1000;decide))
 rw[DC]at pq
 have f14:=f13.xH (o:=.dK (fM kd ld ln lg la mo++[(ky "turn",.int tn),(ky "called",.ref lc)])) (.head _) ndf h13d
 have h14:upd H13 d (.dK (fM kd ld ln lg la mo++[(ky "turn",.int tn),(ky "called",.ref lc)])) d=some (.dK (fM kd ld ln lg la mo++[(ky "turn",.int tn),(ky "called",.ref lc)])):=af
 have nlcd:lc≠d:=gj h13 h13d (fun z=>nomatch z)
 have h14c:upd H13 d (.dK (fM kd ld ln lg la mo++[(ky "turn",.int tn),(ky "called",.ref lc)])) lc=some (.lst (((xs.drop 18).take 3).map V.str)):=by rw[ay nlcd];exact h13
 generalize upd H13 d (.dK (fM kd ld ln lg la mo++[(ky "turn",.int tn),(ky "called",.ref lc)]))=H14 at pq f14 h14 h14c
 have hn14:=f14.gy (nl h9n) n0f h9n
 fail "R"
 intro lp hlp
 rw[e5]
 have s15:=ae hlp (.lst (((xs.drop 21).take 3).map V.str))
 have h15:upd H14 lp (.lst (((xs.drop 21).take 3).map V.str)) lp=some (.lst (((xs.drop 21).take 3).map V.str)):=af
 have h15d:=s15 _ _ h14
 have h15c:=s15 _ _ h14c
 have f15:=f14.same s15
 generalize upd H14 lp (.lst (((xs.drop 21).take 3).map V.str))=H15 at s15 h15 h15d h15c f15⊢
 have pr:=mX.k (k:=ky "params") (v:=.ref lp) h15d (aZ (by show 8<=1000;decide))
 rw[DE]at pr
 have f16:=f15.xH (o:=.dK (qN ⟨kd,ld,ln,lg,la,lc,lp,mo,tn,d,d⟩)) (.head _) ndf h15d
 have h16:upd H15 d (.dK (qN ⟨kd,ld,ln,lg,la,lc,lp,mo,tn,d,d⟩)) d=some (.dK (qN ⟨kd,ld,ln,lg,la,lc,lp,mo,tn,d,d⟩)):=af
 have h16c:upd H15 d (.dK (qN ⟨kd,ld,ln,lg,la,lc,lp,mo,tn,d,d⟩)) lc=some (.lst (((xs.drop 18).take 3).map V.str)):=by rw[ay nlcd];exact h15c
 have h16p:upd H15 d (.dK (qN ⟨kd,ld,ln,lg,la,lc,lp,mo,tn,d,d⟩)) lp=some (.lst (((xs.drop 21).take 3).map V.str)):=by rw[ay (gj h15 h15d (fun z=>nomatch z))];exact h15
 replace pr:mX H15 d (kV (ky "params")) (.ref lp) (upd H15 d (.dK (qN ⟨kd,ld,ln,lg,la,lc,lp,mo,tn,d,d⟩))):=pr
 generalize upd H15 d (.dK (qN ⟨kd,ld,ln,lg,la,lc,lp,mo,tn,d,d⟩))=H16 at pr f16 h16 h16c h16p
 fail "R"
 have g16:∀{c:Addr}{us:List V},c≠fe->H9 c=some (.lst us)->H16 c=some (.lst us):=fun n e=>f16.gy (nl e) n e
 have nlcf:lc≠fe:=aY f12.ff hlc
 have nlpf:lp≠fe:=aY f14.ff hlp
 have nlcg:lc≠lg:=(au (f12.gy (nl h9lg) nlgf h9lg) hlc).symm
 have nlpg:lp≠lg:=(au (f14.gy (nl h9lg) nlgf h9lg) hlp).symm
 have nlcl:lc≠ld:=(au (f12.gy (nl h9ld) nldf h9ld) hlc).symm
 have nlpl:lp≠ld:=(au (f14.gy (nl h9ld) nldf h9ld) hlp).symm
 refine k d H16 ⟨kd,ld,ln,lg,la,lc,lp,mo,tn,d,d⟩ xs kl ?_ rfl ⟨h16,r9.kt f16.kt,ok4,k34,lx,un,g16 nlnf h9ln,h16c,h16p,⟨[],g16 nldf h9ld,rfl⟩,⟨Nat.zero_le _,fun d h=>nomatch h⟩,g16 nlgf h9lg,⟨[],f16.gy nda.symm nlaf h9,Nat.le_refl _⟩,hm0,hm5,?_,f16.ff,⟨ndf,nlnf,nlcf,nlpf,nldf,nlgf,nlaf⟩,⟨nlng,nlcg,nlpg,nldg⟩,⟨(au h6 hln).symm,nlcl,nlpl⟩,nda⟩ (free (((s5.trans s6).trans s7).free hlg)) (free ((((s5.trans s6).trans s7).trans s8).free hla)) (free (s5.free hld))
 ·refine⟨fun b o n e=>?_,f16.ff⟩
  have e9:=x09.1 b o n e
  exact f16.gy (fun z=>by rw[z]at e;rw[free hd]at e;cases e) n e9
 ·show tn=0\/tn=1
  omega
end
end G03
namespace L2
open PySem PySem.Spec PyProof.Rows
section
variable {X:Cx}
theorem k7(K:PySem.W.Frag)(hK:X.K=K):fN X (.builtin "isinstance") (fun xs H Q=>∃x,xs=[x,.ty "str"]/\((∃p ys,x=.ref p/\bx K H p ys/\Q (.bl false) H)\/(∃z,x=.str z/\Q (.bl true) H)\/∃z,x=.int z/\Q (.bl false) H)):=by
 subst hK
 intro pins s σ H xs us Q I r h
 obtain⟨x,rfl,h⟩:=h
 obtain⟨u,w',rfl,r1,r2⟩:=vals2 r
 obtain rfl:w'=Value.type "str":=r2
 rcases h with⟨p,ys,rfl,hq,q⟩|⟨z,rfl,q⟩|⟨z,rfl,q⟩
 ·obtain rfl:u=Value.ref p:=r1
  obtain⟨its,rv,pl,hz⟩:=I.tuple hq
  obtain⟨o,ho,hc,n,hd⟩:=pl
  exact IsiPair.tuple_str ho hc ⟨.bl false,H,I.tok _,rfl,q⟩
 ·obtain⟨t,rfl⟩:=r1
  exact IsiPair.str_str ⟨.bl true,H,I.tok _,rfl,q⟩
 ·obtain⟨t,rfl⟩:=r1
  exact IsiPair.int_str ⟨.bl false,H,I.tok _,rfl,q⟩
end
section
variable {X:Cx}
theorem cT(K:PySem.W.Frag)(hK:X.K=K):fN X (.builtin "isinstance") (fun xs H Q=>∃x,xs=[x,.ty "tuple"]/\((∃p ys,x=.ref p/\bx K H p ys/\Q (.bl true) H)\/(∃z,x=.str z/\Q (.bl false) H)\/∃z,x=.int z/\Q (.bl false) H)):=by
 subst hK
 intro pins s σ H xs us Q I r h
 obtain⟨x,rfl,h⟩:=h
 obtain⟨u,w',rfl,r1,r2⟩:=vals2 r
 obtain rfl:w'=Value.type "tuple":=r2
 rcases h with⟨p,ys,rfl,hq,q⟩|⟨z,rfl,q⟩|⟨z,rfl,q⟩
 ·obtain rfl:u=Value.ref p:=r1
  obtain⟨its,rv,pl,hz⟩:=I.tuple hq
  obtain⟨o,ho,hc,n,hd⟩:=pl
  exact IsiPair.tuple_tuple ho hc ⟨.bl true,H,I,rfl,q⟩
 ·obtain⟨t,rfl⟩:=r1
  exact IsiPair.str_tuple ⟨.bl false,H,I.tok _,rfl,q⟩
 ·obtain⟨t,rfl⟩:=r1
  exact IsiPair.int_tuple ⟨.bl false,H,I.tok _,rfl,q⟩
end
section
variable {X:Cx}
theorem rW(hc:X.calm=true):fN X (.builtin "sum") (fun xs H Q=>∃(p:Addr) (ns:List Int),xs=[.ref p]/\cy X.K H p (ns.map V.int)/\Q (.int ns.sum) H):=by
 intro pins s σ H xs us Q I r h
 obtain⟨p,ns,rfl,hq,q⟩:=h
 obtain⟨u,rfl,ru⟩:=vals1 r
 cases ru
 obtain⟨its,rv,pl,hz⟩:=I.list hq
 have hi:IntsAre its ns:=intsAre_of rv
 obtain⟨xs,hxs⟩:=hi.allInts.items
 have hl:=pl.isList
 rw[hxs]at hl
 have hn:(numsOf (intItems xs).toList)=ns:=by rw[←hxs];exact hi.numsOf
 rw[nums_intItems]at hn
 refine sum_intListG (I.ok.hd hc) hl fun h' tk t' hk=>?_
 refine⟨.int _,H,I.kept hk,⟨_,rfl⟩,?_⟩
 rw[preSum_eq,List.take_of_length_le (by simp),hn]
 exact q
end
end L2
namespace G03
open PySem L2
@[irreducible] noncomputable def xS:Stmt:=(bI cA).getD 0 (.Pass ⟨0,0,0,0⟩)
@[irreducible] noncomputable def xT:Stmt:=(bI cA).getD 1 (.Pass ⟨0,0,0,0⟩)
@[irreducible] noncomputable def zx:List Expr:=match(bI cA).getD 0 (.Pass ⟨0,0,0,0⟩)with
 |.Assign _ (.Tuple es _ _) _=>es
 |_=>[]
@[irreducible] noncomputable def zy:List Expr:=match(bI cA).getD 1 (.Pass ⟨0,0,0,0⟩)with
 |.Return (some (.BinOp _ _ (.Tuple es _ _) _)) _=>es
 |_=>[]
@[irreducible] noncomputable def qK (i:Nat):Pos:=match(bI cA).getD 0 (.Pass ⟨0,0,0,0⟩),(bI cA).getD 1 (.Pass ⟨0,0,0,0⟩)with
 |.Assign [.Name _ a] (.Tuple _ _ b) c,.Return (some (.BinOp (.Name _ e) _ (.Tuple _ _ f) g)) h=>[a,b,c,e,f,g,h].getD i a
 |_,_=>⟨0,0,0,0⟩
@[irreducible] noncomputable def CF (i:Nat):Nat:=match(bI cA).getD 0 (.Pass ⟨0,0,0,0⟩),(bI cA).getD 1 (.Pass ⟨0,0,0,0⟩)with
 |.Assign [.Name _ _] (.Tuple _ a _) _,.Return (some (.BinOp (.Name _ _) _ (.Tuple _ b _) _)) _=>[a,b].getD i a
 |_,_=>0
noncomputable def wA:List Str:=["num","name","op","row","more","first","others","long","tag","match","if","let"]
noncomputable def wB:List Str:=["fold","call","gap"]
theorem zz:xS=.Assign [.Name "_law_some" (qK 0)] (.Tuple zx (CF 0) (qK 1)) (qK 2):=by unfold xS zx qK CF;kernel_rfl
theorem zA:xT=.Return (some (.BinOp (.Name "_law_some" (qK 3)) .Add (.Tuple zy (CF 1) (qK 4)) (qK 5))) (qK 6):=by unfold xT zy qK CF;kernel_rfl
theorem DF:strsOf zx=some wA:=by unfold zx;kernel_rfl
theorem DG:strsOf zy=some wB:=by unfold zy;kernel_rfl
theorem tN:bI cA=[xS,xT]:=by unfold xS xT;kernel_rfl
theorem Cm{X:Cx}(hn:X.N.Nodup)(hl:Lm X.N X.env.scope)(h7:X.N[0]?=some ("_law_some":Str))(hf:X.fn "_law_some"=true):PS X xS (qd (qV (rD wA)) (dW 0)):=by
 rw[zz]
 exact sa hn hl 0 (cQ (mh DF)) h7 rfl (.inl hf)
theorem Cn{X:Cx}(hv:Nm X.N X.env.scope)(h7:X.N[0]?=some ("_law_some":Str)):PS X xT (Aq (vh (zY X.K) (iN 0) (qV (rD wB)))):=by
 rw[zA]
 exact bQ (aJ yF (va hv 0 h7) (cQ (mh DG)))
noncomputable def ik:Sp:=fun vs H Q _=>vs=[]/\∀(p:Addr) (H':Hp),aI H H'->H' p=some (.tup ((wA++wB).map V.str))->Q (.ref p) H'
section
variable {P:Program}{w:World}{K:PySem.W.Frag}{mg:Str->Option Value}{base:Heap}{gW gS gE gN:Addr}{wfd sfd efd nfd:FuncData}
theorem tO:Nm ["_law_some"] (ak cA):=by decide +kernel
theorem tP:Lm ["_law_some"] (ak cA):=by decide +kernel
theorem nF:aN ["_law_some"] [] (ak cA):=⟨rfl,rfl,rfl,by decide +kernel,rfl,by decide +kernel,by decide +kernel⟩
theorem xU{f:Addr}{fd:FuncData}(F:fJ K "_law_words" "_law_words" cA f fd):bT P w K mg base fk 1 f fd [] ik:=by
 refine F.ok nF (fun vs H Q E h=>?_) (fun cdv A outer s H vs Q E hr h=>?_)
 ·obtain⟨rfl,_⟩:=h
  rfl
 obtain⟨rfl,k⟩:=h
 rw[tN]
 refine⟨_,(br (Cm nF.nd tP rfl rfl) (bR (Cn tO rfl))),?_⟩
 try dsimp only[bU]
 fail "R"
 intro p1 hp1
 have s1:=ae hp1 (.tup (wA.map V.str))
 have h1:upd H p1 (.tup (wA.map V.str)) p1=some (.tup (wA.map V.str)):=af
 generalize upd H p1 (.tup (wA.map V.str))=H1 at s1 h1⊢
 fail "R"
 intro p2 hp2
 have s2:=ae hp2 (.tup (wB.map V.str))
 have h2:upd H1 p2 (.tup (wB.map V.str)) p2=some (.tup (wB.map V.str)):=af
 have h12:=s2 _ _ h1
 generalize upd H1 p2 (.tup (wB.map V.str))=H2 at s2 h2 h12⊢
 have na:wA.map V.str≠[]:=fun z=>nomatch z
 fail "R"
 ·exact fun z=>nomatch z
 intro _ p3 hp3
 have s3:=ae hp3 (.tup (wA.map V.str++wB.map V.str))
 exact k p3 _ ((s1.trans s2).trans s3) (by rw[List.map_append];exact af)
end
inductive It|lf (t:T)|one (k:Tm)|many (ks:List Tm)|arms (as:List (Str×List Str)) (ks:List Tm)
noncomputable def xV:It->T
 |.lf t=>t
 |.one k=>enc k
 |.many ks=>.t (ks.map enc)
 |.arms as ks=>.t (List.zipWith fq as (ks.map enc))
noncomputable def iU:It->List Tm
 |.lf _=>[]
 |.one k=>[k]
 |.many ks=>ks
 |.arms _ ks=>ks
noncomputable def A6:T->Prop
 |.s _=>True
 |.i _=>True
 |_=>False
noncomputable def kF(fm:Str):It->Prop
 |.lf t=>A6 t
 |.one _=>True
 |.many _=>fm≠"match"
 |.arms as ks=>fm="match"/\as.length=ks.length
noncomputable def xW(g:Int->Int):Hd->Hd
 |.gap n=>.gap (g n)
 |h=>h
mutual
noncomputable def i4(g:Int->Int):Tm->Tm
 |.mk h ks=>.mk (xW g h) (xX g ks)
noncomputable def xX(g:Int->Int):List Tm->List Tm
 | []=>[]
 |k::r=>i4 g k::xX g r
end
theorem rX(g:Int->Int):∀ks:List Tm,xX g ks=ks.map (i4 g)
 | []=>by unfold xX;rfl
 |k::r=>by unfold xX;rw[rX g r];rfl
theorem nG(g:Int->Int)(h:Hd)(ks:List Tm):i4 g (.mk h ks)=.mk (xW g h) (ks.map (i4 g)):=by unfold i4;rw[rX]
noncomputable def itR(g:Int->Int):It->It
 |.lf t=>.lf t
 |.one k=>.one (i4 g k)
 |.many ks=>.many (ks.map (i4 g))
 |.arms as ks=>.arms as (ks.map (i4 g))
structure DH(h:Hd) (ks:List Tm) (its:List It):Prop where
 e:eT h (ks.map enc)=.t (.s (hdS h)::its.map xV)
 k:its.flatMap iU=ks
 ok:∀it∈its,kF (hdS h) it
 len:its.length<=5
 r:∀g:Int->Int,(∀n,h≠.gap n)->eT (xW g h) ((ks.map (i4 g)).map enc)=.t (.s (hdS h)::(its.map (itR g)).map xV)
theorem tQ{h:Hd}{ks:List Tm}(ar:cD h ks.length=true):∃its,DH h ks its:=by
 cases h
 case num x =>
  obtain rfl:ks=[]:=by simpa[cD]using ar
  exact⟨[.lf (.i x)],rfl,rfl,by simp[kF,A6],by simp,fun g _=>rfl⟩
 case name x =>
  obtain rfl:ks=[]:=by simpa[cD]using ar
  exact⟨[.lf (.s x)],rfl,rfl,by simp[kF,A6],by simp,fun g _=>rfl⟩
 case gap x =>
  obtain rfl:ks=[]:=by simpa[cD]using ar
  exact⟨[.lf (.i x)],rfl,rfl,by simp[kF,A6],by simp,fun g hg=>absurd rfl (hg _)⟩
 case op s =>
  obtain⟨a,b,rfl⟩:=l2 (show ks.length=2 by simpa[cD]using ar)
  exact⟨[.lf (.s s),.one a,.one b],rfl,rfl,by simp[kF,A6],by simp,fun g _=>rfl⟩
 case row=>exact⟨[.many ks],rfl,by simp[iU],fun it h=>by rw[List.mem_singleton.mp h];exact(by decide +kernel:("row":Str)≠"match"),by simp,fun g _=>rfl⟩
 case more =>
  obtain⟨a,b,rfl⟩:=l2 (show ks.length=2 by simpa[cD]using ar)
  exact⟨[.one a,.one b],rfl,rfl,by simp[kF],by simp,fun g _=>rfl⟩
 case first =>
  obtain⟨a,rfl⟩:=l1 (show ks.length=1 by simpa[cD]using ar)
  exact⟨[.one a],rfl,rfl,by simp[kF],by simp,fun g _=>rfl⟩
 case others =>
  obtain⟨a,rfl⟩:=l1 (show ks.length=1 by simpa[cD]using ar)
  exact⟨[.one a],rfl,rfl,by simp[kF],by simp,fun g _=>rfl⟩
 case long =>
  obtain⟨a,rfl⟩:=l1 (show ks.length=1 by simpa[cD]using ar)
  exact⟨[.one a],rfl,rfl,by simp[kF],by simp,fun g _=>rfl⟩
 case tag t=>exact⟨[.lf (.s t),.many ks],rfl,by simp[iU],fun it h=>by
  rcases List.mem_cons.mp h with rfl|h
  ·exact True.intro
  ·rw[List.mem_singleton.mp h];exact(by decide +kernel:("tag":Str)≠"match"),by simp,fun g _=>rfl⟩
 case call t=>exact⟨[.lf (.s t),.many ks],rfl,by simp[iU],fun it h=>by
  rcases List.mem_cons.mp h with rfl|h
  ·exact True.intro
  ·rw[List.mem_singleton.mp h];exact(by decide +kernel:("call":Str)≠"match"),by simp,fun g _=>rfl⟩
 case mat as =>
  cases ks with
  |nil=>simp[cD]at ar
  |cons k r =>
   have l:r.length=as.length:=by simpa[cD]using ar
   exact⟨[.one k,.arms as r],rfl,by simp[iU],fun it h=>by
    rcases List.mem_cons.mp h with rfl|h
    ·exact True.intro
    ·rw[List.mem_singleton.mp h];exact⟨rfl,l.symm⟩,by simp,fun g _=>rfl⟩
 case ife =>
  obtain⟨a,b,c,rfl⟩:=l3 (show ks.length=3 by simpa[cD]using ar)
  exact⟨[.one a,.one b,.one c],rfl,rfl,by simp[kF],by simp,fun g _=>rfl⟩
 case lt x =>
  obtain⟨a,b,rfl⟩:=l2 (show ks.length=2 by simpa[cD]using ar)
  exact⟨[.lf (.s x),.one a,.one b],rfl,rfl,by simp[kF,A6],by simp,fun g _=>rfl⟩
 case fold x y =>
  obtain⟨a,b,c,rfl⟩:=l3 (show ks.length=3 by simpa[cD]using ar)
  exact⟨[.one a,.lf (.s x),.lf (.s y),.one b,.one c],rfl,rfl,by simp[kF,A6],by simp,fun g _=>rfl⟩
theorem fW(xs:List V)(j:Nat)(hj:1<=j)(hx:1<=xs.length):¬(HT.eM xs.length 0 (some (j:Int))=0/\HT.eM xs.length xs.length none=xs.length):=fun z=>by
 have:=z.1
 rw[HT.jB]at this
 omega
theorem zB(h:Hd):hdS h∈wA++wB:=by cases h<;>(simp only[hdS];decide +kernel)
noncomputable def C9(K:PySem.W.Frag):List V->Hp->VK->Prop:=fun xs H Q=>∃x,xs=[x,.ty "tuple"]/\((∃p ys,x=.ref p/\bx K H p ys/\Q (.bl true) H)\/(∃z,x=.str z/\Q (.bl false) H)\/∃z,x=.int z/\Q (.bl false) H)
noncomputable def Dc(K:PySem.W.Frag):List V->Hp->VK->Prop:=fun xs H Q=>∃x,xs=[x,.ty "str"]/\((∃p ys,x=.ref p/\bx K H p ys/\Q (.bl false) H)\/(∃z,x=.str z/\Q (.bl true) H)\/∃z,x=.int z/\Q (.bl false) H)
noncomputable def Co(K:PySem.W.Frag)(i:Nat):TT:=tB (BL (C9 K) (iA (iN i) (iA (tC (.ty "tuple")) mQ)))
noncomputable def Dp(K:PySem.W.Frag)(i:Nat):TT:=wd (Co K i) (wd (ua (vh (zX fun i j=>.bl (decide (j<i))) (BL (fun xs H Q=>∃p ys,xs=[V.ref p]/\(cy K H p ys\/bx K H p ys)/\Q (.int ys.length) H) (iA (iN i) mQ)) (tC (.int 0))))
 (wd (tB (BL (Dc K) (iA (vh (sQ K) (iN i) (tC (.int 0))) (iA (tC (.ty "str")) mQ)))) (ua (vh (Cy K false) (vh (sQ K) (iN i) (tC (.int 0))) (wu ik [] E0 mQ)))))
noncomputable def Dq(K:PySem.W.Frag)(i:Nat):TT:=wd (Co K i) (ua (vh Dk (vh (sQ K) (iN 0) (tC (.int 0))) (tC (.str "match"))))
theorem Af(tm:Tm):∃r,enc tm=.t (.s (hdS tm.hd)::r):=kX tm
theorem A7{K:PySem.W.Frag}{i:Nat}{bo bm ba bl:TS}{D:Ends}{σ:St}{H:Hp}{va:Addr}{fm:Str}{rest:List V}{it:It}{v:V}(e0:σ[0]?=some (some (.ref va)))(ei:σ[i]?=some (some v))(sq:bx K H va (.str fm::rest))(r:Rp K H (xV it) v)(ok:kF fm it)
  (ko:∀k,it=.one k->∀H1,aI H H1->bo D σ H1) (km:∀as ks,it=.arms as ks->∀H1,aI H H1->bm D σ H1) (ka:∀ks,it=.many ks->∀H1,aI H H1->ba D σ H1) (kl:∀t,it=.lf t->∀H1,aI H H1->bl D σ H1) :
  u0 (Dp K i) bo (u0 (Dq K i) bm (u0 (Co K i) ba bl)) D σ H:=by
 have tup0:∀{H1:Hp}{a:Addr}{vs:List V}{C:Bool->Hp->Prop},v=.ref a->bx K H1 a vs->C true H1->Co K i σ H1 C:=fun e q c=>⟨_,ei,_,rfl,.inl ⟨_,_,e,q,_,rfl,c⟩⟩
 have a0:∀{x:V}{xs:List V},jC (x::xs) 0=some x:=fun{x xs}=>vF x xs
 have no1:∀{a:Addr}{vs:List V}{C:Bool->Hp->Prop},v=.ref a->bx K H a vs->(vs=[]\/∃b us q,vs=.ref b::q/\bx K H b us)->C false H->Dp K i σ H C:=by
  intro a vs C e q h c
  refine tup0 e q ?_
  refine pB rfl ?_
  refine⟨_,ei,a,vs,by rw[e],.inr q,_,_,rfl,rfl,_,rfl,?_⟩
  rcases h with rfl|⟨b,us,q2,rfl,qb⟩
  ·exact eF rfl c
  ·refine pB (decide_eq_true (by rw[List.length_cons];omega)) ?_
   exact⟨_,ei,_,_,_,_,e,rfl,q,a0,_,rfl,.inl ⟨_,_,rfl,qb,_,rfl,eF rfl c⟩⟩
 have no2:∀{a:Addr}{vs:List V}{C:Bool->Hp->Prop},v=.ref a->bx K H a vs->C (decide (V.str fm=V.str "match")) H->Dq K i σ H C:=by
  intro a vs C e q c
  refine tup0 e q ?_
  refine pB rfl ?_
  exact⟨_,e0,va,_,_,_,rfl,rfl,sq,a0,rfl,_,rfl,c⟩
 cases it with
 |lf t =>
  have l1:∀{H1:Hp}{C:Bool->Hp->Prop},C false H1->Co K i σ H1 C:=fun{H1 C} c=>by
   cases t with
   |s x=>obtain rfl:=(show Rp K H (.s x) v from r).aF;exact⟨_,ei,_,rfl,.inr (.inl ⟨_,rfl,_,rfl,c⟩)⟩
   |i x=>obtain rfl:=(show Rp K H (.i x) v from r).dB;exact⟨_,ei,_,rfl,.inr (.inr ⟨_,rfl,_,rfl,c⟩)⟩
   |n=>exact absurd ok id
   |t _=>exact absurd ok id
  exact l1 (eF rfl (eF rfl (l1 (eF rfl (eF rfl (l1 (eF rfl (kl t rfl H (aI.refl _)))))))))
 |one k =>
  obtain⟨q,e⟩:=Af k
  have r':Rp K H (.t (.s (hdS k.hd)::q)) v:=by rw[←e];exact r
  obtain⟨a,vs,rfl,asq,rs⟩:=r'.aC
  obtain⟨v1,us,rfl,r1,_⟩:=aO.inv (K:=K) (x:=.s (hdS k.hd)) rs
  obtain rfl:=r1.aF
  refine tup0 rfl asq ?_
  refine pB rfl ?_
  refine⟨_,ei,a,_,rfl,.inr asq,_,_,rfl,rfl,_,rfl,?_⟩
  refine pB (decide_eq_true (by rw[List.length_cons];omega)) ?_
  refine⟨_,ei,_,_,_,_,rfl,rfl,asq,a0,_,rfl,.inr (.inl ⟨_,rfl,_,rfl,?_⟩)⟩
  refine pB rfl ?_
  refine⟨_,ei,_,_,_,_,rfl,rfl,asq,a0,rfl,fun p H1 s1 h1=>?_⟩
  refine⟨p,_,rfl,.inr (bx.of h1),rfl,jF _,_,rfl,?_⟩
  rw[nA,decide_eq_true (zB k.hd)]
  exact pB rfl (ko k rfl H1 s1)
 |many ks =>
  obtain⟨a,vs,rfl,asq,rs⟩:=(show Rp K H (.t (ks.map enc)) v from r).aC
  have hv:vs=[]\/∃b us q,vs=.ref b::q/\bx K H b us:=by
   cases ks with
   |nil=>exact .inl rs.dh
   |cons k ks =>
    obtain⟨v1,us,rfl,r1,_⟩:=aO.inv (K:=K) (x:=enc k) rs
    obtain⟨q,e⟩:=Af k
    rw[e]at r1
    obtain⟨b,ws,rfl,bsq,_⟩:=r1.aC
    exact .inr ⟨b,ws,us,rfl,bsq⟩
  refine no1 rfl asq hv (eF rfl ?_)
  refine no2 rfl asq (eF (decide_eq_false fun z=>ok (by injection z)) ?_)
  exact tup0 rfl asq (pB rfl (ka ks rfl H (aI.refl _)))
 |arms as ks =>
  obtain⟨a,vs,rfl,asq,rs⟩:=(show Rp K H (.t (List.zipWith fq as (ks.map enc))) v from r).aC
  have hv:vs=[]\/∃b us q,vs=.ref b::q/\bx K H b us:=by
   match as,ks,rs with
   | [],_,rs=>exact .inl rs.dh
   |_::_,[],rs=>exact .inl rs.dh
   |a1::as,k::ks,rs =>
    obtain⟨v1,us,rfl,r1,_⟩:=aO.inv (K:=K) (x:=fq a1 (enc k)) rs
    obtain⟨b,ws,rfl,bsq,_⟩:=r1.aC
    exact .inr ⟨b,ws,us,rfl,bsq⟩
  refine no1 rfl asq hv (eF rfl ?_)
  refine no2 rfl asq (pB (decide_eq_true (by rw[ok.1])) ?_)
  exact km as ks rfl H (aI.refl _)
section
variable {P:Program}{w:World}{K:PySem.W.Frag}{mg:Str->Option Value}{base:Heap}{gW gS gE gN:Addr}{wfd sfd efd nfd:FuncData}
theorem k9:∀ks:List Tm,((ks.map fun k=>(k.size:Int)).sum)=(Tm.sizes ks:Int)
 | []=>rfl
 |k::r=>by rw[List.map_cons,List.sum_cons,k9 r,Tm.bM];omega
theorem jy:∀{as:List (Str×List Str)}{ks:List Tm},List.zipWith fq as (ks.map enc)=(as.zip ks).map fun p=>fq p.1 (enc p.2)
 | [],_=>rfl
 |_::_,[]=>rfl
 |a::as,k::ks=>by
  show fq a (enc k)::List.zipWith fq as (ks.map enc)=_
  rw[jy]
  rfl
theorem uI{as:List (Str×List Str)}:∀{ks:List Tm},as.length=ks.length->(as.zip ks).map (·.2)=ks:=fun{ks} h=>by
 rw[List.map_snd_zip (by omega)]
theorem uJ{its:List It}{i:Nat}{it:It}(e:its[i]?=some it):(its.take (i+1)).flatMap iU=(its.take i).flatMap iU++iU it:=by
 have hil:=(List.getElem?_eq_some_iff.mp e).1
 rw[List.take_succ_eq_append_getElem hil,(List.getElem?_eq_some_iff.mp e).2,List.flatMap_append]
 simp
theorem tR{its:List It}{ks:List Tm}{it:It}(h:its.flatMap iU=ks)(hi:it∈its){k:Tm}(hk:k∈iU it):k∈ks:=by
 rw[←h]
 exact List.mem_flatMap.mpr ⟨it,hi,hk⟩
noncomputable def qL(K:PySem.W.Frag)(n:Nat):Sp:=fun vs H Q _=>∃(v:V) (tm:Tm),vs=[v]/\Rp K H (enc tm) v/\Tok tm/\tm.depth<n/\∀H',aI H H'->Q (.int tm.size) H'
theorem b7:Nm ["_law_term_here","_law_found","_law_one"] (ak fF):=by decide +kernel
theorem iL:Lm ["_law_term_here","_law_found","_law_one"] (ak fF):=by decide +kernel
theorem gi:aN ["_law_term_here","_law_found","_law_one"] ["_law_term_here"] (ak fF):=⟨rfl,rfl,rfl,by decide +kernel,rfl,by decide +kernel,by decide +kernel⟩
theorem zC{f:Addr}{fd:FuncData}{n j:Nat}(hj:1<=j)(F:fJ K "_law_size" "_law_size" fF f fd)(WD:bS P w K mg base "_law_words" 1 [] ik gW wfd)(SZ:bS P w K mg base "_law_size" j ["_law_term_here"] (qL K n) gS sfd)(z_len:mg "len"=none)(z_tuple:mg "tuple"=none)(z_str:mg "str"=none)(z_sum:mg "sum"=none)(z_isinstance:mg "isinstance"=none):bT P w K mg base fk (j+1) f fd ["_law_term_here"] (qL K (n+1)):=by
 refine F.ok gi (fun vs H Q E h=>?_) (fun cdv A outer s H vs Q E hr h=>?_)
 ·obtain⟨_,_,rfl,_⟩:=h
  rfl
 obtain⟨v,⟨h,ks⟩,rfl,rv,tk,hd,k⟩:=h
 refine⟨_,(Z5 (sa gi.nd iL 1 aj) (Z5 (Zi (@bX _ _ _ _ (cO sO (va b7 0) (cf aj) dH)) (ga gi.nd iL 2) (Zd (@fj _ _ _ _ _ _ _ _ (PW.pt (@bW _ _ _ _ _ _ _ (@dQ _ _ _ (Z2 (cT K rfl) z_isinstance PyProof.Rows.boot_isinstance (Z1 (va b7 2) (Zb (cY (v:=.ty "tuple") (by show _=_;kernel_rfl) z_tuple (by decide +kernel) rfl)))) (by intro _;rfl)) (@bW _ _ _ _ _ _ _ (Zc iX (Z2 aB z_len PySem.boot_len (Zb (va b7 2))) aj) (@bW _ _ _ _ _ _ _ (@dQ _ _ _ (Z2 (k7 K rfl) z_isinstance PyProof.Rows.boot_isinstance (Z1 (Za aD (va b7 2)) (Zb (cY (v:=.ty "str") (by show _=_;kernel_rfl) z_str (by decide +kernel) rfl)))) (by intro _;rfl)) (@cE _ _ _ _ (@aM _ _ _ _ _ _ _ _ eN (Za aD (va b7 2)) (mR WD.ok (hr.mono (by omega)) (by show _=_;kernel_rfl) WD.at' WD.kp WD.bd .nil jm) (by with_unfolding_all rfl))))))) (Zd (Z4 gi.nd iL 1 (Zn cJ (va b7 1) (Z0 SZ (Zb (va b7 2)))))) (Zd (@fj _ _ _ _ _ _ _ _ (PW.pt (@bW _ _ _ _ _ _ _ (@dQ _ _ _ (Z2 (cT K rfl) z_isinstance PyProof.Rows.boot_isinstance (Z1 (va b7 2) (Zb (cY (v:=.ty "tuple") (by show _=_;kernel_rfl) z_tuple (by decide +kernel) rfl)))) (by intro _;rfl)) (@cE _ _ _ _ (Zc bJ (Za aD (va b7 0)) az)))) (Zd (Z4 gi.nd iL 1 (Zn cJ (va b7 1) (Z2 (rW rfl) z_sum PyProof.Rows.boot_sum (Z1 (Z8 (ak fF) ["_law_term_here","_law_found","_law_one"] ["_law_arm"] [] (bX (va b7 2)) (fun _ _ _ _=>(Z3 (i:=0) (show(["_law_arm"]:List Str).Nodup by decide +kernel))) (fun _ _ _ _=>(Z0 SZ (Z1 (Za (fg K rfl) (va (show Nm ["_law_arm"] _ by show _=_;kernel_rfl) 0)) ao)))) ao))))) (Zd (Zf (@dQ _ _ _ (Z2 (cT K rfl) z_isinstance PyProof.Rows.boot_isinstance (Z1 (va b7 2) (Zb (cY (v:=.ty "tuple") (by show _=_;kernel_rfl) z_tuple (by decide +kernel) rfl)))) (by intro _;rfl)) (Zd (Z4 gi.nd iL 1 (Zn cJ (va b7 1) (Z2 (rW rfl) z_sum PyProof.Rows.boot_sum (Z1 (Z8 (ak fF) ["_law_term_here","_law_found","_law_one"] ["_law_more"] [] (bX (va b7 2)) (fun _ _ _ _=>(Z3 (i:=0) (show(["_law_more"]:List Str).Nodup by decide +kernel))) (fun _ _ _ _=>(Z0 SZ (Zb (va (show Nm ["_law_more"] _ by show _=_;kernel_rfl) 0))))) ao)))))))))))) (Zd (bQ (va b7 1))))),?_⟩
 try dsimp only[bU]
 try dsimp only[bU]
 cases tk with
 |mk ar lk tks =>
 obtain⟨its,I⟩:=tQ ar
 rw[cZ,I.e]at rv
 obtain⟨va,vvs,rfl,vsq,rvs⟩:=rv.aC
 obtain⟨v1,us,rfl,r1,rus⟩:=aO.inv (K:=K) (x:=.s (hdS h)) rvs
 obtain rfl:=r1.aF
 have lus:=rus.length
 rw[List.length_map]at lus
 have lits:=I.len
 have e1:cB (.str (hdS h)::us) (some 1) none=us:=by rw[show(some (1:Int))=some ((1:Nat):Int)from rfl,pK];rfl
 fail "R"
 ·exact fW (V.str (hdS h)::us) 1 (Nat.le_refl _) (by rw[List.length_cons];omega)
 intro p1 hp1
 rw[e1]
 have s1:=ae hp1 (.tup us)
 have h1:=bx.of (K:=K) (show upd H p1 (.tup us) p1=some (.tup us)from af)
 generalize upd H p1 (.tup us)=H1 at s1 h1⊢
 fail "R"
 refine fP (K:=K) (xs:=us) (fun i σ H2=>(∃y z,σ=[some (.ref va),some (.int z),y]/\z=1+Tm.sizes ((its.take i).flatMap iU))/\aI H1 H2) ⟨⟨_,_,rfl,rfl⟩,aI.refl _⟩ ?_ ?_ ?_
 ·rintro i σ H2 hi ⟨_,s2⟩
  exact h1.same s2
 ·rintro i x σ H2 hx ⟨⟨_,z,rfl,hz⟩,s2⟩
  obtain⟨tt,ht,rt⟩:=rus.get' hx
  rw[List.getElem?_map]at ht
  obtain⟨it,hit,rfl⟩:=Option.map_eq_some_iff.mp ht
  have s02:=s1.trans s2
  have hmem:=List.mem_of_getElem? hit
  have hk:∀k∈iU it,Tok k/\k.depth<n:=fun k hk=>by
   have hm:=tR I.k hmem hk
   have:=Tm.iC (h:=h) hm
   exact⟨tks k hm,by omega⟩
  have hz1:Tm.sizes ((its.take (i+1)).flatMap iU)=Tm.sizes ((its.take i).flatMap iU)+Tm.sizes (iU it):=by rw[uJ hit,Tm.bj]
  refine A7 (K:=K) (i:=2) (it:=it) rfl rfl (vsq.same s02) (rt.same s02) (I.ok it hmem) ?_ ?_ ?_ ?_
  ·rintro k0 rfl H3 s3
   have rk:=(rt.same s02).same s3
   obtain⟨tk0,d0⟩:=hk k0 (.head _)
   have hz2:Tm.sizes (iU (.one k0))=k0.size:=by show Tm.sizes [k0]=_;rw[Tm.bM];rfl
   replace rk:Rp K H3 (enc k0) x:=rk
   fail "R"
   intro H4 s4
   fail "R"
   exact(s2.trans s3).trans s4
  ·rintro as ks0 rfl H3 s3
   obtain⟨xa,xvs,rfl,xsq,rxs⟩:=(show Rp K H3 (.t (List.zipWith fq as (ks0.map enc))) x from(rt.same s02).same s3).aC
   rw[jy]at rxs
   have l0:(as.zip ks0).length<=900:=by
    have h9:ks0.length<=ks.length:=by
     rw[←I.k]
     exact List.Sublist.length_le (List.sublist_flatten_of_mem (List.mem_map_of_mem hmem))
    rw[List.length_zip];omega
   fail "R"
   refine dZ (e:=fun p:(Str×List Str)×Tm=>fq p.1 (enc p.2)) (φ:=fun p=>[.i (p.2.size:Int)]) (fun σ=>∃y,σ=[y]) xsq rxs l0 (fun _=>Nat.le_refl _) ⟨_,rfl⟩ ?_ ?_
   ·rintro p hp y _ H6 N s6 ⟨_,rfl⟩ ry kN
    obtain⟨ya,y1,y2,y3,rfl,ysq,q1,q2,q3⟩:=(show Rp K H6 (.t [.s p.1.1,.t (p.1.2.map .s),enc p.2]) y from ry).t3
    obtain⟨tk6,d6⟩:=hk p.2 (List.of_mem_zip (show(p.1,p.2)∈as.zip ks0 from hp)).2
    fail "R"
    intro H7 s7
    exact kN _ _ _ ⟨⟨_,rfl⟩,s7,.one .i⟩
   intro l H4 ws s4 hl h4 r4
   have e9:((as.zip ks0).map fun p=>T.i (p.2.size:Int))=(ks0.map fun k=>(k.size:Int)).map T.i:=by
    conv=>rhs;rw[←uI (I.ok _ hmem).2]
    rw[List.map_map,List.map_map];rfl
   rw[iy (fun p:(Str×List Str)×Tm=>T.i (p.2.size:Int)),e9]at r4
   obtain rfl:=r4.ku
   have hz2:Tm.sizes (iU (.arms as ks0))=Tm.sizes ks0:=rfl
   have hs4:=k9 ks0
   fail "R"
   exact(s2.trans s3).trans s4
  ·rintro ks0 rfl H3 s3
   obtain⟨xa,xvs,rfl,xsq,rxs⟩:=(show Rp K H3 (.t (ks0.map enc)) x from(rt.same s02).same s3).aC
   have l0:ks0.length<=900:=by
    have h9:ks0.length<=ks.length:=by
     rw[←I.k]
     exact List.Sublist.length_le (List.sublist_flatten_of_mem (List.mem_map_of_mem hmem))
    omega
   fail "R"
   refine dZ (e:=enc) (φ:=fun p=>[.i (p.size:Int)]) (fun σ=>∃y,σ=[y]) xsq rxs l0 (fun _=>Nat.le_refl _) ⟨_,rfl⟩ ?_ ?_
   ·rintro p hp y _ H6 N s6 ⟨_,rfl⟩ ry kN
    obtain⟨tk6,d6⟩:=hk p hp
    fail "R"
    intro H7 s7
    exact kN _ _ _ ⟨⟨_,rfl⟩,s7,.one .i⟩
   intro l H4 ws s4 hl h4 r4
   have e9:(ks0.map fun p=>T.i (p.size:Int))=(ks0.map fun k=>(k.size:Int)).map T.i:=by rw[List.map_map];rfl
   rw[iy (fun p:Tm=>T.i (p.size:Int)),e9]at r4
   obtain rfl:=r4.ku
   have hz2:Tm.sizes (iU (.many ks0))=Tm.sizes ks0:=rfl
   have hs4:=k9 ks0
   fail "R"
   exact(s2.trans s3).trans s4
  ·rintro t rfl H3 s3
   have hz2:Tm.sizes (iU (.lf t))=0:=rfl
   fail "R"
   exact s2.trans s3
 ·rintro σ H2 ⟨⟨_,z,rfl,hz⟩,s2⟩
  rw[lus,List.take_length,I.k]at hz
  have ez:z=((Tm.mk h ks).size:Int):=by rw[Tm.eB];omega
  fail "R"
  rw[ez]
  exact k H2 (s1.trans s2)
end
end G03
namespace G03
open PySem L2
noncomputable def nH(K:PySem.W.Frag):Sp:=fun vs H Q _=>∃(v:V) (tm:Tm),vs=[v]/\Rp K H (enc tm) v/\Wf tm/\tm.size<=900 /\
 ∀(p:Addr) (H':Hp) (ws:List V),aI H H'->H p=none->H' p=some (.lst ws)->aO K H' (tm.ks.map enc) ws->Q (.ref p) H'
theorem gz(xs:List V)(j:Nat):cB xs (some (j:Int)) none=xs.drop j:=by
 unfold cB
 rw[HT.jB,HT.mS]
 rcases Nat.le_total j xs.length with h|h
 ·rw[Nat.min_eq_left h,List.take_of_length_le (by rw[List.length_drop];omega)]
 ·rw[Nat.min_eq_right h,List.drop_of_length_le h,List.drop_of_length_le (Nat.le_refl _)];simp
section
variable {K:PySem.W.Frag}{Q:VK}{H0:Hp}
theorem rY{pa:Addr}{arms:List (Str×List Str)}{ks:List T}{vs:List V}(hl:arms.length=ks.length)(hS:bx K H0 pa vs)(hr:aO K H0 (List.zipWith fq arms ks) vs)(hlen:ks.length<=1000)
  (k:∀(p:Addr) (ws:List V),H0 p=none->aO K H0 ks ws->Q (.ref p) (upd H0 p (.lst ws))) :
  gY (vW K pa) (vc K 3 (jf (dW 0) (jf (dW 1) (jf (dW 2) wg)))) m8 (iN 2) Q [none,none,none] H0:=by
 have l:=hr.length
 rw[List.length_zipWith,hl,Nat.min_self]at l
 refine fB (xs:=vs) (fun i σ us H2=>(∃x y z,σ=[x,y,z])/\H2=H0/\aO K H0 (ks.take i) us) ⟨⟨none,none,none,rfl⟩,rfl,.nil⟩ ?_ (small (by omega)) ?_ ?_ ?_
 ·rintro i σ us H2 hi ⟨_,_,r⟩
  rw[r.length,List.length_take];omega
 ·rintro i σ us H2 hi ⟨_,rfl,_⟩
  exact hS
 ·rintro i x σ us H2 hx ⟨⟨x0,y0,z0,rfl⟩,rfl,r⟩
  obtain⟨y,hy,ry⟩:=hr.get' hx
  have hi:i<vs.length:=(List.getElem?_eq_some_iff.mp hx).1
  have hia:i<arms.length:=by omega
  have hik:i<ks.length:=by omega
  rw[List.getElem?_zipWith,List.getElem?_eq_getElem hia,List.getElem?_eq_getElem hik]at hy
  cases hy
  obtain⟨ra,rvs,rfl,sq,rr⟩:=(show Rp K _ (.t [_,_,_]) x from ry).aC
  obtain⟨t1,q1,rfl,h1,rr⟩:=rr.inv
  obtain⟨t2,q2,rfl,h2,rr⟩:=rr.inv
  obtain⟨t3,q3,rfl,h3,rr⟩:=rr.inv
  obtain rfl:=rr.dh
  refine⟨ra,_,rfl,sq,rfl,_,_,rfl,_,_,rfl,_,_,rfl,rfl,?_⟩
  refine⟨_,rfl,⟨_,_,_,rfl⟩,rfl,?_⟩
  rw[List.take_succ_eq_append_getElem hik]
  exact r.snoc h3
 ·rintro σ us H2 ⟨_,rfl,r⟩ p hp
  rw[List.take_of_length_le (by omega)]at r
  exact k p us hp r
end
section
variable {P:Program}{w:World}{K:PySem.W.Frag}{mg:Str->Option Value}{base:Heap}{gW gA:Addr}{wfd afd:FuncData}
theorem bP:Nm ["_law_term_here"] (ak gx):=by decide +kernel
theorem rZ:aN ["_law_term_here"] ["_law_term_here"] (ak gx):=⟨rfl,rfl,rfl,by decide +kernel,rfl,by decide +kernel,by decide +kernel⟩
theorem vO{f:Addr}{fd:FuncData}(F:fJ K "_law_within" "_law_within" gx f fd)(z_list:mg "list"=none)(z_int:mg "int"=none):bT P w K mg base fk 1 f fd ["_law_term_here"] (nH K):=by
 refine F.ok rZ (fun vs H Q E h=>?_) (fun cdv A outer s H vs Q E hr h=>?_)
 ·obtain⟨v,tm,rfl,_⟩:=h
  rfl
 obtain⟨v,tm,rfl,hv,wf,hlen,k⟩:=h
 refine⟨_,(Z5 (Zf (@aM _ _ _ _ _ _ _ _ eN (Za aD (va bP 0)) (Zk (Z1 az (cV az (Zb az)))) (by with_unfolding_all rfl)) (Zd (Zq (Z6 eA z_list PyProof.Rows.boot_list (Z1 (gm aD (va bP 0) (lD ji aj) (fun _ _=>rfl)) ao))))) (Z5 (Zf (Zc bJ (Za aD (va bP 0)) az) (Zd (Zq (Zn mU (@bf _ _ _ _ (Z1 (Za aD (va bP 0)) ao)) (Z8 (ak gx) ["_law_term_here"] ["_law_t","_law_names_here","_law_inner"] [] (@bX _ _ _ _ (Za aD (va bP 0))) (fun _ _ _ _=>(Ze (3) (Zj (Z3 (i:=0) (show(["_law_t","_law_names_here","_law_inner"]:List Str).Nodup by decide +kernel)) (Zj (Z3 (i:=1) (show(["_law_t","_law_names_here","_law_inner"]:List Str).Nodup by decide +kernel)) (aR (Z3 (i:=2) (show(["_law_t","_law_names_here","_law_inner"]:List Str).Nodup by decide +kernel)) bz))))) (fun _ _ _ _=>(va (show Nm ["_law_t","_law_names_here","_law_inner"] _ by show _=_;kernel_rfl) 2))))))) (Z5 (Zf (Zc bJ (Za aD (va bP 0)) az) (Zd (Zq (@bf _ _ _ _ (Z1 (Za aD (va bP 0)) (Z1 (Za aD (va bP 0)) (Z1 (Za aD (va bP 0)) ao))))))) (Z5 (Zf (@aM _ _ _ _ _ _ _ _ eN (Za aD (va bP 0)) (Zk (Z1 az (cV az (Zb az)))) (by with_unfolding_all rfl)) (Zd (bQ (bf ao)))) (Zd (Zq (Z6 eA z_list PyProof.Rows.boot_list (Z1 (@cO _ _ _ _ _ _ _ _ _ _ sO (va bP 0) (@cf _ _ _ (Zn cJ aj (Z6 oJ z_int PyProof.Rows.boot_int (Z1 (@qe _ _ _ _ _ _ _ _ eN (Za aD (va bP 0)) (Zk (cV az (Zb az))) (by with_unfolding_all rfl)) ao)))) dH) ao)))))))),?_⟩
 try dsimp only[bU]
 cases wf with
 |mk ar wk =>
 rename_i hd ks
 have wf:Wf (.mk hd ks):=.mk ar wk
 rw[cZ]at hv
 have hlen':ks.length<900:=Nat.lt_of_lt_of_le (xu (.mk hd ks)) hlen
 have nE:(ks.map enc).length=ks.length:=List.length_map _
 cases hd
 case row =>
  unfold eT at hv
  obtain⟨a,vs,rfl,hS,hr0⟩:=hv.aC
  obtain⟨v0,q0,rfl,e0,hr1⟩:=aO.inv hr0
  obtain⟨v1,q1,rfl,e1,hr2⟩:=aO.inv hr1
  obtain rfl:=e0.aF
  obtain rfl:=hr2.dh
  obtain⟨b,us,rfl,hSb,hrb⟩:=e1.aC
  refine⟨_,rfl,a,_,0,_,rfl,rfl,hS,rfl,(by show 3<=sizeLine;decide),fun p1 hp1=>⟨p1,_,rfl,.inr (bx.of af),rfl,rfl,_,rfl,pB (by decide +kernel) ?_⟩⟩
  have s1:=ae hp1 (.tup [.str "row",.str "tag",.str "call"])
  refine⟨_,rfl,_,rfl,a,_,-1,_,rfl,rfl,hS.same s1,rfl,b,_,rfl,.inr (hSb.same s1),fun l hl=>?_⟩
  exact k l _ us (s1.trans (ae hl _)) (s1.free hl) af (hrb.same (s1.trans (ae hl _)))
 case tag t =>
  unfold eT at hv
  obtain⟨a,vs,rfl,hS,hr0⟩:=hv.aC
  obtain⟨v0,q0,rfl,e0,hr1⟩:=aO.inv hr0
  obtain⟨v1,q1,rfl,e1,hr2⟩:=aO.inv hr1
  obtain⟨v2,q2,rfl,e2,hr3⟩:=aO.inv hr2
  obtain rfl:=e0.aF
  obtain rfl:=hr3.dh
  obtain⟨b,us,rfl,hSb,hrb⟩:=e2.aC
  refine⟨_,rfl,a,_,0,_,rfl,rfl,hS,rfl,(by show 3<=sizeLine;decide),fun p1 hp1=>⟨p1,_,rfl,.inr (bx.of af),rfl,rfl,_,rfl,pB (by decide +kernel) ?_⟩⟩
  have s1:=ae hp1 (.tup [.str "row",.str "tag",.str "call"])
  refine⟨_,rfl,_,rfl,a,_,-1,_,rfl,rfl,hS.same s1,rfl,b,_,rfl,.inr (hSb.same s1),fun l hl=>?_⟩
  exact k l _ us (s1.trans (ae hl _)) (s1.free hl) af (hrb.same (s1.trans (ae hl _)))
 case call f =>
  unfold eT at hv
  obtain⟨a,vs,rfl,hS,hr0⟩:=hv.aC
  obtain⟨v0,q0,rfl,e0,hr1⟩:=aO.inv hr0
  obtain⟨v1,q1,rfl,e1,hr2⟩:=aO.inv hr1
  obtain⟨v2,q2,rfl,e2,hr3⟩:=aO.inv hr2
  obtain rfl:=e0.aF
  obtain rfl:=hr3.dh
  obtain⟨b,us,rfl,hSb,hrb⟩:=e2.aC
  refine⟨_,rfl,a,_,0,_,rfl,rfl,hS,rfl,(by show 3<=sizeLine;decide),fun p1 hp1=>⟨p1,_,rfl,.inr (bx.of af),rfl,rfl,_,rfl,pB (by decide +kernel) ?_⟩⟩
  have s1:=ae hp1 (.tup [.str "row",.str "tag",.str "call"])
  refine⟨_,rfl,_,rfl,a,_,-1,_,rfl,rfl,hS.same s1,rfl,b,_,rfl,.inr (hSb.same s1),fun l hl=>?_⟩
  exact k l _ us (s1.trans (ae hl _)) (s1.free hl) af (hrb.same (s1.trans (ae hl _)))
 case mat arms =>
  have hk:ks.length=arms.length+1:=by simpa[cD]using ar
  match ks,hk with
  |k0::kr,hk =>
  have hkr:arms.length=kr.length:=by simpa using hk.symm
  unfold eT at hv
  obtain⟨a,vs,rfl,hS,hr0⟩:=hv.aC
  obtain⟨v0,q0,rfl,e0,hr1⟩:=aO.inv hr0
  obtain⟨v1,q1,rfl,e1,hr2⟩:=aO.inv hr1
  obtain⟨v2,q2,rfl,e2,hr3⟩:=aO.inv hr2
  obtain rfl:=e0.aF
  obtain rfl:=hr3.dh
  obtain⟨b,us,rfl,hSb,hrb⟩:=e2.aC
  refine⟨_,rfl,a,_,0,_,rfl,rfl,hS,rfl,(by show 3<=sizeLine;decide),fun p1 hp1=>⟨p1,_,rfl,.inr (bx.of af),rfl,rfl,_,rfl,eF (by decide +kernel) ?_⟩⟩
  have s1:=ae hp1 (.tup [.str "row",.str "tag",.str "call"])
  refine⟨_,rfl,a,_,0,_,rfl,rfl,hS.same s1,rfl,rfl,_,rfl,pB (by decide +kernel) ?_⟩
  refine⟨_,rfl,a,_,1,_,rfl,rfl,hS.same s1,rfl,(by show 1<=sizeLine;decide),fun p2 hp2=>?_⟩
  have s2:=s1.trans (ae hp2 (.lst [v1]))
  refine⟨_,rfl,a,_,2,_,rfl,rfl,hS.same s2,rfl,b,rfl,⟨_,hSb.same s2⟩,?_⟩
  refine rY (arms:=arms) (ks:=kr.map enc) (by rw[List.length_map];exact hkr) (hSb.same s2) (by exact hrb.same s2) (by rw[List.length_map];have:=hlen';simp at this;omega) fun p ws hp r4=>?_
  have z2:upd (upd (upd H p1 (.tup [.str "row",.str "tag",.str "call"])) p2 (.lst [v1])) p (.lst ws) p2=some (.lst [v1]):=(ae hp _) _ _ af
  have l4:=r4.length
  rw[List.length_map]at l4
  refine⟨p2,p,_,_,rfl,rfl,z2,af,small (by have:=hlen';simp at this;show 1+_<=1000;omega),fun p5 hp5=>?_⟩
  have s5:=s2.trans ((ae hp (.lst ws)).trans (ae hp5 (.lst ([v1]++ws))))
  refine k p5 _ _ s5 ((s2.trans (ae hp (.lst ws))).free hp5) af ?_
  exact .cons (e1.same s5) (r4.same ((ae hp _).trans (ae hp5 _)))
 case fold x y =>
  have hk:ks.length=3:=by simpa[cD]using ar
  match ks,hk with
  | [k0,k1,k2],hk =>
  unfold eT at hv
  obtain⟨a,vs,rfl,hS,hr0⟩:=hv.aC
  obtain⟨v0,q0,rfl,e0,hr1⟩:=aO.inv hr0
  obtain⟨v1,q1,rfl,e1,hr2⟩:=aO.inv hr1
  obtain⟨v2,q2,rfl,e2,hr3⟩:=aO.inv hr2
  obtain⟨v3,q3,rfl,e3,hr4⟩:=aO.inv hr3
  obtain⟨v4,q4,rfl,e4,hr5⟩:=aO.inv hr4
  obtain⟨v5,q5,rfl,e5,hr6⟩:=aO.inv hr5
  obtain rfl:=e0.aF
  obtain rfl:=hr6.dh
  refine⟨_,rfl,a,_,0,_,rfl,rfl,hS,rfl,(by show 3<=sizeLine;decide),fun p1 hp1=>⟨p1,_,rfl,.inr (bx.of af),rfl,rfl,_,rfl,eF (by decide +kernel) ?_⟩⟩
  have s1:=ae hp1 (.tup [.str "row",.str "tag",.str "call"])
  refine⟨_,rfl,a,_,0,_,rfl,rfl,hS.same s1,rfl,rfl,_,rfl,eF (by decide +kernel) ?_⟩
  refine⟨_,rfl,a,_,0,_,rfl,rfl,hS.same s1,rfl,rfl,_,rfl,pB (by decide +kernel) ?_⟩
  refine⟨_,rfl,a,_,1,_,rfl,rfl,hS.same s1,rfl,_,rfl,a,_,4,_,rfl,rfl,hS.same s1,rfl,_,rfl,a,_,5,_,rfl,rfl,hS.same s1,rfl,(by show 3<=sizeLine;decide),fun p2 hp2=>?_⟩
  have s2:=s1.trans (ae hp2 (.lst [v1,v4,v5]))
  exact k p2 _ _ s2 (s1.free hp2) af (.cons (e1.same s2) (.cons (e4.same s2) (.one (e5.same s2))))
 case num n =>
  have hk:ks.length=0:=by simpa[cD]using ar
  match ks,hk with
  | [],hk =>
  unfold eT at hv
  obtain⟨a,vs,rfl,hS,hr0⟩:=hv.aC
  obtain⟨v0,q0,rfl,e0,hr1⟩:=aO.inv hr0
  obtain⟨v1,q1,rfl,e1,hr2⟩:=aO.inv hr1
  obtain rfl:=e0.aF
  obtain rfl:=hr2.dh
  refine⟨_,rfl,a,_,0,_,rfl,rfl,hS,rfl,(by show 3<=sizeLine;decide),fun p1 hp1=>⟨p1,_,rfl,.inr (bx.of af),rfl,rfl,_,rfl,eF (by decide +kernel) ?_⟩⟩
  have s1:=ae hp1 (.tup [.str "row",.str "tag",.str "call"])
  refine⟨_,rfl,a,_,0,_,rfl,rfl,hS.same s1,rfl,rfl,_,rfl,eF (by decide +kernel) ?_⟩
  refine⟨_,rfl,a,_,0,_,rfl,rfl,hS.same s1,rfl,rfl,_,rfl,eF (by decide +kernel) ?_⟩
  refine⟨_,rfl,a,_,0,_,rfl,rfl,(hS.same s1),rfl,(by show 3<=sizeLine;decide),fun p2 hp2=>⟨p2,_,rfl,.inr (bx.of af),rfl,rfl,_,rfl,pB (by decide +kernel) ?_⟩⟩
  have s2:=s1.trans (ae hp2 (.tup [.str "num",.str "name",.str "gap"]))
  refine⟨Nat.zero_le _,fun p3 hp3=>?_⟩
  exact k p3 _ _ (s2.trans (ae hp3 _)) (s2.free hp3) af .nil
 case name x =>
  have hk:ks.length=0:=by simpa[cD]using ar
  match ks,hk with
  | [],hk =>
  unfold eT at hv
  obtain⟨a,vs,rfl,hS,hr0⟩:=hv.aC
  obtain⟨v0,q0,rfl,e0,hr1⟩:=aO.inv hr0
  obtain⟨v1,q1,rfl,e1,hr2⟩:=aO.inv hr1
  obtain rfl:=e0.aF
  obtain rfl:=hr2.dh
  refine⟨_,rfl,a,_,0,_,rfl,rfl,hS,rfl,(by show 3<=sizeLine;decide),fun p1 hp1=>⟨p1,_,rfl,.inr (bx.of af),rfl,rfl,_,rfl,eF (by decide +kernel) ?_⟩⟩
  have s1:=ae hp1 (.tup [.str "row",.str "tag",.str "call"])
  refine⟨_,rfl,a,_,0,_,rfl,rfl,hS.same s1,rfl,rfl,_,rfl,eF (by decide +kernel) ?_⟩
  refine⟨_,rfl,a,_,0,_,rfl,rfl,hS.same s1,rfl,rfl,_,rfl,eF (by decide +kernel) ?_⟩
  refine⟨_,rfl,a,_,0,_,rfl,rfl,(hS.same s1),rfl,(by show 3<=sizeLine;decide),fun p2 hp2=>⟨p2,_,rfl,.inr (bx.of af),rfl,rfl,_,rfl,pB (by decide +kernel) ?_⟩⟩
  have s2:=s1.trans (ae hp2 (.tup [.str "num",.str "name",.str "gap"]))
  refine⟨Nat.zero_le _,fun p3 hp3=>?_⟩
  exact k p3 _ _ (s2.trans (ae hp3 _)) (s2.free hp3) af .nil
 case gap n =>
  have hk:ks.length=0:=by simpa[cD]using ar
  match ks,hk with
  | [],hk =>
  unfold eT at hv
  obtain⟨a,vs,rfl,hS,hr0⟩:=hv.aC
  obtain⟨v0,q0,rfl,e0,hr1⟩:=aO.inv hr0
  obtain⟨v1,q1,rfl,e1,hr2⟩:=aO.inv hr1
  obtain rfl:=e0.aF
  obtain rfl:=hr2.dh
  refine⟨_,rfl,a,_,0,_,rfl,rfl,hS,rfl,(by show 3<=sizeLine;decide),fun p1 hp1=>⟨p1,_,rfl,.inr (bx.of af),rfl,rfl,_,rfl,eF (by decide +kernel) ?_⟩⟩
  have s1:=ae hp1 (.tup [.str "row",.str "tag",.str "call"])
  refine⟨_,rfl,a,_,0,_,rfl,rfl,hS.same s1,rfl,rfl,_,rfl,eF (by decide +kernel) ?_⟩
  refine⟨_,rfl,a,_,0,_,rfl,rfl,hS.same s1,rfl,rfl,_,rfl,eF (by decide +kernel) ?_⟩
  refine⟨_,rfl,a,_,0,_,rfl,rfl,(hS.same s1),rfl,(by show 3<=sizeLine;decide),fun p2 hp2=>⟨p2,_,rfl,.inr (bx.of af),rfl,rfl,_,rfl,pB (by decide +kernel) ?_⟩⟩
  have s2:=s1.trans (ae hp2 (.tup [.str "num",.str "name",.str "gap"]))
  refine⟨Nat.zero_le _,fun p3 hp3=>?_⟩
  exact k p3 _ _ (s2.trans (ae hp3 _)) (s2.free hp3) af .nil
 case op s =>
  have hk:ks.length=2:=by simpa[cD]using ar
  match ks,hk with
  | [k0,k1],hk =>
  unfold eT at hv
  obtain⟨a,vs,rfl,hS,hr0⟩:=hv.aC
  obtain⟨v0,q0,rfl,e0,hr1⟩:=aO.inv hr0
  obtain⟨v1,q1,rfl,e1,hr2⟩:=aO.inv hr1
  obtain⟨v2,q2,rfl,e2,hr3⟩:=aO.inv hr2
  obtain⟨v3,q3,rfl,e3,hr4⟩:=aO.inv hr3
  obtain rfl:=e0.aF
  obtain rfl:=hr4.dh
  refine⟨_,rfl,a,_,0,_,rfl,rfl,hS,rfl,(by show 3<=sizeLine;decide),fun p1 hp1=>⟨p1,_,rfl,.inr (bx.of af),rfl,rfl,_,rfl,eF (by decide +kernel) ?_⟩⟩
  have s1:=ae hp1 (.tup [.str "row",.str "tag",.str "call"])
  refine⟨_,rfl,a,_,0,_,rfl,rfl,hS.same s1,rfl,rfl,_,rfl,eF (by decide +kernel) ?_⟩
  refine⟨_,rfl,a,_,0,_,rfl,rfl,hS.same s1,rfl,rfl,_,rfl,eF (by decide +kernel) ?_⟩
  refine⟨_,rfl,a,_,0,_,rfl,rfl,(hS.same s1),rfl,(by show 3<=sizeLine;decide),fun p2 hp2=>⟨p2,_,rfl,.inr (bx.of af),rfl,rfl,_,rfl,eF (by decide +kernel) ?_⟩⟩
  have s2:=s1.trans (ae hp2 (.tup [.str "num",.str "name",.str "gap"]))
  refine⟨_,rfl,_,rfl,a,_,0,_,rfl,rfl,hS.same s2,rfl,(by show 2<=sizeLine;decide),fun p3 hp3=>⟨p3,_,rfl,.inr (bx.of af),rfl,rfl,.inr ⟨_,rfl,_,_,rfl,rfl,_,rfl,?_⟩⟩⟩
  have s3:=s2.trans (ae hp3 (.tup [.str "op",.str "let"]))
  refine⟨a,_,rfl,hS.same s3,fW _ 2 (by decide) (by simp),fun p4 hp4=>?_⟩
  have s4:=s3.trans (ae hp4 (.tup (cB [.str "op",v1,v2,v3] (some (2:Nat)) none)))
  refine⟨p4,_,rfl,.inr (bx.of af),fun l hl=>?_⟩
  refine k l _ _ (s4.trans (ae hl _)) (s4.free hl) af ?_
  have z:=aO.same (K:=K) (s4.trans (ae hl (.lst (cB [.str "op",v1,v2,v3] (some ((2:Nat):Int)) none)))) (.cons e2 (.cons e3 .nil))
  have cc:cB [.str "op",v1,v2,v3] (some ((2:Nat):Int)) none=[v2,v3]:=gz _ 2
  rw[cc]at z
  show aO K _ _ (cB [.str "op",v1,v2,v3] (some ((2:Nat):Int)) none)
  rw[cc]
  exact z
 case more =>
  have hk:ks.length=2:=by simpa[cD]using ar
  match ks,hk with
  | [k0,k1],hk =>
  unfold eT at hv
  obtain⟨a,vs,rfl,hS,hr0⟩:=hv.aC
  obtain⟨v0,q0,rfl,e0,hr1⟩:=aO.inv hr0
  obtain⟨v1,q1,rfl,e1,hr2⟩:=aO.inv hr1
  obtain⟨v2,q2,rfl,e2,hr3⟩:=aO.inv hr2
  obtain rfl:=e0.aF
  obtain rfl:=hr3.dh
  refine⟨_,rfl,a,_,0,_,rfl,rfl,hS,rfl,(by show 3<=sizeLine;decide),fun p1 hp1=>⟨p1,_,rfl,.inr (bx.of af),rfl,rfl,_,rfl,eF (by decide +kernel) ?_⟩⟩
  have s1:=ae hp1 (.tup [.str "row",.str "tag",.str "call"])
  refine⟨_,rfl,a,_,0,_,rfl,rfl,hS.same s1,rfl,rfl,_,rfl,eF (by decide +kernel) ?_⟩
  refine⟨_,rfl,a,_,0,_,rfl,rfl,hS.same s1,rfl,rfl,_,rfl,eF (by decide +kernel) ?_⟩
  refine⟨_,rfl,a,_,0,_,rfl,rfl,(hS.same s1),rfl,(by show 3<=sizeLine;decide),fun p2 hp2=>⟨p2,_,rfl,.inr (bx.of af),rfl,rfl,_,rfl,eF (by decide +kernel) ?_⟩⟩
  have s2:=s1.trans (ae hp2 (.tup [.str "num",.str "name",.str "gap"]))
  refine⟨_,rfl,_,rfl,a,_,0,_,rfl,rfl,hS.same s2,rfl,(by show 2<=sizeLine;decide),fun p3 hp3=>⟨p3,_,rfl,.inr (bx.of af),rfl,rfl,.inr ⟨_,rfl,_,_,rfl,rfl,_,rfl,?_⟩⟩⟩
  have s3:=s2.trans (ae hp3 (.tup [.str "op",.str "let"]))
  refine⟨a,_,rfl,hS.same s3,fW _ 1 (by decide) (by simp),fun p4 hp4=>?_⟩
  have s4:=s3.trans (ae hp4 (.tup (cB [.str "more",v1,v2] (some (1:Nat)) none)))
  refine⟨p4,_,rfl,.inr (bx.of af),fun l hl=>?_⟩
  refine k l _ _ (s4.trans (ae hl _)) (s4.free hl) af ?_
  have z:=aO.same (K:=K) (s4.trans (ae hl (.lst (cB [.str "more",v1,v2] (some ((1:Nat):Int)) none)))) (.cons e1 (.cons e2 .nil))
  have cc:cB [.str "more",v1,v2] (some ((1:Nat):Int)) none=[v1,v2]:=gz _ 1
  rw[cc]at z
  show aO K _ _ (cB [.str "more",v1,v2] (some ((1:Nat):Int)) none)
  rw[cc]
  exact z
 case first =>
  have hk:ks.length=1:=by simpa[cD]using ar
  match ks,hk with
  | [k0],hk =>
  unfold eT at hv
  obtain⟨a,vs,rfl,hS,hr0⟩:=hv.aC
  obtain⟨v0,q0,rfl,e0,hr1⟩:=aO.inv hr0
  obtain⟨v1,q1,rfl,e1,hr2⟩:=aO.inv hr1
  obtain rfl:=e0.aF
  obtain rfl:=hr2.dh
  refine⟨_,rfl,a,_,0,_,rfl,rfl,hS,rfl,(by show 3<=sizeLine;decide),fun p1 hp1=>⟨p1,_,rfl,.inr (bx.of af),rfl,rfl,_,rfl,eF (by decide +kernel) ?_⟩⟩
  have s1:=ae hp1 (.tup [.str "row",.str "tag",.str "call"])
  refine⟨_,rfl,a,_,0,_,rfl,rfl,hS.same s1,rfl,rfl,_,rfl,eF (by decide +kernel) ?_⟩
  refine⟨_,rfl,a,_,0,_,rfl,rfl,hS.same s1,rfl,rfl,_,rfl,eF (by decide +kernel) ?_⟩
  refine⟨_,rfl,a,_,0,_,rfl,rfl,(hS.same s1),rfl,(by show 3<=sizeLine;decide),fun p2 hp2=>⟨p2,_,rfl,.inr (bx.of af),rfl,rfl,_,rfl,eF (by decide +kernel) ?_⟩⟩
  have s2:=s1.trans (ae hp2 (.tup [.str "num",.str "name",.str "gap"]))
  refine⟨_,rfl,_,rfl,a,_,0,_,rfl,rfl,hS.same s2,rfl,(by show 2<=sizeLine;decide),fun p3 hp3=>⟨p3,_,rfl,.inr (bx.of af),rfl,rfl,.inr ⟨_,rfl,_,_,rfl,rfl,_,rfl,?_⟩⟩⟩
  have s3:=s2.trans (ae hp3 (.tup [.str "op",.str "let"]))
  refine⟨a,_,rfl,hS.same s3,fW _ 1 (by decide) (by simp),fun p4 hp4=>?_⟩
  have s4:=s3.trans (ae hp4 (.tup (cB [.str "first",v1] (some (1:Nat)) none)))
  refine⟨p4,_,rfl,.inr (bx.of af),fun l hl=>?_⟩
  refine k l _ _ (s4.trans (ae hl _)) (s4.free hl) af ?_
  have z:=aO.same (K:=K) (s4.trans (ae hl (.lst (cB [.str "first",v1] (some ((1:Nat):Int)) none)))) (.cons e1 .nil)
  have cc:cB [.str "first",v1] (some ((1:Nat):Int)) none=[v1]:=gz _ 1
  rw[cc]at z
  show aO K _ _ (cB [.str "first",v1] (some ((1:Nat):Int)) none)
  rw[cc]
  exact z
 case others =>
  have hk:ks.length=1:=by simpa[cD]using ar
  match ks,hk with
  | [k0],hk =>
  unfold eT at hv
  obtain⟨a,vs,rfl,hS,hr0⟩:=hv.aC
  obtain⟨v0,q0,rfl,e0,hr1⟩:=aO.inv hr0
  obtain⟨v1,q1,rfl,e1,hr2⟩:=aO.inv hr1
  obtain rfl:=e0.aF
  obtain rfl:=hr2.dh
  refine⟨_,rfl,a,_,0,_,rfl,rfl,hS,rfl,(by show 3<=sizeLine;decide),fun p1 hp1=>⟨p1,_,rfl,.inr (bx.of af),rfl,rfl,_,rfl,eF (by decide +kernel) ?_⟩⟩
  have s1:=ae hp1 (.tup [.str "row",.str "tag",.str "call"])
  refine⟨_,rfl,a,_,0,_,rfl,rfl,hS.same s1,rfl,rfl,_,rfl,eF (by decide +kernel) ?_⟩
  refine⟨_,rfl,a,_,0,_,rfl,rfl,hS.same s1,rfl,rfl,_,rfl,eF (by decide +kernel) ?_⟩
  refine⟨_,rfl,a,_,0,_,rfl,rfl,(hS.same s1),rfl,(by show 3<=sizeLine;decide),fun p2 hp2=>⟨p2,_,rfl,.inr (bx.of af),rfl,rfl,_,rfl,eF (by decide +kernel) ?_⟩⟩
  have s2:=s1.trans (ae hp2 (.tup [.str "num",.str "name",.str "gap"]))
  refine⟨_,rfl,_,rfl,a,_,0,_,rfl,rfl,hS.same s2,rfl,(by show 2<=sizeLine;decide),fun p3 hp3=>⟨p3,_,rfl,.inr (bx.of af),rfl,rfl,.inr ⟨_,rfl,_,_,rfl,rfl,_,rfl,?_⟩⟩⟩
  have s3:=s2.trans (ae hp3 (.tup [.str "op",.str "let"]))
  refine⟨a,_,rfl,hS.same s3,fW _ 1 (by decide) (by simp),fun p4 hp4=>?_⟩
  have s4:=s3.trans (ae hp4 (.tup (cB [.str "others",v1] (some (1:Nat)) none)))
  refine⟨p4,_,rfl,.inr (bx.of af),fun l hl=>?_⟩
  refine k l _ _ (s4.trans (ae hl _)) (s4.free hl) af ?_
  have z:=aO.same (K:=K) (s4.trans (ae hl (.lst (cB [.str "others",v1] (some ((1:Nat):Int)) none)))) (.cons e1 .nil)
  have cc:cB [.str "others",v1] (some ((1:Nat):Int)) none=[v1]:=gz _ 1
  rw[cc]at z
  show aO K _ _ (cB [.str "others",v1] (some ((1:Nat):Int)) none)
  rw[cc]
  exact z
 case long =>
  have hk:ks.length=1:=by simpa[cD]using ar
  match ks,hk with
  | [k0],hk =>
  unfold eT at hv
  obtain⟨a,vs,rfl,hS,hr0⟩:=hv.aC
  obtain⟨v0,q0,rfl,e0,hr1⟩:=aO.inv hr0
  obtain⟨v1,q1,rfl,e1,hr2⟩:=aO.inv hr1
  obtain rfl:=e0.aF
  obtain rfl:=hr2.dh
  refine⟨_,rfl,a,_,0,_,rfl,rfl,hS,rfl,(by show 3<=sizeLine;decide),fun p1 hp1=>⟨p1,_,rfl,.inr (bx.of af),rfl,rfl,_,rfl,eF (by decide +kernel) ?_⟩⟩
  have s1:=ae hp1 (.tup [.str "row",.str "tag",.str "call"])
  refine⟨_,rfl,a,_,0,_,rfl,rfl,hS.same s1,rfl,rfl,_,rfl,eF (by decide +kernel) ?_⟩
  refine⟨_,rfl,a,_,0,_,rfl,rfl,hS.same s1,rfl,rfl,_,rfl,eF (by decide +kernel) ?_⟩
  refine⟨_,rfl,a,_,0,_,rfl,rfl,(hS.same s1),rfl,(by show 3<=sizeLine;decide),fun p2 hp2=>⟨p2,_,rfl,.inr (bx.of af),rfl,rfl,_,rfl,eF (by decide +kernel) ?_⟩⟩
  have s2:=s1.trans (ae hp2 (.tup [.str "num",.str "name",.str "gap"]))
  refine⟨_,rfl,_,rfl,a,_,0,_,rfl,rfl,hS.same s2,rfl,(by show 2<=sizeLine;decide),fun p3 hp3=>⟨p3,_,rfl,.inr (bx.of af),rfl,rfl,.inr ⟨_,rfl,_,_,rfl,rfl,_,rfl,?_⟩⟩⟩
  have s3:=s2.trans (ae hp3 (.tup [.str "op",.str "let"]))
  refine⟨a,_,rfl,hS.same s3,fW _ 1 (by decide) (by simp),fun p4 hp4=>?_⟩
  have s4:=s3.trans (ae hp4 (.tup (cB [.str "long",v1] (some (1:Nat)) none)))
  refine⟨p4,_,rfl,.inr (bx.of af),fun l hl=>?_⟩
  refine k l _ _ (s4.trans (ae hl _)) (s4.free hl) af ?_
  have z:=aO.same (K:=K) (s4.trans (ae hl (.lst (cB [.str "long",v1] (some ((1:Nat):Int)) none)))) (.cons e1 .nil)
  have cc:cB [.str "long",v1] (some ((1:Nat):Int)) none=[v1]:=gz _ 1
  rw[cc]at z
  show aO K _ _ (cB [.str "long",v1] (some ((1:Nat):Int)) none)
  rw[cc]
  exact z
 case ife =>
  have hk:ks.length=3:=by simpa[cD]using ar
  match ks,hk with
  | [k0,k1,k2],hk =>
  unfold eT at hv
  obtain⟨a,vs,rfl,hS,hr0⟩:=hv.aC
  obtain⟨v0,q0,rfl,e0,hr1⟩:=aO.inv hr0
  obtain⟨v1,q1,rfl,e1,hr2⟩:=aO.inv hr1
  obtain⟨v2,q2,rfl,e2,hr3⟩:=aO.inv hr2
  obtain⟨v3,q3,rfl,e3,hr4⟩:=aO.inv hr3
  obtain rfl:=e0.aF
  obtain rfl:=hr4.dh
  refine⟨_,rfl,a,_,0,_,rfl,rfl,hS,rfl,(by show 3<=sizeLine;decide),fun p1 hp1=>⟨p1,_,rfl,.inr (bx.of af),rfl,rfl,_,rfl,eF (by decide +kernel) ?_⟩⟩
  have s1:=ae hp1 (.tup [.str "row",.str "tag",.str "call"])
  refine⟨_,rfl,a,_,0,_,rfl,rfl,hS.same s1,rfl,rfl,_,rfl,eF (by decide +kernel) ?_⟩
  refine⟨_,rfl,a,_,0,_,rfl,rfl,hS.same s1,rfl,rfl,_,rfl,eF (by decide +kernel) ?_⟩
  refine⟨_,rfl,a,_,0,_,rfl,rfl,(hS.same s1),rfl,(by show 3<=sizeLine;decide),fun p2 hp2=>⟨p2,_,rfl,.inr (bx.of af),rfl,rfl,_,rfl,eF (by decide +kernel) ?_⟩⟩
  have s2:=s1.trans (ae hp2 (.tup [.str "num",.str "name",.str "gap"]))
  refine⟨_,rfl,_,rfl,a,_,0,_,rfl,rfl,hS.same s2,rfl,(by show 2<=sizeLine;decide),fun p3 hp3=>⟨p3,_,rfl,.inr (bx.of af),rfl,rfl,.inr ⟨_,rfl,_,_,rfl,rfl,_,rfl,?_⟩⟩⟩
  have s3:=s2.trans (ae hp3 (.tup [.str "op",.str "let"]))
  refine⟨a,_,rfl,hS.same s3,fW _ 1 (by decide) (by simp),fun p4 hp4=>?_⟩
  have s4:=s3.trans (ae hp4 (.tup (cB [.str "if",v1,v2,v3] (some (1:Nat)) none)))
  refine⟨p4,_,rfl,.inr (bx.of af),fun l hl=>?_⟩
  refine k l _ _ (s4.trans (ae hl _)) (s4.free hl) af ?_
  have z:=aO.same (K:=K) (s4.trans (ae hl (.lst (cB [.str "if",v1,v2,v3] (some ((1:Nat):Int)) none)))) (.cons e1 (.cons e2 (.cons e3 .nil)))
  have cc:cB [.str "if",v1,v2,v3] (some ((1:Nat):Int)) none=[v1,v2,v3]:=gz _ 1
  rw[cc]at z
  show aO K _ _ (cB [.str "if",v1,v2,v3] (some ((1:Nat):Int)) none)
  rw[cc]
  exact z
 case lt x =>
  have hk:ks.length=2:=by simpa[cD]using ar
  match ks,hk with
  | [k0,k1],hk =>
  unfold eT at hv
  obtain⟨a,vs,rfl,hS,hr0⟩:=hv.aC
  obtain⟨v0,q0,rfl,e0,hr1⟩:=aO.inv hr0
  obtain⟨v1,q1,rfl,e1,hr2⟩:=aO.inv hr1
  obtain⟨v2,q2,rfl,e2,hr3⟩:=aO.inv hr2
  obtain⟨v3,q3,rfl,e3,hr4⟩:=aO.inv hr3
  obtain rfl:=e0.aF
  obtain rfl:=hr4.dh
  refine⟨_,rfl,a,_,0,_,rfl,rfl,hS,rfl,(by show 3<=sizeLine;decide),fun p1 hp1=>⟨p1,_,rfl,.inr (bx.of af),rfl,rfl,_,rfl,eF (by decide +kernel) ?_⟩⟩
  have s1:=ae hp1 (.tup [.str "row",.str "tag",.str "call"])
  refine⟨_,rfl,a,_,0,_,rfl,rfl,hS.same s1,rfl,rfl,_,rfl,eF (by decide +kernel) ?_⟩
  refine⟨_,rfl,a,_,0,_,rfl,rfl,hS.same s1,rfl,rfl,_,rfl,eF (by decide +kernel) ?_⟩
  refine⟨_,rfl,a,_,0,_,rfl,rfl,(hS.same s1),rfl,(by show 3<=sizeLine;decide),fun p2 hp2=>⟨p2,_,rfl,.inr (bx.of af),rfl,rfl,_,rfl,eF (by decide +kernel) ?_⟩⟩
  have s2:=s1.trans (ae hp2 (.tup [.str "num",.str "name",.str "gap"]))
  refine⟨_,rfl,_,rfl,a,_,0,_,rfl,rfl,hS.same s2,rfl,(by show 2<=sizeLine;decide),fun p3 hp3=>⟨p3,_,rfl,.inr (bx.of af),rfl,rfl,.inr ⟨_,rfl,_,_,rfl,rfl,_,rfl,?_⟩⟩⟩
  have s3:=s2.trans (ae hp3 (.tup [.str "op",.str "let"]))
  refine⟨a,_,rfl,hS.same s3,fW _ 2 (by decide) (by simp),fun p4 hp4=>?_⟩
  have s4:=s3.trans (ae hp4 (.tup (cB [.str "let",v1,v2,v3] (some (2:Nat)) none)))
  refine⟨p4,_,rfl,.inr (bx.of af),fun l hl=>?_⟩
  refine k l _ _ (s4.trans (ae hl _)) (s4.free hl) af ?_
  have z:=aO.same (K:=K) (s4.trans (ae hl (.lst (cB [.str "let",v1,v2,v3] (some ((2:Nat):Int)) none)))) (.cons e2 (.cons e3 .nil))
  have cc:cB [.str "let",v1,v2,v3] (some ((2:Nat):Int)) none=[v2,v3]:=gz _ 2
  rw[cc]at z
  show aO K _ _ (cB [.str "let",v1,v2,v3] (some ((2:Nat):Int)) none)
  rw[cc]
  exact z
end
structure CG(l:Addr) (H0:Hp) (b:Nat) (H':Hp):Prop where
 x:∃ns:List Int,aI H0 H'/\H' l=some (.lst (ns.map V.int))/\ns.length<=b
noncomputable def mD(K:PySem.W.Frag)(n:Nat):Sp:=fun vs H Q _=>∃(v:V) (tm:Tm),vs=[v]/\Rp K H (enc tm) v/\Tok tm/\tm.depth<n/\tm.size<=100 /\
 ∀(p:Addr) (H':Hp) (ns:List Int),aI H H'->H' p=some (.lst (ns.map V.int))->ns.length<=tm.size->Q (.ref p) H'
theorem pL:∀{ks:List Tm}{k:Tm},k∈ks->k.size<=Tm.sizes ks
 |x::r,k,h=>by
  rw[Tm.bM]
  cases h with
  |head=>omega
  |tail _ h=>have:=pL h;omega
theorem A8{its:List It}{it:It}(h:it∈its):Tm.sizes (iU it)<=Tm.sizes (its.flatMap iU):=by
 induction its with
 |nil=>cases h
 |cons x r ih =>
  rw[List.flatMap_cons,Tm.bj]
  cases h with
  |head=>omega
  |tail _ h=>have:=ih h;omega
theorem jU{i:Nat}{ks:List Tm}{k:Tm}(e:ks[i]?=some k):Tm.sizes (ks.take (i+1))=Tm.sizes (ks.take i)+k.size:=by
 have hil:=(List.getElem?_eq_some_iff.mp e).1
 rw[List.take_succ_eq_append_getElem hil,(List.getElem?_eq_some_iff.mp e).2,Tm.bj,Tm.bM]
 rfl
theorem tS{h:Hd}{ks:List Tm}(ar:cD h ks.length=true)(e:hdS h="gap"):∃m,h=.gap m/\ks=[]:=by
 cases h
 case gap m=>exact⟨m,rfl,by simpa[cD]using ar⟩
 all_goals exact absurd e (by simp only[hdS];decide +kernel)
section
variable {P:Program}{w:World}{K:PySem.W.Frag}{mg:Str->Option Value}{base:Heap}{gW gS:Addr}{wfd sfd:FuncData}
theorem aP:Nm ["_law_term_here","_law_found","_law_one","_law_arm","_law_more"] (ak dY):=by decide +kernel
theorem fX:Lm ["_law_term_here","_law_found","_law_one","_law_arm","_law_more"] (ak dY):=by decide +kernel
theorem eI:aN ["_law_term_here","_law_found","_law_one","_law_arm","_law_more"] ["_law_term_here"] (ak dY):=⟨rfl,rfl,rfl,by decide +kernel,rfl,by decide +kernel,by decide +kernel⟩
theorem xY{f:Addr}{fd:FuncData}{n j:Nat}(hj:1<=j)(F:fJ K "_law_gaps_in" "_law_gaps_in" dY f fd)(WD:bS P w K mg base "_law_words" 1 [] ik gW wfd)(LG:bS P w K mg base "_law_gaps_in" j ["_law_term_here"] (mD K n) gS sfd)(z_len:mg "len"=none)(z_tuple:mg "tuple"=none)(z_str:mg "str"=none)(z_isinstance:mg "isinstance"=none):bT P w K mg base fk (j+1) f fd ["_law_term_here"] (mD K (n+1)):=by
 refine F.ok eI (fun vs H Q E h=>?_) (fun cdv A outer s H vs Q E hr h=>?_)
 ·obtain⟨_,_,rfl,_⟩:=h
  rfl
 obtain⟨v,⟨h,ks⟩,rfl,rv,tk,hd,hsz,k⟩:=h
 refine⟨_,(Z5 (Zf (Zc bJ (Za aD (va aP 0)) az) (Zd (Zq (@bf _ _ _ _ (Z1 (Za aD (va aP 0)) ao))))) (Z5 (sa eI.nd fX 1 (bf ao)) (Z5 (Zi (@bX _ _ _ _ (cO sO (va aP 0) (cf aj) dH)) (ga eI.nd fX 2) (Zd (@fj _ _ _ _ _ _ _ _ (PW.pt (@bW _ _ _ _ _ _ _ (@dQ _ _ _ (Z2 (cT K rfl) z_isinstance PyProof.Rows.boot_isinstance (Z1 (va aP 2) (Zb (cY (v:=.ty "tuple") (by show _=_;kernel_rfl) z_tuple (by decide +kernel) rfl)))) (by intro _;rfl)) (@bW _ _ _ _ _ _ _ (Zc iX (Z2 aB z_len PySem.boot_len (Zb (va aP 2))) aj) (@bW _ _ _ _ _ _ _ (@dQ _ _ _ (Z2 (k7 K rfl) z_isinstance PyProof.Rows.boot_isinstance (Z1 (Za aD (va aP 2)) (Zb (cY (v:=.ty "str") (by show _=_;kernel_rfl) z_str (by decide +kernel) rfl)))) (by intro _;rfl)) (@cE _ _ _ _ (@aM _ _ _ _ _ _ _ _ eN (Za aD (va aP 2)) (mR WD.ok (hr.mono (by omega)) (by show _=_;kernel_rfl) WD.at' WD.kp WD.bd .nil jm) (by with_unfolding_all rfl))))))) (Zd (Zp (Z7 PySem.F.slot_list_extend PySem.F.type_list_extend eO (va aP 1) (Z1 (Z0 LG (Zb (va aP 2))) ao)))) (Zd (@fj _ _ _ _ _ _ _ _ (PW.pt (@bW _ _ _ _ _ _ _ (@dQ _ _ _ (Z2 (cT K rfl) z_isinstance PyProof.Rows.boot_isinstance (Z1 (va aP 2) (Zb (cY (v:=.ty "tuple") (by show _=_;kernel_rfl) z_tuple (by decide +kernel) rfl)))) (by intro _;rfl)) (@cE _ _ _ _ (Zc bJ (Za aD (va aP 0)) az)))) (Zd (Zi (bX (va aP 2)) (ga eI.nd fX 3) (Zd (Zp (Z7 PySem.F.slot_list_extend PySem.F.type_list_extend eO (va aP 1) (Z1 (Z0 LG (Z1 (Za aD (va aP 3)) ao)) ao)))))) (Zd (Zf (@dQ _ _ _ (Z2 (cT K rfl) z_isinstance PyProof.Rows.boot_isinstance (Z1 (va aP 2) (Zb (cY (v:=.ty "tuple") (by show _=_;kernel_rfl) z_tuple (by decide +kernel) rfl)))) (by intro _;rfl)) (Zd (Zi (bX (va aP 2)) (ga eI.nd fX 4) (Zd (Zp (Z7 PySem.F.slot_list_extend PySem.F.type_list_extend eO (va aP 1) (Z1 (Z0 LG (Zb (va aP 4))) ao))))))))))))) (Zd (bQ (va aP 1)))))),?_⟩
 try dsimp only[bU]
 try dsimp only[bU]
 cases tk with
 |mk ar lk tks =>
 obtain⟨its,I⟩:=tQ ar
 have rv0:=rv
 rw[cZ,I.e]at rv
 obtain⟨va,vvs,rfl,vsq,rvs⟩:=rv.aC
 obtain⟨v1,us,rfl,r1,rus⟩:=aO.inv (K:=K) (x:=.s (hdS h)) rvs
 obtain rfl:=r1.aF
 have lus:=rus.length
 rw[List.length_map]at lus
 have lits:=I.len
 have a0:=vF (V.str (hdS h)) us
 rw[Tm.eB]at hsz
 refine kj ?_
 intro N1 N2 N3 c1 c2 c3
 fail "R"
 refine ck (fun c=>?_) (fun c=>?_)
 ·clear c1 c2 c3
  have eg:hdS h="gap":=by injection(of_decide_eq_true c)
  obtain⟨m,rfl,rfl⟩:=tS ar eg
  rw[cZ]at rv0
  obtain⟨ga,w1,w2,ez,gsq,q1,q2⟩:=(show Rp K H (.t [.s "gap",.i m]) (.ref va)from rv0).t2
  cases ez
  obtain rfl:=q2.dB
  fail "R"
  intro p hp
  exact k p _ [m] (ae hp _) af (by show 1<=_;rw[Tm.eB];omega)
 have e1:cB (.str (hdS h)::us) (some 1) none=us:=by rw[show(some (1:Int))=some ((1:Nat):Int)from rfl,pK];rfl
 fail "R"
 intro l hl
 have s1:=ae hl (.lst [])
 have h1:upd H l (.lst []) l=some (.lst []):=af
 generalize upd H l (.lst [])=H1 at s1 h1⊢
 have vsq1:=vsq.same s1
 fail "R"
 ·exact fW (V.str (hdS h)::us) 1 (Nat.le_refl _) (by rw[List.length_cons];omega)
 intro p2 hp2
 rw[e1]
 have s2:=ae hp2 (.tup us)
 have h2:=bx.of (K:=K) (show upd H1 p2 (.tup us) p2=some (.tup us)from af)
 have h2l:=s2 _ _ h1
 generalize upd H1 p2 (.tup us)=H2 at s2 h2 h2l⊢
 have s02:=s1.trans s2
 fail "R"
 refine fP (K:=K) (xs:=us) (fun i σ H3=>(∃y z w,σ=[some (.ref va),some (.ref l),y,z,w])/\CG l H (Tm.sizes ((its.take i).flatMap iU)) H3/\Kt H2 H3) ⟨⟨_,_,_,rfl⟩,⟨[],s02,h2l,Nat.zero_le _⟩,Kt.refl⟩ ?_ ?_ ?_
 ·rintro i σ H3 hi ⟨_,_,k3⟩
  exact h2.kt k3
 ·rintro i x σ H3 hx ⟨⟨_,_,_,rfl⟩,⟨ns,s3,h3,l3⟩,k3⟩
  obtain⟨tt,ht,rt⟩:=rus.get' hx
  rw[List.getElem?_map]at ht
  obtain⟨it,hit,rfl⟩:=Option.map_eq_some_iff.mp ht
  have hmem:=List.mem_of_getElem? hit
  have hzi:=A8 hmem
  rw[I.k]at hzi
  have hz1:Tm.sizes ((its.take (i+1)).flatMap iU)=Tm.sizes ((its.take i).flatMap iU)+Tm.sizes (iU it):=by rw[uJ hit,Tm.bj]
  have hz2:Tm.sizes ((its.take i).flatMap iU)<=100:=by
   have:Tm.sizes ((its.take (i+1)).flatMap iU)<=Tm.sizes (its.flatMap iU):=by
    conv=>rhs;rw[←List.take_append_drop (i+1) its]
    rw[List.flatMap_append,Tm.bj];omega
   rw[I.k]at this
   omega
  have hk:∀k∈iU it,Tok k/\k.depth<n/\k.size<=100:=fun k hk=>by
   have hm:=tR I.k hmem hk
   have:=Tm.iC (h:=h) hm
   have:=pL hm
   exact⟨tks k hm,by omega,by omega⟩
  have k03:=(Kt.same s02).trans k3
  refine A7 (K:=K) (i:=2) (it:=it) rfl rfl (vsq.kt k03) (rt.kt k03) (I.ok it hmem) ?_ ?_ ?_ ?_
  ·rintro k0 rfl H4 s4
   have rk:Rp K H4 (enc k0) x:=(rt.kt k03).same s4
   obtain⟨tk0,d0,z0⟩:=hk k0 (.head _)
   have hz3:Tm.sizes (iU (.one k0))=k0.size:=by show Tm.sizes [k0]=_;rw[Tm.bM];rfl
   have h4:=s4 _ _ h3
   fail "R"
   intro p5 H5 ns5 s5 h5 l5
   have h5l:=s5 _ _ h4
   have hl9:(ns.map V.int).length+(ns5.map V.int).length<=sizeLine:=small (by rw[List.length_map,List.length_map];omega)
   fail "R"
   ·exact⟨ns++ns5,((s3.trans s4).trans s5).ow hl _,by rw[List.map_append];exact af,by rw[List.length_append];omega⟩
   ·exact((k3.trans (Kt.same s4)).trans (Kt.same s5)).trans (Kt.lst h5l _)
  ·rintro as ks0 rfl H4 s4
   obtain⟨xa,xvs,rfl,xsq,rxs⟩:=(show Rp K H4 (.t (List.zipWith fq as (ks0.map enc))) x from(rt.kt k03).same s4).aC
   rw[jy]at rxs
   have lx:=rxs.length
   rw[List.length_map]at lx
   have hz3:Tm.sizes (iU (.arms as ks0))=Tm.sizes ks0:=rfl
   fail "R"
   refine fP (K:=K) (xs:=xvs) (fun i5 σ H5=>(∃z w,σ=[some (.ref va),some (.ref l),some (.ref xa),z,w])/\CG l H (Tm.sizes ((its.take i).flatMap iU)+Tm.sizes (ks0.take i5)) H5/\Kt H4 H5) ⟨⟨_,_,rfl⟩,⟨ns,s3.trans s4,s4 _ _ h3,Nat.le_trans l3 (Nat.le_add_right _ _)⟩,Kt.refl⟩ ?_ ?_ ?_
   ·rintro i5 σ H5 hi5 ⟨_,_,k5⟩
    exact xsq.kt k5
   ·rintro i5 y σ H5 hy ⟨⟨_,_,rfl⟩,⟨ns5,s5,h5,l5⟩,k5⟩
    obtain⟨ty,hty,rty⟩:=rxs.get' hy
    rw[List.getElem?_map]at hty
    obtain⟨q,hq,rfl⟩:=Option.map_eq_some_iff.mp hty
    obtain⟨ya,y1,y2,y3,rfl,ysq,q1,q2,q3⟩:=(show Rp K H5 (.t [.s q.1.1,.t (q.1.2.map .s),enc q.2]) y from rty.kt k5).t3
    have hqk:ks0[i5]?=some q.2:=by
     rw[←uI (I.ok _ hmem).2,List.getElem?_map,hq];rfl
    obtain⟨tk6,d6,z6⟩:=hk q.2 (List.mem_of_getElem? hqk)
    have hz5:=jU hqk
    have hz6:Tm.sizes (ks0.take i5)+q.2.size<=Tm.sizes ks0:=by
     rw[←hz5]
     conv=>rhs;rw[←List.take_append_drop (i5+1) ks0]
     rw[Tm.bj];omega
    fail "R"
    intro p7 H7 ns7 s7 h7 l7
    have h7l:=s7 _ _ h5
    have hl9:(ns5.map V.int).length+(ns7.map V.int).length<=sizeLine:=small (by rw[List.length_map,List.length_map];omega)
    fail "R"
    ·exact⟨ns5++ns7,(s5.trans s7).ow hl _,by rw[List.map_append];exact af,by rw[List.length_append];omega⟩
    ·exact(k5.trans (Kt.same s7)).trans (Kt.lst h7l _)
   ·rintro σ H5 ⟨⟨_,_,rfl⟩,⟨ns5,s5,h5,l5⟩,k5⟩
    fail "R"
    ·exact⟨ns5,s5,h5,by rw[lx,List.length_zip,(I.ok _ hmem).2,Nat.min_self,List.take_length]at l5;omega⟩
    ·exact(k3.trans (Kt.same s4)).trans k5
  ·rintro ks0 rfl H4 s4
   obtain⟨xa,xvs,rfl,xsq,rxs⟩:=(show Rp K H4 (.t (ks0.map enc)) x from(rt.kt k03).same s4).aC
   have lx:=rxs.length
   rw[List.length_map]at lx
   have hz3:Tm.sizes (iU (.many ks0))=Tm.sizes ks0:=rfl
   fail "R"
   refine fP (K:=K) (xs:=xvs) (fun i5 σ H5=>(∃z w,σ=[some (.ref va),some (.ref l),some (.ref xa),z,w])/\CG l H (Tm.sizes ((its.take i).flatMap iU)+Tm.sizes (ks0.take i5)) H5/\Kt H4 H5) ⟨⟨_,_,rfl⟩,⟨ns,s3.trans s4,s4 _ _ h3,Nat.le_trans l3 (Nat.le_add_right _ _)⟩,Kt.refl⟩ ?_ ?_ ?_
   ·rintro i5 σ H5 hi5 ⟨_,_,k5⟩
    exact xsq.kt k5
   ·rintro i5 y σ H5 hy ⟨⟨_,_,rfl⟩,⟨ns5,s5,h5,l5⟩,k5⟩
    obtain⟨ty,hty,rty⟩:=rxs.get' hy
    rw[List.getElem?_map]at hty
    obtain⟨q,hq,rfl⟩:=Option.map_eq_some_iff.mp hty
    have hqk:=hq
    have ry5:=rty.kt k5
    obtain⟨tk6,d6,z6⟩:=hk q (List.mem_of_getElem? hqk)
    have hz5:=jU hqk
    have hz6:Tm.sizes (ks0.take i5)+q.size<=Tm.sizes ks0:=by
     rw[←hz5]
     conv=>rhs;rw[←List.take_append_drop (i5+1) ks0]
     rw[Tm.bj];omega
    fail "R"
    intro p7 H7 ns7 s7 h7 l7
    have h7l:=s7 _ _ h5
    have hl9:(ns5.map V.int).length+(ns7.map V.int).length<=sizeLine:=small (by rw[List.length_map,List.length_map];omega)
    fail "R"
    ·exact⟨ns5++ns7,(s5.trans s7).ow hl _,by rw[List.map_append];exact af,by rw[List.length_append];omega⟩
    ·exact(k5.trans (Kt.same s7)).trans (Kt.lst h7l _)
   ·rintro σ H5 ⟨⟨_,_,rfl⟩,⟨ns5,s5,h5,l5⟩,k5⟩
    fail "R"
    ·exact⟨ns5,s5,h5,by rw[lx,List.take_length]at l5;omega⟩
    ·exact(k3.trans (Kt.same s4)).trans k5
  ·rintro t rfl H4 s4
   have hz3:Tm.sizes (iU (.lf t))=0:=rfl
   fail "R"
   ·exact⟨ns,s3.trans s4,s4 _ _ h3,by omega⟩
   ·exact k3.trans (Kt.same s4)
 ·rintro σ H3 ⟨⟨_,_,_,rfl⟩,⟨ns,s3,h3,l3⟩,k3⟩
  rw[lus,List.take_length,I.k]at l3
  fail "R"
  exact k l H3 ns s3 h3 (by rw[Tm.eB];omega)
end
@[irreducible] noncomputable def xZ:Stmt:=(bI bY).getD 4 (.Pass ⟨0,0,0,0⟩)
@[irreducible] noncomputable def yb:Stmt:=(bI bY).getD 5 (.Pass ⟨0,0,0,0⟩)
@[irreducible] noncomputable def zD:List Expr:=match(bI bY).getD 4 (.Pass ⟨0,0,0,0⟩)with
 |.Assign _ (.List es _) _=>es
 |_=>[]
@[irreducible] noncomputable def zE:List Expr:=match(bI bY).getD 5 (.Pass ⟨0,0,0,0⟩)with
 |.Assign _ (.BinOp _ _ (.List es _) _) _=>es
 |_=>[]
@[irreducible] noncomputable def posK (i:Nat):Pos:=match(bI bY).getD 4 (.Pass ⟨0,0,0,0⟩),(bI bY).getD 5 (.Pass ⟨0,0,0,0⟩)with
 |.Assign [.Name _ a] (.List _ b) c,.Assign [.Name _ d] (.BinOp (.Name _ e) _ (.List _ f) g) h=>[a,b,c,d,e,f,g,h].getD i a
 |_,_=>⟨0,0,0,0⟩
noncomputable def uK:List Str:=["num","row","kind","def","more","first","others","long","match","if","let","fold","call"]
noncomputable def uL:List Str:=["gap","in","world","fault","left"]
theorem zF:xZ=.Assign [.Name "_law_kept" (posK 0)] (.List zD (posK 1)) (posK 2):=by unfold xZ zD posK;kernel_rfl
theorem zG:yb=.Assign [.Name "_law_kept" (posK 3)] (.BinOp (.Name "_law_kept" (posK 4)) .Add (.List zE (posK 5)) (posK 6)) (posK 7):=by unfold yb zE posK;kernel_rfl
theorem DJ:strsOf zD=some uK:=by unfold zD;kernel_rfl
theorem DK:strsOf zE=some uL:=by unfold zE;kernel_rfl
theorem tT:bI bY=(bI bY).take 4++(xZ::yb::(bI bY).drop 6):=by unfold xZ yb;kernel_rfl
theorem Cp{X:Cx}(hn:X.N.Nodup)(hl:Lm X.N X.env.scope)(h7:X.N[7]?=some ("_law_kept":Str))(hf:X.fn "_law_kept"=true):PS X xZ (qd (AE (rD uK)) (dW 7)):=by
 rw[zF]
 exact sa hn hl 7 (bf (mh DJ)) h7 rfl (.inl hf)
theorem Cq{X:Cx}(hn:X.N.Nodup)(hl:Lm X.N X.env.scope)(hv:Nm X.N X.env.scope)(h7:X.N[7]?=some ("_law_kept":Str))(hf:X.fn "_law_kept"=true):PS X yb (qd (vh BU (iN 7) (AE (rD uL))) (dW 7)):=by
 rw[zG]
 exact sa hn hl 7 (aJ mU (va hv 7 h7) (bf (mh DK))) h7 rfl (.inl hf)
theorem A9{α:Type}(xs:List α)(a b:α):jC (xs++[a,b]) (-2)=some a:=by
 unfold jC yr
 have l:(xs++[a,b]).length=xs.length+2:=by simp
 rw[l,if_neg (by decide),if_pos (by omega)]
 have e:(-2+((xs.length+2:Nat):Int)).toNat=xs.length:=by omega
 rw[Option.bind_some,e]
 simp
theorem tU(n m:Nat)(h:n=m+1):yr n (-1)=some m:=by
 unfold yr
 rw[if_neg (by decide),if_pos (by omega)]
 congr 1
 omega
section
variable {P:Program}{w:World}{K:PySem.W.Frag}{mg:Str->Option Value}{base:Heap}{gT:Addr}{tfd:FuncData}
theorem aG:Nm ["_law_feed_here","_law_many","_law_letters","_law_stem","_law_first","_law_at","_law_turn","_law_kept","_law_found","_law_k","_law_sign","_law_name"] (ak bY):=by decide +kernel
theorem dg:Lm ["_law_feed_here","_law_many","_law_letters","_law_stem","_law_first","_law_at","_law_turn","_law_kept","_law_found","_law_k","_law_sign","_law_name"] (ak bY):=by decide +kernel
theorem cI:aN ["_law_feed_here","_law_many","_law_letters","_law_stem","_law_first","_law_at","_law_turn","_law_kept","_law_found","_law_k","_law_sign","_law_name"] ["_law_feed_here","_law_many"] (ak bY):=⟨rfl,rfl,rfl,by decide +kernel,rfl,by decide +kernel,by decide +kernel⟩
theorem yc{f:Addr}{fd:FuncData}(F:fJ K "_law_names" "_law_names" bY f fd)(TK:bS P w K mg base "_law_take" 1 ["_law_feed_here","_law_many"] dD gT tfd)(z_range:mg "range"=none)(z_len:mg "len"=none)(z_int:mg "int"=none) :
  bT P w K mg base fk 2 f fd ["_law_feed_here","_law_many"] uE:=by
 refine F.ok cI (fun vs H Q E h=>?_) (fun cdv A outer s H vs Q E hr h=>?_)
 ·obtain⟨v,tm,rfl,_⟩:=h
  rfl
 obtain⟨r,m,rfl,m1,m2,hf,k⟩:=h
 rw[tT]
 refine⟨_,(Z5 (sa cI.nd dg 2 az) (Z5 (Z4 cI.nd dg 3 (@ue _ _ _ _ _ _ _ _ _ _ _ _ PySem.F.plainAttrs_str PySem.F.slot_str_join PySem.F.type_str_join yQ az (Z1 (Z8 (ak bY) ["_law_feed_here","_law_many","_law_letters","_law_stem","_law_first","_law_at","_law_turn","_law_kept","_law_found","_law_k","_law_sign","_law_name"] ["_law_k"] [0,2] (Zo (Z1 (Z0 TK (cV (va aG 0) (Zb aj))) ao)) (fun _ _ _ _=>(Z3 (i:=0) (show(["_law_k","_law_feed_here","_law_letters"]:List Str).Nodup by decide +kernel))) (fun _ _ _ _=>(Zm qh (va (show Nm ["_law_k","_law_feed_here","_law_letters"] _ by show _=_;kernel_rfl) 2) (Z0 TK (cV (va (show Nm ["_law_k","_law_feed_here","_law_letters"] _ by show _=_;kernel_rfl) 1) (Zb aj)))))) ao) (by kernel_rfl) (by kernel_rfl) (by kernel_rfl) (by kernel_rfl) (by kernel_rfl))) (Z5 (@Au _ _ (4) (5) _ _ _ _ _ _ _ _ _ _ _ rfl cI.nd rfl rfl (by decide) rfl rfl (Z1 (Z0 TK (cV (va aG 0) (Zb aj))) (Z1 (Z0 TK (Z1 (va aG 0) (Z1 (Zn cJ (Z2 j6 z_len PySem.boot_len (Zb (va aG 3))) aj) ao))) ao)) (by rfl) (by rfl)) (Z5 (Z4 cI.nd dg 6 (Z0 TK (cV (va aG 0) (Zb aj)))) (Z5 (Cp cI.nd dg rfl rfl) (Z5 (Cq cI.nd dg aG rfl rfl) (Z5 (sa cI.nd dg 8 (bf ao)) (Z5 (Zi (Zo (Zb (va aG 1))) (ga cI.nd dg 9) (Z5 (Z4 cI.nd dg 10 (Zm qh (va aG 2) (Zn eu (Zn cJ (va aG 4) (aJ fL aj (va aG 9))) aj))) (Z5 (Z4 cI.nd dg 11 (Zn iO (Zn iO (@cO _ _ _ _ _ _ _ _ _ _ wV (va aG 3) dH (cf (va aG 5))) (va aG 10)) (@cO _ _ _ _ _ _ _ _ _ _ wV (va aG 3) (cf (va aG 5)) (@cf _ _ _ (Zn eu (aJ cJ (va aG 6) (va aG 9)) aj))))) (Zd (Zp (Z7 PySem.F.slot_list_append PySem.F.type_list_append bG (va aG 8) (Z1 (Zn iO (va aG 11) (Zn tu az (Z6 oJ z_int PyProof.Rows.boot_int (Z1 (qe eN (va aG 11) (va aG 7) (by with_unfolding_all rfl)) ao)))) ao))))))) (Z5 (Zf (PW.pt (@bW _ _ _ _ _ _ _ (aM iX (va aG 1) aj (bF _)) (@bW _ _ _ _ _ _ _ (Zc j0 (Z2 j6 z_len PySem.boot_len (Z1 (gm bg (va aG 8) (lD ji aj) (fun _ _=>rfl)) ao)) aj) (@cE _ _ _ _ (Zc bJ (Z0 TK (cV (va aG 0) (Zb aj))) aj))))) (Zd (@jN _ _ _ _ _ _ (Zn iO (gm bg (va aG 8) (lD ji aj) (fun _ _=>rfl)) az) (sF (va aG 8) (lD ji aj) set_list) (by rfl) (by rfl) (by rfl)))) (Zd (bQ (va aG 8)))))))))))),?_⟩
 try dsimp only[bU]
 refine⟨rfl,_,rfl,r,5,rfl,by decide,by decide,hf,fun q H2 q0 q6 e2=>?_⟩
 refine⟨_,rfl,by omega,by omega,?_⟩
 have n7:(q:Int).toNat<=4:=by omega
 refine gn (n:=q.toNat) (fun i σ vs Hc=>(∃v,σ=[v,some (.ref r),some (.str "abcdefghijklmnopqrstuvwxyz")])/\Ext r H2 Hc/\∃cs:List Nat,vs=(cs.map fun c=>(⟨#[c]⟩:Str)).map V.str/\cs.length=i/\∀c∈cs,c<1000)
  ⟨⟨none,rfl⟩,Ext.refl e2.2,[],rfl,rfl,fun _ h=>nomatch h⟩ (fun i σ vs Hc _ ⟨_,_,cs,e,el,_⟩=>by rw[e,List.length_map,List.length_map];omega) (small (by omega)) ?_ ?_
 ·rintro i' σ vs Hc hi' ⟨⟨v,rfl⟩,ext,cs,rfl,hcl,hlo⟩
  refine⟨_,rfl,_,rfl,r,26,rfl,by decide,by decide,ext.2,fun d H3 d0 d1 ext2=>?_⟩
  obtain⟨c,hc1,hc2⟩:=atS (z:="abcdefghijklmnopqrstuvwxyz") d0 d1
  refine⟨_,d,c,rfl,rfl,(by decide +kernel),hc1,?_⟩
  exact⟨⟨_,rfl⟩,ext.trans ext2,cs++[c],by rw[List.map_append,List.map_append];rfl,by rw[List.length_append,hcl];rfl,fun c' h=>by rcases List.mem_append.mp h with h|h;exact hlo c' h;rw[List.mem_singleton.mp h];exact uD c hc2⟩
 rintro σ vs Hc ⟨⟨v,rfl⟩,ext,cs,rfl,hcl,hlo⟩ p hp
 refine⟨_,p,_,rfl,rfl,cy.of af,?_,?_⟩
 ·have z:(Str.ofString "").length=0:=by decide
  rw[xm,z]
  omega
 rw[yX]
 have kp1:Ext r H (upd Hc p (.lst ((cs.map fun c=>(⟨#[c]⟩:Str)).map V.str))):=(e2.trans ext).new hp _
 have ly:(⟨cs.toArray⟩:Str).length<=4:=by rw[AW];omega
 have hy:Lo ⟨cs.toArray⟩:=fun c h=>hlo c (by simpa using h)
 generalize upd Hc p (.lst ((cs.map fun c=>(⟨#[c]⟩:Str)).map V.str))=H4 at kp1⊢
 generalize(⟨cs.toArray⟩:Str)=y at ly hy⊢
 refine⟨_,rfl,r,26,rfl,by decide,by decide,kp1.2,fun d1 H5 b1 c1 e5=>?_⟩
 refine⟨_,rfl,_,rfl,_,rfl,small (by omega),_,_,rfl,rfl,r,_,rfl,by omega,by omega,e5.2,fun d2 H6 b2 c2 e6=>?_⟩
 refine⟨_,_,rfl,?_⟩
 refine⟨_,rfl,r,5,rfl,by decide,by decide,e6.2,fun d3 H7 b3 c3 e7=>?_⟩
 have x7:Ext r H H7:=kp1.trans (e5.trans (e6.trans e7))
 have lk1:uK.length<=100:=by decide
 have lk2:uL.length<=100:=by decide
 refine⟨by rw[List.length_map];exact small (by omega),fun p8 hp8=>?_⟩
 refine⟨_,rfl,by rw[List.length_map];exact small (by omega),fun p9 hp9=>?_⟩
 generalize uK=ks1 at lk1 hp9⊢
 generalize uL=ks2 at lk2 hp9⊢
 refine⟨p8,p9,_,_,rfl,rfl,(ae hp9 _) _ _ af,af,by rw[List.length_map,List.length_map];exact small (by omega),fun p10 hp10=>?_⟩
 have x10:Ext r H (upd (upd (upd H7 p8 (.lst (ks1.map V.str))) p9 (.lst (ks2.map V.str))) p10 (.lst (ks1.map V.str++ks2.map V.str))):=((x7.new hp8 _).new hp9 _).new hp10 _
 have h10:upd (upd (upd H7 p8 (.lst (ks1.map V.str))) p9 (.lst (ks2.map V.str))) p10 (.lst (ks1.map V.str++ks2.map V.str)) p10=some (.lst ((ks1++ks2).map V.str)):=by rw[af,List.map_append]
 generalize upd (upd (upd H7 p8 (.lst (ks1.map V.str))) p9 (.lst (ks2.map V.str))) p10 (.lst (ks1.map V.str++ks2.map V.str))=H10 at x10 h10⊢
 refine⟨Nat.zero_le _,fun l hl=>?_⟩
 have hfl:H l=none:=Ext.free x10 hl
 have nlr:l≠r:=fun z=>by subst z;obtain⟨a,b,z⟩:=x10.2;rw[hl]at z;cases z
 have n10:p10≠l:=au h10 hl
 have x11:Ext r H (upd H10 l (.lst [])):=x10.new hl _
 refine⟨_,rfl,_,rfl,by omega,by omega,?_⟩
 refine iz (n:=m) (fun i σ Hi=>∃(xs:List Str) (v9 v10 v11:Option V),σ=[some (.ref r),some (.int m),some (.str "abcdefghijklmnopqrstuvwxyz"),some (.str y),some (.int d1),some (.int d2),some (.int d3),some (.ref p10),some (.ref l),v9,v10,v11]/\xs.length=i/\((∀x∈xs,x.length<=10)/\(∀x∈xs,Lo x)/\∀j x,xs[j]?=some x->nY (Txt.slice y none (some d2)).cps.toList d1 j x)/\Hi l=some (.lst (xs.map V.str))/\Hi p10=some (.lst ((ks1++ks2).map V.str))/\Ext r H Hi)
  ⟨[],none,none,none,rfl,rfl,⟨(fun _ h=>nomatch h),(fun _ h=>nomatch h),(fun j x h=>by simp at h)⟩,af,by rw[ay n10];exact h10,x11⟩ ?_ ?_
 ·rintro i σ Hi hi ⟨xs,v9,v10,v11,rfl,hxl,⟨hxs,hlx,hnm⟩,hli,hpi,xi⟩
  have hm:0<=(d1+7*(0+(i:Int))) % 26/\(d1+7*(0+(i:Int))) % 26<26:=by omega
  obtain⟨c,hc1,hc2⟩:=atS (z:="abcdefghijklmnopqrstuvwxyz") (r:=(d1+7*(0+(i:Int))) % 26) hm.1 hm.2
  refine⟨_,rfl,_,rfl,_,rfl,_,_,rfl,rfl,.inl ⟨by decide,by decide⟩,_,_,rfl,rfl,_,_,rfl,rfl,(by show(0:Int)<26;decide),_,_,c,rfl,rfl,(by decide +kernel),hc1,?_⟩
  have la:=PySem.Txt.slice_le y none (some d2)
  have lb:=PySem.Txt.slice_le y (some d2) (some ((d3+(0+(i:Int))) % 5))
  refine⟨_,rfl,_,rfl,_,rfl,_,rfl,small (by omega),_,rfl,_,_,rfl,rfl,small (by show _+1<=1000;omega),?_⟩
  refine⟨_,rfl,_,rfl,_,rfl,_,rfl,_,rfl,_,_,rfl,rfl,_,_,rfl,rfl,(by show(0:Int)<5;decide),_,rfl,_,rfl,small (by omega),?_⟩
  have lc:(Txt.slice y none (some d2)++(⟨#[c]⟩:Str)).length=(Txt.slice y none (some d2)).length+1:=by rw[strLen_append];rfl
  refine⟨_,_,rfl,rfl,small (by omega),?_⟩
  have ln:(Txt.slice y none (some d2)++(⟨#[c]⟩:Str)++Txt.slice y (some d2) (some ((d3+(0+(i:Int))) % 5))).length<=9:=by rw[strLen_append];omega
  have hl0:Lo (Txt.slice y none (some d2)++(⟨#[c]⟩:Str)++Txt.slice y (some d2) (some ((d3+(0+(i:Int))) % 5))):=((hy.slice _ _).append (Lo.one hc2)).append (hy.slice _ _)
  have hn0:nY (Txt.slice y none (some d2)).cps.toList d1 i (Txt.slice y none (some d2)++(⟨#[c]⟩:Str)++Txt.slice y (some d2) (some ((d3+(0+(i:Int))) % 5))):=by
   refine nY.snoc ⟨c,[],?_,?_⟩ _
   ·rw[Int.zero_add]at hc1;exact hc1
   ·show((Txt.slice y none (some d2)).cps++#[c]).toList=_
    rw[Array.toList_append]
  generalize Txt.slice y none (some d2)++(⟨#[c]⟩:Str)++Txt.slice y (some d2) (some ((d3+(0+(i:Int))) % 5))=nm at ln hn0 hl0⊢
  refine⟨_,rfl,.inl ⟨rfl,_,cy.of hli⟩,_,rfl,_,rfl,_,rfl,p10,_,rfl,.inl (cy.of hpi),rfl,jF _,.inr ⟨_,rfl,?_⟩⟩
  generalize BS (V.str nm) ((ks1++ks2).map V.str)=b
  have lq1:(Str.ofString "q").length=1:=by decide
  have lq:(Txt.mul (Str.ofString "q") (if b=true then 1 else 0)).length<=1:=by have:=Cc b "q";rw[lq1]at this;exact this
  have lq':(Txt.mul (Str.ofString "q") (if(if false=true then !b else b)=true then 1 else 0)).length<=1:=lq
  refine⟨_,_,rfl,rfl,by split<;>omega,by split<;>omega,?_,?_⟩
  ·rw[lq1];exact small (by cases b<;>decide)
  refine⟨_,_,rfl,rfl,small (by omega),?_⟩
  refine⟨l,_,_,rfl,rfl,hli,by rw[List.length_map];exact aZ (by omega),?_⟩
  refine⟨xs++[nm++Txt.mul "q" (if b then 1 else 0)],_,_,_,rfl,by rw[List.length_append,hxl];rfl,⟨fun x hx=>?_,fun x hx=>?_,fun j x hx=>?_⟩,by rw[af,List.map_append];rfl,by rw[ay n10];exact hpi,?_⟩
  ·rcases List.mem_append.mp hx with h|h
   ·exact hxs x h
   ·rw[List.mem_singleton.mp h,strLen_append];omega
  ·rcases List.mem_append.mp hx with h|h
   ·exact hlx x h
   ·rw[List.mem_singleton.mp h];exact hl0.append (Lo.q b)
  ·by_cases cj:j<xs.length
   ·rw[List.getElem?_append_left cj]at hx;exact hnm j x hx
   ·have hj:j=i:=by have:=(List.getElem?_eq_some_iff.mp hx).1;rw[List.length_append]at this;simp at this;omega
    subst hj
    rw[List.getElem?_append_right (by omega),hxl,Nat.sub_self]at hx
    simp at hx
    rw[←hx]
    exact hn0.snoc _
  ·refine⟨fun b o nb e=>?_,?_⟩
   ·rw[ay (au e hfl)];exact xi.1 b o nb e
   ·obtain⟨a,b,z⟩:=xi.2
    exact⟨a,b,by rw[ay nlr.symm];exact z⟩
 ·rintro σ Hi ⟨xs,v9,v10,v11,rfl,hxl,⟨hxs,hlx,hnm⟩,hli,hpi,xi⟩
  have fin:∀(Hf:Hp) (ys:List Str),Ext r H Hf->Hf l=some (.lst (ys.map V.str))->ys.length=m->(∀x∈ys,x.length<=20/\Lo x)->Un ys->Q (.ref l) Hf:=fun Hf ys a b c d=>k l Hf ys a hfl b c d
  have ret:∀{Hf:Hp}(ys:List Str),Ext r H Hf->Hf l=some (.lst (ys.map V.str))->ys.length=m->(∀x∈ys,x.length<=20/\Lo x)->Un ys->Aq (iN 8) {nx:=fun _ H'=>Q .gp H',rt:=Q} [some (.ref r),some (.int m),some (.str "abcdefghijklmnopqrstuvwxyz"),some (.str y),some (.int d1),some (.int d2),some (.int d3),some (.ref p10),some (.ref l),v9,v10,v11] Hf:=fun ys a b c d u=>⟨_,rfl,fin _ ys a b c d u⟩
  have un:Un xs:=nY.DA (by omega) hnm
  have x20:∀x∈xs,x.length<=20/\Lo x:=fun x hx=>⟨Nat.le_trans (hxs x hx) (by decide),hlx x hx⟩
  refine⟨_,rfl,_,_,rfl,rfl,_,rfl,ck (fun c=>?_) (fun c=>?_)⟩
  ·have c1:1<m:=by have z:(1:Int)<(m:Int):=of_decide_eq_true c;omega
   obtain⟨xs',x2,x1,rfl⟩:∃xs' x2 x1,xs=xs'++[x2,x1]:=by
    rcases List.eq_nil_or_concat xs with rfl|⟨a,x1,rfl⟩
    ·simp at hxl;omega
    rcases List.eq_nil_or_concat a with rfl|⟨b,x2,rfl⟩
    ·simp at hxl;omega
    exact⟨b,x2,x1,by simp⟩
   have l2:x2.length<=10:=hxs x2 (by simp)
   have a2:jC ((xs'++[x2,x1]).map V.str) (-2)=some (.str x2):=by rw[List.map_append];exact A9 _ _ _
   refine⟨_,rfl,_,rfl,l,_,_,_,rfl,rfl,cy.of hli,a2,_,rfl,small (by omega),_,_,rfl,rfl,_,rfl,ck (fun c=>?_) (fun c=>?_)⟩
   ·refine⟨_,rfl,r,4,rfl,by decide,by decide,xi.2,fun d4 H11 _ _ e11=>?_⟩
    have xj:=xi.trans e11
    have hlj:=e11.1 l _ nlr hli
    refine⟨rfl,_,rfl,ck (fun c=>?_) (fun c=>?_)⟩
    ·refine⟨_,rfl,_,rfl,l,_,_,_,rfl,rfl,cy.of hlj,a2,_,_,rfl,rfl,small (by show _+1<=1000;omega),?_⟩
     refine⟨_,rfl,_,rfl,l,_,_,xs'.length+1,rfl,rfl,hlj,?_,?_⟩
     ·exact tU _ _ (by simp)
     refine ret (xs'++[x2,x2++Str.ofString "q"]) ?_ ?_ ?_ ?_ (nY.last (by omega) (by decide) hnm)
     ·refine⟨fun b o nb e=>?_,?_⟩
      ·rw[ay (au e hfl)];exact xj.1 b o nb e
      ·obtain⟨a,b,z⟩:=xj.2
       exact⟨a,b,by rw[ay nlr.symm];exact z⟩
     ·rw[af];simp
     ·rw[←hxl];simp
     ·intro x hx
      simp at hx
      rcases hx with h|rfl|rfl
      ·exact x20 x (by simp[h])
      ·exact⟨by omega,hlx _ (by simp)⟩
      ·refine⟨?_,(hlx x2 (by simp)).append Lo.q1⟩
       rw[strLen_append];have:(Str.ofString "q").length=1:=by decide
       omega
    ·exact ret _ xj hlj hxl x20 un
   ·exact ret _ xi hli hxl x20 un
  ·exact ret _ xi hli hxl x20 un
end
structure lU(l:Addr) (H H':Hp):Prop where
 oth:∀b o,b≠l->H b=some o->H' b=some o
 kt:Kt H H'
theorem lU.refl{l:Addr}{H:Hp}:lU l H H:=⟨fun _ _ _ e=>e,Kt.refl⟩
theorem lU.trans{l:Addr}{H H1 H2:Hp}(a:lU l H H1)(b:lU l H1 H2):lU l H H2:=⟨fun c o n e=>b.oth c o n (a.oth c o n e),a.kt.trans b.kt⟩
theorem lU.same{l:Addr}{H H1 H2:Hp}(a:lU l H H1)(s:aI H1 H2):lU l H H2:=⟨fun c o n e=>s c o (a.oth c o n e),a.kt.trans (Kt.same s)⟩
theorem lU.upd{l:Addr}{H H1:Hp}{us:List V}{o:HO}(a:lU l H H1)(h:H1 l=some (.lst us)):lU l H (upd H1 l o):=⟨fun c o' n e=>by rw[ay n];exact a.oth c o' n e,a.kt.trans (Kt.lst h o)⟩
theorem lU.new{l:Addr}{H H1:Hp}(a:lU l H H1)(h:H l=none):aI H H1:=fun b o e=>a.oth b o (au e h) e
noncomputable def zH(K:PySem.W.Frag)(n:Nat):Sp:=fun vs H Q _=>∃(lo lf:Addr) (vk:V) (k:Kk) (os ns:List Int),vs=[vk,.ref lo,.ref lf]/\Rp K H (dz k) vk/\k.dep<n/\H lo=some (.lst (os.map V.int))/\H lf=some (.lst (ns.map V.int))/\os.length+k.kY.toList.length<=ns.length/\ns.length<=100 /\
 ∀(v:V) (H':Hp) (k':Kk),lU lo H H'->H' lo=some (.lst ((os++k'.kY.toList).map V.int))->Rp K H' (dz k') v->k'.kY.toList.length=k.kY.toList.length->k'.dep=k.dep->(∀x∈k'.kY.toList,x∈ns)->Q v H'
noncomputable def uM(tm:Tm):List Int:=tm.parts.filterMap cR
theorem yd(h:Hd)(ks:List Tm):uM (.mk h ks)=(cR (.mk h ks)).toList++ks.flatMap uM:=by
 unfold uM
 rw[Tm.m6,List.filterMap_cons]
 have e:∀l:List Tm,(Tm.dO l).filterMap cR=l.flatMap fun t=>t.parts.filterMap cR:=by
  intro l
  induction l with
  |nil=>simp[Tm.dO]
  |cons x r ih=>rw[Tm.gU,List.filterMap_append,ih,List.flatMap_cons]
 rw[e]
 cases cR (.mk h ks)<;>rfl
theorem ye(tm:Tm):(uM tm).length<=tm.size:=by
 unfold uM
 exact Nat.le_trans (List.length_filterMap_le _ _) (by rw[Tm.fR];exact Nat.le_refl _)
theorem pN:∀ks:List Tm,(ks.flatMap uM).length<=Tm.sizes ks
 | []=>Nat.zero_le _
 |k::r=>by
  rw[List.flatMap_cons,List.length_append,Tm.bM]
  have:=ye k
  have:=pN r
  omega
noncomputable def mE(K:PySem.W.Frag)(n:Nat):Sp:=fun vs H Q _=>∃(v:V) (l:Addr) (tm:Tm) (ns:List Int),vs=[v,.ref l]/\Rp K H (enc tm) v/\Tok tm/\tm.depth<n/\H l=some (.lst (ns.map V.int))/\ns.length+tm.size<=900 /\
 ∀H':Hp,lU l H H'->H' l=some (.lst ((ns++uM tm).map V.int))->Q (.ref l) H'
structure TI(l:Addr) (H:Hp) (ns:List Int) (H':Hp):Prop where
 f:lU l H H'
 h:H' l=some (.lst (ns.map V.int))
section
variable {P:Program}{w:World}{K:PySem.W.Frag}{mg:Str->Option Value}{base:Heap}{gT gP gW gG gO:Addr}{tfd pfd wfd gfd ofd:FuncData}
theorem aU:Nm ["_law_kind","_law_opens","_law_fresh_here"] (ak di):=by decide +kernel
theorem lA:aN ["_law_kind","_law_opens","_law_fresh_here"] ["_law_kind","_law_opens","_law_fresh_here"] (ak di):=⟨rfl,rfl,rfl,by decide +kernel,rfl,by decide +kernel,by decide +kernel⟩
theorem nI{f:Addr}{fd:FuncData}{n j:Nat}(F:fJ K "_law_other_opens" "_law_other_opens" di f fd)(OO:bS P w K mg base "_law_other_opens" j ["_law_kind","_law_opens","_law_fresh_here"] (zH K n) gO ofd)(z_len:mg "len"=none)(z_tuple:mg "tuple"=none)(z_isinstance:mg "isinstance"=none):bT P w K mg base fk (j+1) f fd ["_law_kind","_law_opens","_law_fresh_here"] (zH K (n+1)):=by
 refine F.ok lA (fun vs H Q E h=>?_) (fun cdv A outer s H vs Q E hr h=>?_)
 ·obtain⟨_,_,_,_,_,_,rfl,_⟩:=h
  rfl
 obtain⟨lo,lf,vk,kk,os,ns,rfl,rk,kdp,hlo,hlf,hos,hns,k⟩:=h
 refine⟨_,(Z5 (Zf (PW.pt (@bW _ _ _ _ _ _ _ (@dQ _ _ _ (Z2 (cT K rfl) z_isinstance PyProof.Rows.boot_isinstance (Z1 (va aU 0) (Zb (cY (v:=.ty "tuple") (by show _=_;kernel_rfl) z_tuple (by decide +kernel) rfl)))) (by intro _;rfl)) (@cE _ _ _ _ (Zc bJ (Za aD (va aU 0)) az)))) (Zd (Zq (Zk (Z1 az (Z1 (Z0 OO (Z1 (Za aD (va aU 0)) (Z1 (va aU 1) (Zb (va aU 2))))) ao)))))) (Z5 (Zf (PW.pt (@bW _ _ _ _ _ _ _ (@dQ _ _ _ (Z2 (cT K rfl) z_isinstance PyProof.Rows.boot_isinstance (Z1 (va aU 0) (Zb (cY (v:=.ty "tuple") (by show _=_;kernel_rfl) z_tuple (by decide +kernel) rfl)))) (by intro _;rfl)) (@cE _ _ _ _ (Zc bJ (Za aD (va aU 0)) az)))) (Z5 (Zp (Z7 PySem.F.slot_list_append PySem.F.type_list_append bG (va aU 1) (Z1 (Zm bg (va aU 2) (Z2 aB z_len PySem.boot_len (Zb (va aU 1)))) ao))) (Zd (Zq (Zk (Z1 az (Z1 (gm bg (va aU 1) (lD ji aj) (fun _ _=>rfl)) ao))))))) (Zd (bQ (va aU 0))))),?_⟩
 try dsimp only[bU]
 try dsimp only[bU]
 cases kk with
 |num =>
  obtain rfl:=(show Rp K H (.s "num") vk from rk).aF
  fail "R"
  refine .inr (.inl ⟨_,rfl,?_⟩)
  fail "R"
  refine .inr (.inl ⟨_,rfl,?_⟩)
  fail "R"
  exact k _ H .num lU.refl (by rw[show(Kk.num.kY).toList=[]from rfl,List.append_nil];exact hlo) .s rfl rfl (fun x h=>nomatch h)
 |kd x =>
  obtain⟨ka,k1,k2,rfl,ksq,g1,g2⟩:=(show Rp K H (.t [.s "kind",.s x]) vk from rk).t2
  obtain rfl:=g1.aF
  fail "R"
  refine .inl ⟨_,_,rfl,ksq,?_⟩
  fail "R"
  refine .inl ⟨_,_,rfl,ksq,?_⟩
  fail "R"
  exact k _ H (.kd x) lU.refl (by rw[show((Kk.kd x).kY).toList=[]from rfl,List.append_nil];exact hlo) rk rfl rfl (fun x h=>nomatch h)
 |op m =>
  obtain⟨ka,k1,k2,rfl,ksq,g1,g2⟩:=(show Rp K H (.t [.s "open",.i m]) vk from rk).t2
  obtain rfl:=g1.aF
  have hos1:os.length+1<=ns.length:=hos
  have hat:jC (ns.map V.int) ((os.map V.int).length:Int)=some (.int (ns[os.length]'(by omega))):=by
   rw[List.length_map]
   exact cF (by rw[List.getElem?_map,List.getElem?_eq_getElem (by omega)];rfl)
  have los:(os.map V.int).length<sizeLine:=aZ (by rw[List.length_map];omega)
  have hq:ns[os.length]'(by omega)∈ns:=List.getElem_mem _
  generalize ns[os.length]'(by omega)=q at hat hq
  have hl6:jC (os.map V.int++[V.int q]) (-1)=some (.int q):=by
   unfold jC
   rw[tU _ (os.map V.int).length (by rw[List.length_append];rfl),Option.bind_some]
   simp
  have f6:=lU.refl.upd (o:=.lst (os.map V.int++[V.int q])) hlo
  fail "R"
  refine .inl ⟨_,_,rfl,ksq,?_⟩
  fail "R"
  refine .inl ⟨_,_,rfl,ksq,?_⟩
  fail "R"
  intro p7 hp7
  have s7:=ae hp7 (.tup [.str "open",.int q])
  refine k _ _ (.op q) (f6.same s7) ?_ (Rp.new (K:=K) hp7 (.cons .s (.one .i))) rfl rfl (fun x h=>by rw[List.mem_singleton.mp h];exact hq)
  rw[show((Kk.op q).kY).toList=[q]from rfl,List.map_append]
  exact s7 _ _ af
 |row k2 =>
  obtain⟨ka,v1,v2,rfl,ksq,g1,g2⟩:=(show Rp K H (.t [.s "row",dz k2]) vk from rk).t2
  obtain rfl:=g1.aF
  have kd2:k2.dep<n:=by have:Kk.dep (.row k2)=k2.dep+1:=rfl;omega
  have hos1:os.length+k2.kY.toList.length<=ns.length:=hos
  fail "R"
  refine .inl ⟨_,_,rfl,ksq,?_⟩
  fail "R"
  intro v3 H3 k3 f3 h3 r3 e3 d3 b3
  fail "R"
  intro p4 hp4
  have s4:=ae hp4 (.tup [.str "row",v3])
  exact k _ _ (.row k3) (f3.same s4) (s4 _ _ h3) (Rp.new (K:=K) hp4 (.cons .s (.one r3))) e3 (by show k3.dep+1=k2.dep+1;omega) b3
theorem cC:Nm ["_law_term_here","_law_found","_law_inner"] (ak cS):=by decide +kernel
theorem lV:Lm ["_law_term_here","_law_found","_law_inner"] (ak cS):=by decide +kernel
theorem i6:aN ["_law_term_here","_law_found","_law_inner"] ["_law_term_here","_law_found"] (ak cS):=⟨rfl,rfl,rfl,by decide +kernel,rfl,by decide +kernel,by decide +kernel⟩
theorem oA{f:Addr}{fd:FuncData}{n j:Nat}(hj:1<=j)(F:fJ K "_law_terms_gaps" "_law_terms_gaps" cS f fd)(WI:bS P w K mg base "_law_within" 1 ["_law_term_here"] (nH K) gW wfd)(TS:bS P w K mg base "_law_terms_gaps" j ["_law_term_here","_law_found"] (mE K n) gG gfd):bT P w K mg base fk (j+1) f fd ["_law_term_here","_law_found"] (mE K (n+1)):=by
 refine F.ok i6 (fun vs H Q E h=>?_) (fun cdv A outer s H vs Q E hr h=>?_)
 ·obtain⟨_,_,_,_,rfl,_⟩:=h
  rfl
 obtain⟨v,l,tm,ns,rfl,rv,tk,hd,hl,hz,k⟩:=h
 refine⟨_,(Z5 (Zf (Zc bJ (Za aD (va cC 0)) az) (Zd (Zp (Z7 PySem.F.slot_list_append PySem.F.type_list_append bG (va cC 1) (Z1 (Za aD (va cC 0)) ao))))) (Z5 (Zi (@dw _ _ _ _ (Z0 WI (Zb (va cC 0)))) (ga i6.nd lV 2) (Zd (Zp (Z0 TS (Z1 (va cC 2) (Zb (va cC 1))))))) (Zd (bQ (va cC 1))))),?_⟩
 try dsimp only[bU]
 try dsimp only[bU]
 have wf:=tk.wf
 obtain⟨h,ks⟩:=tm
 cases tk with
 |mk ar lk tks =>
 have hsz:=Tm.eB h ks
 have sz9:(Tm.mk h ks).size<=900:=by omega
 obtain⟨rest,er⟩:=kX (.mk h ks)
 have rv0:=rv
 rw[er]at rv
 obtain⟨va,vvs,rfl,vsq,rvs⟩:=rv.aC
 obtain⟨v1,us,rfl,r1,rus⟩:=aO.inv (K:=K) (x:=.s (hdS (Tm.mk h ks).hd)) rvs
 obtain rfl:=r1.aF
 have a0:=vF (V.str (hdS (Tm.mk h ks).hd)) us
 refine ki ?_
 intro N1 N2 c1 c2
 have rest:∀H1:Hp,TI l H (ns++(cR (.mk h ks)).toList) H1->N1 [some (.ref va),some (.ref l),none] H1:=by
  intro H1 t1
  have rv1:=rv0.kt t1.f.kt
  fail "R"
  intro lw H2 ws s2 hlw h2 r2
  have nlw:lw≠l:=(au t1.h hlw).symm
  fail "R"
  refine qU (K:=K) (xs:=ws) (fun i σ H3=>(∃y,σ=[some (.ref va),some (.ref l),y])/\TI l H (ns++(cR (.mk h ks)).toList++(ks.take i).flatMap uM) H3/\H3 lw=some (.lst ws)/\Kt H2 H3) ⟨⟨_,rfl⟩,⟨t1.f.same s2,by rw[List.take_zero,List.flatMap_nil,List.append_nil];exact s2 _ _ t1.h⟩,h2,Kt.refl⟩ ?_ ?_ ?_
  ·rintro i σ H3 hi ⟨_,_,h3,_⟩
   exact cy.of h3
  ·rintro i x σ H3 hx ⟨⟨_,rfl⟩,t3,h3w,k3⟩
   obtain⟨tt,ht,rt⟩:=r2.get' hx
   rw[List.getElem?_map]at ht
   obtain⟨q,hq,rfl⟩:=Option.map_eq_some_iff.mp ht
   replace hq:ks[i]?=some q:=hq
   have hm:q∈ks:=List.mem_of_getElem? hq
   have tkq:=tks q hm
   have hdq:q.depth<n:=by have:=Tm.iC (h:=h) hm;omega
   have rt3:=rt.kt k3
   have t3h:=t3.h
   have hgl:=pN (ks.take i)
   have hst:=jU hq
   have hst2:Tm.sizes (ks.take (i+1))<=Tm.sizes ks:=by
    conv=>rhs;rw[←List.take_append_drop (i+1) ks]
    rw[Tm.bj];omega
   have hgp:(cR (.mk h ks)).toList.length<=1:=by cases cR (.mk h ks)<;>simp
   have hz3:(ns++(cR (.mk h ks)).toList++(ks.take i).flatMap uM).length+q.size<=900:=by
    rw[List.length_append,List.length_append]
    omega
   fail "R"
   intro H4 f4 h4
   have ei:(ks.take (i+1)).flatMap uM=(ks.take i).flatMap uM++uM q:=by
    have hil:=(List.getElem?_eq_some_iff.mp hq).1
    rw[List.take_succ_eq_append_getElem hil,(List.getElem?_eq_some_iff.mp hq).2,List.flatMap_append]
    simp
   fail "R"
   ·refine⟨t3.f.trans f4,?_⟩
    rw[ei,←List.append_assoc]
    exact h4
   exact⟨f4.oth _ _ nlw h3w,k3.trans f4.kt⟩
  ·rintro σ H3 ⟨⟨_,rfl⟩,t3,h3w,k3⟩
   have lws:=r2.length
   rw[List.length_map]at lws
   fail "R"
   refine k H3 t3.f ?_
   have:=t3.h
   rw[lws,show(Tm.mk h ks).ks=ks from rfl,List.take_length]at this
   rw[yd,←List.append_assoc]
   exact this
 clear c1 c2
 fail "R"
 refine ck (fun c=>?_) (fun c=>?_)
 ·have eg:hdS h="gap":=by injection(of_decide_eq_true c)
  obtain⟨m,rfl,rfl⟩:=tS ar eg
  rw[cZ]at rv0
  obtain⟨ga,w1,w2,ez,gsq,q1,q2⟩:=(show Rp K H (.t [.s "gap",.i m]) (.ref va)from rv0).t2
  cases ez
  obtain rfl:=q2.dB
  have lns:(ns.map V.int).length<sizeLine:=aZ (by rw[List.length_map];omega)
  fail "R"
  refine rest _ ⟨lU.refl.upd hl,?_⟩
  rw[List.map_append]
  exact af
 ·fail "R"
  refine rest H ⟨lU.refl,?_⟩
  have e0:cR (.mk h ks)=none:=by
   cases e:cR (.mk h ks)with
   |none=>rfl
   |some m =>
    have g:=uA (.mk h ks)
    rw[e]at g
    exact absurd g c
  rw[e0,show(none:Option Int).toList=[]from rfl,List.append_nil]
  exact hl
end
end G03
namespace L2
open PySem PySem.Spec PyProof.Rows
noncomputable def jV(b:Bool)(h:Heap)(l:Addr)(xs:Array Value):Prop:=match b with|false=>h.IsList l xs|true=>h.IsTuple l xs
noncomputable def jb(b:Bool)(h:Heap)(i l:Addr)(k:Nat):Prop:=match b with|false=>h.IsListIter i l k|true=>h.IsTupleIter i l k
theorem jV.at{b:Bool}{h h':Heap}{l:Addr}{xs:Array Value}(x:jV b h l xs)(k:∀o,h.get? l=some o->h'.get? l=some o):jV b h' l xs:=by
 cases b with
 |false=>exact Heap.IsList.at (show h.IsList l xs from x) k
 |true=>obtain⟨o,e,r⟩:=(show h.IsTuple l xs from x);exact⟨o,k o e,r⟩
theorem jb.at{b:Bool}{h h':Heap}{i l:Addr}{n:Nat}(x:jb b h i l n)(k:∀o,h.get? i=some o->h'.get? i=some o):jb b h' i l n:=by
 cases b with
 |false=>exact Heap.IsListIter.at (show h.IsListIter i l n from x) k
 |true=>obtain⟨o,e,r⟩:=(show h.IsTupleIter i l n from x);exact⟨o,k o e,r⟩
theorem jV.extBut{b:Bool}{h h':Heap}{l c:Addr}{xs:Array Value}(x:jV b h l xs)(hs:Heap.ExtBut c h h')(hc:l≠c):jV b h' l xs:=x.at fun o e=>hs l o hc e
theorem jb.extBut{b:Bool}{h h':Heap}{i l c:Addr}{n:Nat}(x:jb b h i l n)(hs:Heap.ExtBut c h h')(hc:i≠c):jb b h' i l n:=x.at fun o e=>hs i o hc e
theorem jV.got{b:Bool}{h:Heap}{l:Addr}{xs:Array Value}(x:jV b h l xs):∃o,h.get? l=some o:=by
 cases b with
 |false=>obtain⟨o,e,_⟩:=(show h.IsList l xs from x);exact⟨o,e⟩
 |true=>obtain⟨o,e,_⟩:=(show h.IsTuple l xs from x);exact⟨o,e⟩
theorem jb.got{b:Bool}{h:Heap}{i l:Addr}{n:Nat}(x:jb b h i l n):∃o,h.get? i=some o:=by
 cases b with
 |false=>obtain⟨o,e,_⟩:=(show h.IsListIter i l n from x);exact⟨o,e⟩
 |true=>obtain⟨o,e,_⟩:=(show h.IsTupleIter i l n from x);exact⟨o,e⟩
section
variable {prog:Program}{w:World}{A:Around}{E:Value->Shared->Prop}{s:Shared}
theorem oB{it t:Addr}{i:Nat}{items:Array Value}{x:Value}{Q:Value->Shared->Prop}(hit:s.heap.IsTupleIter it t i)(ht:s.heap.IsTuple t items)(hx:items[i]?=some x)
  (hQ:∀h',h'.IsTupleIter it t (i+1)->Heap.SameBut it s.heap h'->Q x {s with heap:=h'}):wpAny (model prog w) A (Builtin.SmallTypes.nextOf (.ref it)) Q E s:=by
 obtain⟨o,ho,hc,hd⟩:=id hit
 obtain⟨ol,hol,_,nl,hdl⟩:=ht
 have hT:=hit.typeIs
 unfold Builtin.SmallTypes.nextOf
 refine wpAny_bind (wpAny_callSpecial?_slot (name:=Str.ofString "__next__") hT PySem.F.slot_tuple_iterator_next (wpAny_call_entry PySem.F.slot_tuple_iterator_next hT PySem.F.entry_tuple_iterator_next ?_ (PySem.F.args_tuple_iterator_next_1 _)))
 show wpAny _ _ (field (.ref it) 0>>=_) _ _ s
 refine wpAny_bind (wpAny_field ho hd (x:=.ref t) rfl ?_)
 show wpAny _ _ (if(Value.ref t == Value.none)=true then _ else _) _ _ s
 rw[if_neg (show ¬((Value.ref t == Value.none)=true)from Bool.false_ne_true)]
 show wpAny _ _ (field (.ref it) 1>>=_) _ _ s
 refine wpAny_bind (wpAny_field ho hd (x:=.int i 0) rfl ?_)
 show wpAny _ _ (seqItems? (.ref t)>>=_) _ _ s
 refine wpAny_bind (wpAny_seqItems hol hdl ?_)
 simp only[Int.toNat_natCast,hx]
 refine wpAny_bind (wpAny_setField ho hd (by simp) (wpAny_pure ⟨x,rfl,wpAny_pure (hQ _ ⟨_,Heap.get?_update_self _ ho (Obj.isFreed_of_fields (Obj.data_mapFields hd _)),(Obj.cls_mapFields ..).trans hc,?_⟩ (Heap.SameBut.update ..))⟩))
 rw[Obj.data_mapFields hd];simp[rawInt]
theorem qM{it t:Addr}{i:Nat}{items:Array Value}{Q:Value->Shared->Prop}(hh:A.handled=none)(hit:s.heap.IsTupleIter it t i)(ht:s.heap.IsTuple t items)(hx:items[i]?=none)
  (hE:∀h' e,Heap.ExtBut it s.heap h'->(∃o,h'.get? e=some o/\o.cls=.type "StopIteration")->E (.ref e) {s with heap:=h'}):wpAny (model prog w) A (Builtin.SmallTypes.nextOf (.ref it)) Q E s:=by
 obtain⟨o,ho,hc,hd⟩:=id hit
 obtain⟨ol,hol,_,nl,hdl⟩:=ht
 have hT:=hit.typeIs
 unfold Builtin.SmallTypes.nextOf
 refine wpAny_bind (wpAny_callSpecial?_slot (name:=Str.ofString "__next__") hT PySem.F.slot_tuple_iterator_next (wpAny_call_entry PySem.F.slot_tuple_iterator_next hT PySem.F.entry_tuple_iterator_next ?_ (PySem.F.args_tuple_iterator_next_1 _)))
 show wpAny _ _ (field (.ref it) 0>>=_) _ _ s
 refine wpAny_bind (wpAny_field ho hd (x:=.ref t) rfl ?_)
 show wpAny _ _ (if(Value.ref t == Value.none)=true then _ else _) _ _ s
 rw[if_neg (show ¬((Value.ref t == Value.none)=true)from Bool.false_ne_true)]
 show wpAny _ _ (field (.ref it) 1>>=_) _ _ s
 refine wpAny_bind (wpAny_field ho hd (x:=.int i 0) rfl ?_)
 show wpAny _ _ (seqItems? (.ref t)>>=_) _ _ s
 refine wpAny_bind (wpAny_seqItems hol hdl ?_)
 simp only[Int.toNat_natCast,hx]
 refine wpAny_bind (wpAny_rule (wpAny_bind (wpAny_setField ho hd (by simp) ?_)))
 show wpAny _ _ (newExc (.type "StopIteration") []>>=_) _ _ _
 refine wpAny_bind ?_
 simp only[newExc,newTuple]
 refine wpAny_bind (wpAny_newObj_type ?_ (by size_fits))
 refine wpAny_bind (m:=firstArgMember _ _) (wpAny_of_eq (a:=Value.none) (by first|rfl|(simp only[firstArgMember];rfl)) ?_)
 refine wpAny_newObj_type ?_ (by size_fits)
 simp only[raiseNew]
 refine wpAny_bind (wpAny_handled ?_)
 first|rw[show A.in1.handled=none from hh]|rw[hh]
 refine wpAny_bind (wpAny_pure (wpAny_throw ?_))
 exact hE _ _ (((Heap.SameBut.update ..).extBut.push _).push _) ⟨_,Heap.get?_push_size _ rfl,rfl⟩
theorem iM{b:Bool}{it l:Addr}{i:Nat}{items:Array Value}{x:Value}{Q:Value->Shared->Prop}(hit:jb b s.heap it l i)(hl:jV b s.heap l items)(hx:items[i]?=some x)
  (hQ:∀h',jb b h' it l (i+1)->Heap.SameBut it s.heap h'->Q x {s with heap:=h'}):wpAny (model prog w) A (Builtin.SmallTypes.nextOf (.ref it)) Q E s:=by
 cases b with
 |false=>exact wpAny_nextOf_list_item hit hl hx hQ
 |true=>exact oB hit hl hx hQ
theorem mF{b:Bool}{it l:Addr}{i:Nat}{items:Array Value}{Q:Value->Shared->Prop}(hh:A.handled=none)(hit:jb b s.heap it l i)(hl:jV b s.heap l items)(hx:items[i]?=none)
  (hE:∀h' e,Heap.ExtBut it s.heap h'->(∃o,h'.get? e=some o/\o.cls=.type "StopIteration")->E (.ref e) {s with heap:=h'}):wpAny (model prog w) A (Builtin.SmallTypes.nextOf (.ref it)) Q E s:=by
 cases b with
 |false=>exact wpAny_nextOf_list_end hh hit hl hx hE
 |true=>exact qM hh hit hl hx hE
noncomputable abbrev nJ(b:Bool)(l:Addr):Obj:={cls:=.type (cond b "tuple_iterator" "list_iterator"),data:=.fields #[.ref l,.int 0 0]}
theorem Ag{b:Bool}{l:Addr}{items:Array Value}{Q:Value->Shared->Prop}(hl:jV b s.heap l items)(hQ:Q (.ref s.heap.objs.size) {s with heap:=s.heap.push (nJ b l)}):wpAny (model prog w) A (pyIter (.ref l)) Q E s:=by
 cases b with
 |false=>exact wpAny_pyIter_list hl hQ
 |true=>exact wpAny_pyIter_tuple hl hQ
end
noncomputable abbrev CH(b1:Bool)(h:Heap)(l1:Addr):Heap:=h.push (nJ b1 l1)
noncomputable abbrev CJ(b1 b2:Bool)(h:Heap)(l1 l2:Addr):Heap:=(CH b1 h l1).push (nJ b2 l2)
noncomputable abbrev CK(b1 b2:Bool)(h:Heap)(l1 l2:Addr):Heap:=(CJ b1 b2 h l1 l2).push {cls:=.type "tuple",data:=.seq #[.ref h.objs.size,.ref (CH b1 h l1).objs.size]}
noncomputable abbrev CL(b1 b2:Bool)(h:Heap)(l1 l2:Addr):Heap:=(CK b1 b2 h l1 l2).push {cls:=.type "tuple",data:=.seq #[.none,.none]}
noncomputable abbrev Ba(b1 b2:Bool)(h:Heap)(l1 l2:Addr):Heap:=(CL b1 b2 h l1 l2).push {cls:=.type "zip",data:=.fields #[.none,.bool false,.bool false,.ref (CJ b1 b2 h l1 l2).objs.size,.ref (CK b1 b2 h l1 l2).objs.size]}
theorem Bb(b1 b2:Bool)(l1 l2:Addr)(xs ys:Array Value) :
  Meets (Builtin.«zip.__new__» ⟨[.type "zip",.ref l1,.ref l2],[]⟩) (fun _ R s=>jV b1 s.heap l1 xs/\jV b2 s.heap l2 ys/\R (.ok (.ret (.ref (CL b1 b2 s.heap l1 l2).objs.size))) {s with heap:=Ba b1 b2 s.heap l1 l2}) :=
 .of_wp fun prog w A R s h=>by
  obtain⟨hp,g,d,tk,os⟩:=s
  obtain⟨hl1,hl2,h⟩:=h
  have hsub:=sub_zip
  have hL1:jV b1 (Shared.heap ⟨hp,g,d,tk,os⟩) l1 xs:=hl1
  have hL2:jV b2 (Shared.heap ⟨hp.push (nJ b1 l1),g,d,tk,os⟩) l2 ys:=hl2.at fun o e=>Heap.get?_push_of_some _ e
  wp_walk using Ag hL1,Ag hL2
  exact⟨_,rfl,h⟩
section
variable {prog:Program}{w:World}{A:Around}{E:Value->Shared->Prop}{s:Shared}{b1 b2:Bool}
theorem Ah{b:Bool}{h:Heap}{i l:Addr}(e:h.get? i=some (nJ b l)):jb b h i l 0:=by
 cases b with
 |false=>exact⟨_,e,rfl,rfl⟩
 |true=>exact⟨_,e,rfl,rfl⟩
theorem uN{l1 l2:Addr}{xs ys:Array Value}{Q:Value->Shared->Prop}(hl1:jV b1 s.heap l1 xs)(hl2:jV b2 s.heap l2 ys)
  (h:∀h',IsZip h' (s.heap.objs.size+4) (s.heap.objs.size+2) (s.heap.objs.size+3) .none->IsPair h' (s.heap.objs.size+2) (.ref s.heap.objs.size) (.ref (s.heap.objs.size+1)) ->
   IsPair h' (s.heap.objs.size+3) .none .none->jb b1 h' s.heap.objs.size l1 0->jb b2 h' (s.heap.objs.size+1) l2 0->h'.objs.size=s.heap.objs.size+5 ->
   (∀c o,s.heap.get? c=some o->h'.get? c=some o)->Q (.ref (s.heap.objs.size+4)) {s with heap:=h'}) :
  wpAny (model prog w) A (call (.type "zip") [.ref l1,.ref l2]) Q E s:=by
 refine callType_new PySem.F.called_zip (by decide) (PySem.F.typeCall_zip_2 _ _) (PySem.F.newCall_zip_2 _ _) (fun obj=>PySem.F.args_object_init_3 obj _ _) PySem.F.entry_zip_new (Bb b1 b2 l1 l2 xs ys) ⟨hl1,hl2,?_⟩
 have z1:(CH b1 s.heap l1).objs.size=s.heap.objs.size+1:=Heap.size_push ..
 have z2:(CJ b1 b2 s.heap l1 l2).objs.size=s.heap.objs.size+2:=by rw[Heap.size_push,z1]
 have z3:(CK b1 b2 s.heap l1 l2).objs.size=s.heap.objs.size+3:=by rw[Heap.size_push,z2]
 have z4:(CL b1 b2 s.heap l1 l2).objs.size=s.heap.objs.size+4:=by rw[Heap.size_push,z3]
 have z5:(Ba b1 b2 s.heap l1 l2).objs.size=s.heap.objs.size+5:=by rw[Heap.size_push,z4]
 have up:∀{h:Heap}{c:Addr}{o:Obj}(x:Obj),h.get? c=some o->(h.push x).get? c=some o:=fun x e=>Heap.get?_push_of_some _ e
 have g5:(Ba b1 b2 s.heap l1 l2).get? (CL b1 b2 s.heap l1 l2).objs.size=some _:=Heap.get?_push_size _ rfl
 have g4:(Ba b1 b2 s.heap l1 l2).get? (CK b1 b2 s.heap l1 l2).objs.size=some _:=up _ (Heap.get?_push_size _ rfl)
 have g3:(Ba b1 b2 s.heap l1 l2).get? (CJ b1 b2 s.heap l1 l2).objs.size=some _:=up _ (up _ (Heap.get?_push_size _ rfl))
 have g2:(Ba b1 b2 s.heap l1 l2).get? (CH b1 s.heap l1).objs.size=some (nJ b2 l2):=up _ (up _ (up _ (Heap.get?_push_size _ rfl)))
 have g1:(Ba b1 b2 s.heap l1 l2).get? s.heap.objs.size=some (nJ b1 l1):=up _ (up _ (up _ (up _ (Heap.get?_push_size _ rfl))))
 show _/\_
 rw[z2,z3,z4]at g5
 rw[z1,z2]at g3
 rw[z3]at g4
 rw[z1]at g2
 rw[z4]
 exact⟨⟨_,g5,rfl⟩,h _ g5 g3 g4 (Ah g1) (Ah g2) z5 fun c o x=>up _ (up _ (up _ (up _ (up _ x))))⟩
theorem uO{z TI TO i1 i2 l1 l2:Addr}{k1 k2:Nat}{xs ys:Array Value}{x y a b:Value}{Q:Option Value->Shared->Prop}(D:ZipApart z TI TO i1 i2 l1 l2)(hz:IsZip s.heap z TI TO .none)(hTI:IsPair s.heap TI (.ref i1) (.ref i2))(hTO:IsPair s.heap TO a b)
  (h1:jb b1 s.heap i1 l1 k1) (h2:jb b2 s.heap i2 l2 k2) (hl1:jV b1 s.heap l1 xs) (hl2:jV b2 s.heap l2 ys) (hx:xs[k1]?=some x) (hy:ys[k2]?=some y)
  (hQ:∀h',IsZip h' z TI TO (rawInt s.heap.objs.size)->IsPair h' TO x y->jb b1 h' i1 l1 (k1+1)->jb b2 h' i2 l2 (k2+1)->IsPair h' s.heap.objs.size x y->h'.objs.size=s.heap.objs.size+1 ->
   (∀c o,c≠z->c≠TO->c≠i1->c≠i2->s.heap.get? c=some o->h'.get? c=some o)->Q (some (.ref s.heap.objs.size)) {s with heap:=h'}) :
  wpAny (model prog w) A (pyNext (.ref z)) Q E s:=by
 have hTy:s.TypeIs (.ref z) "zip":=⟨_,hz,rfl⟩
 unfold pyNext
 refine wpAny_bind (wpAny_attempt (wpAny_callSpecial?_slot (name:=Str.ofString "__next__") hTy PySem.F.slot_zip_next (wpAny_call_entry PySem.F.slot_zip_next hTy PySem.F.entry_zip_next ?_ (PySem.F.args_zip_next_1 _))))
 show wpAny _ _ (field (.ref z) 2>>=_) _ _ _
 refine wpAny_bind (wpAny_field hz rfl (x:=.bool false) rfl ?_)
 show wpAny _ _ (field (.ref z) 3>>=_) _ _ _
 refine wpAny_bind (wpAny_field hz rfl (x:=.ref TI) rfl (wpAny_bind (wpAny_seqItems hTI rfl ?_)))
 show wpAny _ _ (Builtin.SmallTypes.ownedTupleIsFree (.ref z)>>=_) _ _ _
 refine wpAny_bind ?_
 unfold Builtin.SmallTypes.ownedTupleIsFree
 refine wpAny_bind (wpAny_field hz rfl (x:=.none) rfl (wpAny_pure ?_))
 simp only[if_true]
 refine wpAny_bind (wpAny_rule (wpAny_bind (wpAny_field hz rfl (x:=.ref TO) rfl ?_)))
 refine wpAny_bind (wpAny_setField_rec hz (by simp) fun h₁ hz₁ hs₁=>?_)
 replace hz₁:IsZip h₁ z TI TO .ellipsis:=hz₁
 refine wpAny_bind ?_
 simp only[List.zipIdx_cons,List.zipIdx_nil,List.forIn_cons,List.forIn_nil]
 refine wpAny_bind (wpAny_bind (wpAny_onRaise ?_))
 show wpAny _ _ (Builtin.SmallTypes.nextOf (.ref i1)>>=_) _ _ _
 refine wpAny_bind (iM (h1.extBut hs₁.extBut D.i1z) (hl1.extBut hs₁.extBut D.l1z) hx fun h₂ h1₂ hs₂=>wpAny_pure ?_)
 have hTO₂:IsPair h₂ TO a b:=hs₂.extBut _ _ D.TOi1 (hs₁.extBut _ _ D.TOz hTO)
 refine wpAny_bind (wpAny_seqItems hTO₂ rfl (wpAny_bind (wpAny_updateSeq_pair hTO₂ fun h₃ hTO₃ hs₃=>?_)))
 replace hTO₃:IsPair h₃ TO x b:=hTO₃
 refine wpAny_bind (wpAny_letGo (wpAny_pure ?_))
 refine wpAny_bind (wpAny_bind (wpAny_onRaise ?_))
 show wpAny _ _ (Builtin.SmallTypes.nextOf (.ref i2)>>=_) _ _ _
 refine wpAny_bind (iM (((h2.extBut hs₁.extBut D.i2z).extBut hs₂.extBut D.i12.symm).extBut hs₃.extBut D.TOi2.symm) (((hl2.extBut hs₁.extBut D.l2z).extBut hs₂.extBut D.l2i1).extBut hs₃.extBut D.l2TO) hy fun h₄ h2₄ hs₄=>wpAny_pure ?_)
 have hTO₄:IsPair h₄ TO x b:=hs₄.extBut _ _ D.TOi2 hTO₃
 refine wpAny_bind (wpAny_seqItems hTO₄ rfl (wpAny_bind (wpAny_updateSeq_pair hTO₄ fun h₅ hTO₅ hs₅=>?_)))
 replace hTO₅:IsPair h₅ TO x y:=hTO₅
 refine wpAny_bind (wpAny_letGo (wpAny_pure (wpAny_pure (wpAny_bind (wpAny_seqItems hTO₅ rfl (wpAny_bind (wpAny_newTuple ?_)))))))
 have hsz:h₅.objs.size=s.heap.objs.size:=by rw[hs₅.1,hs₄.1,hs₃.1,hs₂.1,hs₁.1]
 have hz₅:IsZip h₅ z TI TO .ellipsis:=hs₅.extBut _ _ D.TOz.symm (hs₄.extBut _ _ D.i2z.symm (hs₃.extBut _ _ D.TOz.symm (hs₂.extBut _ _ D.i1z.symm hz₁)))
 have hk₅:∀c o,c≠z->c≠TO->c≠i1->c≠i2->s.heap.get? c=some o->h₅.get? c=some o:=fun c o c1 c2 c3 c4 e=>hs₅.extBut _ _ c2 (hs₄.extBut _ _ c4 (hs₃.extBut _ _ c2 (hs₂.extBut _ _ c3 (hs₁.extBut _ _ c1 e))))
 have h1₅:jb b1 h₅ i1 l1 (k1+1):=((h1₂.extBut hs₃.extBut D.TOi1.symm).extBut hs₄.extBut D.i12).extBut hs₅.extBut D.TOi1.symm
 have h2₅:jb b2 h₅ i2 l2 (k2+1):=h2₄.extBut hs₅.extBut D.TOi2.symm
 have hzlt:z<h₅.objs.size:=Heap.lt_size hz₅
 show wpAny _ _ (Builtin.SmallTypes.ownedTupleHandOut (.ref z) (.ref h₅.objs.size)>>=_) _ _ _
 refine wpAny_bind ?_
 unfold Builtin.SmallTypes.ownedTupleHandOut
 have hz₆:IsZip (h₅.push {cls:=.type "tuple",data:=.seq #[x,y]}) z TI TO .ellipsis:=Heap.get?_push_of_some _ hz₅
 refine wpAny_bind (wpAny_setField_rec hz₆ (by simp) fun h₇ hz₇ hs₇=>?_)
 replace hz₇:IsZip h₇ z TI TO (rawInt h₅.objs.size):=hz₇
 refine wpAny_setField_rec hz₇ (by simp) fun h₈ hz₈ hs₈=>?_
 replace hz₈:IsZip h₈ z TI TO (rawInt h₅.objs.size):=hz₈
 have up:∀c o,c≠z->h₅.get? c=some o->h₈.get? c=some o:=fun c o c1 e=>hs₈.extBut _ _ c1 (hs₇.extBut _ _ c1 (Heap.get?_push_of_some _ e))
 have hT₈:IsPair h₈ h₅.objs.size x y:=hs₈.extBut _ _ (Nat.ne_of_gt hzlt) (hs₇.extBut _ _ (Nat.ne_of_gt hzlt) (Heap.get?_push_size _ rfl))
 have hz8:h₈.objs.size=h₅.objs.size+1:=by rw[hs₈.1,hs₇.1,Heap.size_push]
 rw[hsz]at hz₈ hT₈ hz8
 refine wpAny_pure ⟨_,rfl,wpAny_pure ?_⟩
 show Q (some (.ref h₅.objs.size)) _
 rw[hsz]
 exact hQ h₈ hz₈ (up _ _ D.TOz hTO₅) (h1₅.at fun o e=>up _ o D.i1z e) (h2₅.at fun o e=>up _ o D.i2z e) hT₈ hz8 fun c o c1 c2 c3 c4 e=>up c o c1 (hk₅ c o c1 c2 c3 c4 e)
theorem yf{z TI TO i1 i2 l1 l2:Addr}{k1 k2:Nat}{xs ys:Array Value}{a b:Value}{Q:Option Value->Shared->Prop}(hh:A.handled=none)(D:ZipApart z TI TO i1 i2 l1 l2)(hz:IsZip s.heap z TI TO .none)(hTI:IsPair s.heap TI (.ref i1) (.ref i2))(hTO:IsPair s.heap TO a b)
  (h1:jb b1 s.heap i1 l1 k1) (h2:jb b2 s.heap i2 l2 k2) (hl1:jV b1 s.heap l1 xs) (hl2:jV b2 s.heap l2 ys) (hend:xs[k1]?=none\/ys[k2]?=none)
  (hQ:∀h',(∀c o,c≠z->c≠TO->c≠i1->c≠i2->s.heap.get? c=some o->h'.get? c=some o)->Q none {s with heap:=h'}):wpAny (model prog w) A (pyNext (.ref z)) Q E s:=by
 have hTy:s.TypeIs (.ref z) "zip":=⟨_,hz,rfl⟩
 have stop:∀(h':Heap) (e:Addr),(∀c o,c≠z->c≠TO->c≠i1->c≠i2->s.heap.get? c=some o->h'.get? c=some o)->(∃o,h'.get? e=some o/\o.cls=.type "StopIteration") ->
   wpAny (model prog w) A (do if(←isInstance (.ref e) (.type "StopIteration"))then pure none else throw (.ref e)) Q E {s with heap:=h'}:=fun h' e hk ⟨o,ho,hc⟩ =>
  wpAny_bind (wpAny_isInstance (T:="StopIteration") (b:=true) ⟨o,ho,hc⟩ isSubtype_stop (wpAny_pure (hQ _ hk)))
 unfold pyNext
 refine wpAny_bind (wpAny_attempt (wpAny_callSpecial?_slot (name:=Str.ofString "__next__") hTy PySem.F.slot_zip_next (wpAny_call_entry PySem.F.slot_zip_next hTy PySem.F.entry_zip_next ?_ (PySem.F.args_zip_next_1 _))))
 show wpAny _ _ (field (.ref z) 2>>=_) _ _ _
 refine wpAny_bind (wpAny_field hz rfl (x:=.bool false) rfl ?_)
 show wpAny _ _ (field (.ref z) 3>>=_) _ _ _
 refine wpAny_bind (wpAny_field hz rfl (x:=.ref TI) rfl (wpAny_bind (wpAny_seqItems hTI rfl ?_)))
 show wpAny _ _ (Builtin.SmallTypes.ownedTupleIsFree (.ref z)>>=_) _ _ _
 refine wpAny_bind ?_
 unfold Builtin.SmallTypes.ownedTupleIsFree
 refine wpAny_bind (wpAny_field hz rfl (x:=.none) rfl (wpAny_pure ?_))
 simp only[if_true]
 refine wpAny_bind (wpAny_rule (wpAny_bind (wpAny_field hz rfl (x:=.ref TO) rfl ?_)))
 refine wpAny_bind (wpAny_setField_rec hz (by simp) fun h₁ hz₁ hs₁=>?_)
 replace hz₁:IsZip h₁ z TI TO .ellipsis:=hz₁
 refine wpAny_bind ?_
 simp only[List.zipIdx_cons,List.zipIdx_nil,List.forIn_cons,List.forIn_nil]
 refine wpAny_bind (wpAny_bind (wpAny_onRaise ?_))
 show wpAny _ _ (Builtin.SmallTypes.nextOf (.ref i1)>>=_) _ _ _
 cases hx:xs[k1]? with
 |none =>
  refine wpAny_bind (mF hh (h1.extBut hs₁.extBut D.i1z) (hl1.extBut hs₁.extBut D.l1z) hx fun h₂ e hs₂ he=>?_)
  obtain⟨oe,hoe,hce⟩:=he
  have hz₂:IsZip h₂ z TI TO .ellipsis:=hs₂ _ _ D.i1z.symm hz₁
  have hez:e≠z:=fun x=>by subst x;rw[hz₂]at hoe;cases hoe;simp at hce
  exact wpAny_setField_rec hz₂ (by simp) fun h₃ _ hs₃=>stop h₃ e (fun c o c1 _ c3 _ x=>hs₃.extBut _ _ c1 (hs₂ _ _ c3 (hs₁.extBut _ _ c1 x))) ⟨oe,hs₃.extBut _ _ hez hoe,hce⟩
 |some x =>
  have hy:ys[k2]?=none:=by
   rcases hend with h|h
   ·rw[hx]at h;cases h
   ·exact h
  refine wpAny_bind (iM (h1.extBut hs₁.extBut D.i1z) (hl1.extBut hs₁.extBut D.l1z) hx fun h₂ h1₂ hs₂=>wpAny_pure ?_)
  have hTO₂:IsPair h₂ TO a b:=hs₂.extBut _ _ D.TOi1 (hs₁.extBut _ _ D.TOz hTO)
  refine wpAny_bind (wpAny_seqItems hTO₂ rfl (wpAny_bind (wpAny_updateSeq_pair hTO₂ fun h₃ hTO₃ hs₃=>?_)))
  refine wpAny_bind (wpAny_letGo (wpAny_pure ?_))
  refine wpAny_bind (wpAny_bind (wpAny_onRaise ?_))
  show wpAny _ _ (Builtin.SmallTypes.nextOf (.ref i2)>>=_) _ _ _
  refine wpAny_bind (mF hh (((h2.extBut hs₁.extBut D.i2z).extBut hs₂.extBut D.i12.symm).extBut hs₃.extBut D.TOi2.symm) (((hl2.extBut hs₁.extBut D.l2z).extBut hs₂.extBut D.l2i1).extBut hs₃.extBut D.l2TO) hy fun h₄ e hs₄ he=>?_)
  obtain⟨oe,hoe,hce⟩:=he
  have hz₄:IsZip h₄ z TI TO .ellipsis:=hs₄ _ _ D.i2z.symm (hs₃.extBut _ _ D.TOz.symm (hs₂.extBut _ _ D.i1z.symm hz₁))
  have hez:e≠z:=fun x=>by subst x;rw[hz₄]at hoe;cases hoe;simp at hce
  exact wpAny_setField_rec hz₄ (by simp) fun h₅ _ hs₅=>stop h₅ e (fun c o c1 c2 c3 c4 x=>hs₅.extBut _ _ c1 (hs₄ _ _ c4 (hs₃.extBut _ _ c2 (hs₂.extBut _ _ c3 (hs₁.extBut _ _ c1 x))))) ⟨oe,hs₅.extBut _ _ hez hoe,hce⟩
end
section
variable {prog:Program}{w:World}{A:Around}{E:Value->Shared->Prop}{s:Shared}{b1 b2:Bool}
theorem nK{z TI TO i1 i2 l1 l2 T:Addr}{flag:Bool}{oT:Obj}{k1 k2:Nat}{xs ys:Array Value}{x y:Value}{Q:Option Value->Shared->Prop}(D:ZipApart z TI TO i1 i2 l1 l2)
  (hz:qp s.heap z TI TO T flag) (hT:s.heap.get? T=some oT) (hTI:IsPair s.heap TI (.ref i1) (.ref i2))
  (h1:jb b1 s.heap i1 l1 k1) (h2:jb b2 s.heap i2 l2 k2) (hl1:jV b1 s.heap l1 xs) (hl2:jV b2 s.heap l2 ys) (hx:xs[k1]?=some x) (hy:ys[k2]?=some y)
  (hQ:∀h',qp h' z TI TO T true->jb b1 h' i1 l1 (k1+1)->jb b2 h' i2 l2 (k2+1)->IsPair h' s.heap.objs.size x y ->
   (∀c o,c≠z->c≠i1->c≠i2->s.heap.get? c=some o->h'.get? c=some o)->Q (some (.ref s.heap.objs.size)) {s with heap:=h'}) :
  wpAny (model prog w) A (pyNext (.ref z)) Q E s:=by
 have hTy:s.TypeIs (.ref z) "zip":=⟨_,hz,rfl⟩
 unfold pyNext
 refine wpAny_bind (wpAny_attempt (wpAny_callSpecial?_slot (name:=Str.ofString "__next__") hTy PySem.F.slot_zip_next
  (wpAny_call_entry PySem.F.slot_zip_next hTy PySem.F.entry_zip_next ?_ (PySem.F.args_zip_next_1 _))))
 show wpAny _ _ (field (.ref z) 2>>=_) _ _ _
 refine wpAny_bind (wpAny_field hz rfl (x:=.bool false) rfl ?_)
 show wpAny _ _ (field (.ref z) 3>>=_) _ _ _
 refine wpAny_bind (wpAny_field hz rfl (x:=.ref TI) rfl ?_)
 refine wpAny_bind (wpAny_seqItems hTI rfl ?_)
 show wpAny _ _ (Builtin.SmallTypes.ownedTupleIsFree (.ref z)>>=_) _ _ _
 refine wpAny_bind (kT hz hT fun h₁ hz₁ hs₁=>?_)
 simp only[Bool.false_eq_true,if_false]
 refine wpAny_bind ?_
 simp only[←Array.forIn_toList,List.forIn_cons,List.forIn_nil]
 refine wpAny_bind (wpAny_bind (wpAny_holding ?_))
 show wpAny _ _ (Builtin.SmallTypes.nextOf (.ref i1)>>=_) _ _ _
 refine wpAny_bind (iM (h1.extBut hs₁.extBut D.i1z) (hl1.extBut hs₁.extBut D.l1z) hx fun h₂ h1₂ hs₂=>wpAny_pure (wpAny_pure ?_))
 dsimp only
 refine wpAny_bind (wpAny_bind (wpAny_holding ?_))
 show wpAny _ _ (Builtin.SmallTypes.nextOf (.ref i2)>>=_) _ _ _
 refine wpAny_bind (iM ((h2.extBut hs₁.extBut D.i2z).extBut hs₂.extBut D.i12.symm) ((hl2.extBut hs₁.extBut D.l2z).extBut hs₂.extBut D.l2i1) hy fun h₃ h2₃ hs₃=>wpAny_pure (wpAny_pure (wpAny_pure ?_)))
 dsimp only
 refine wpAny_bind (wpAny_newTuple (hsz:=by show 2<=sizeLine;decide) ?_)
 have hsz:h₃.objs.size=s.heap.objs.size:=by rw[hs₃.1,hs₂.1,hs₁.1]
 have hz₃:qp h₃ z TI TO T true:=hs₃.extBut _ _ D.i2z.symm (hs₂.extBut _ _ D.i1z.symm hz₁)
 have hk:∀c o,c≠z->c≠i1->c≠i2->s.heap.get? c=some o->h₃.get? c=some o:=fun c o c1 c3 c4 e=>hs₃.extBut _ _ c4 (hs₂.extBut _ _ c3 (hs₁.extBut _ _ c1 e))
 have h1₃:jb b1 h₃ i1 l1 (k1+1):=h1₂.extBut hs₃.extBut D.i12
 refine wpAny_pure ⟨_,rfl,wpAny_pure ?_⟩
 show Q (some (.ref h₃.objs.size)) _
 have hT3:IsPair (h₃.push {cls:=.type "tuple",data:=.seq #[x,y]}) h₃.objs.size x y:=Heap.get?_push_size _ rfl
 have fin:=hQ (h₃.push {cls:=.type "tuple",data:=.seq #[x,y]}) (Heap.get?_push_of_some _ hz₃) (h1₃.at fun o e=>Heap.get?_push_of_some _ e) (h2₃.at fun o e=>Heap.get?_push_of_some _ e) (by rw[←hsz];exact hT3) fun c o c1 c3 c4 e=>Heap.get?_push_of_some _ (hk c o c1 c3 c4 e)
 rw[←hsz]at fin
 exact fin
theorem oE{z TI TO i1 i2 l1 l2 T:Addr}{flag:Bool}{oT:Obj}{k1:Nat}{xs:Array Value}{Q:Option Value->Shared->Prop}(hh:A.handled=none)(D:ZipApart z TI TO i1 i2 l1 l2)
  (hz:qp s.heap z TI TO T flag) (hT:s.heap.get? T=some oT) (hTI:IsPair s.heap TI (.ref i1) (.ref i2))
  (h1:jb b1 s.heap i1 l1 k1) (hl1:jV b1 s.heap l1 xs) (hx:xs[k1]?=none)
  (hQ:∀h',(∀c o,c≠z->c≠i1->c≠i2->s.heap.get? c=some o->h'.get? c=some o)->Q none {s with heap:=h'}) :
  wpAny (model prog w) A (pyNext (.ref z)) Q E s:=by
 have hTy:s.TypeIs (.ref z) "zip":=⟨_,hz,rfl⟩
 unfold pyNext
 refine wpAny_bind (wpAny_attempt (wpAny_callSpecial?_slot (name:=Str.ofString "__next__") hTy PySem.F.slot_zip_next
  (wpAny_call_entry PySem.F.slot_zip_next hTy PySem.F.entry_zip_next ?_ (PySem.F.args_zip_next_1 _))))
 show wpAny _ _ (field (.ref z) 2>>=_) _ _ _
 refine wpAny_bind (wpAny_field hz rfl (x:=.bool false) rfl ?_)
 show wpAny _ _ (field (.ref z) 3>>=_) _ _ _
 refine wpAny_bind (wpAny_field hz rfl (x:=.ref TI) rfl ?_)
 refine wpAny_bind (wpAny_seqItems hTI rfl ?_)
 show wpAny _ _ (Builtin.SmallTypes.ownedTupleIsFree (.ref z)>>=_) _ _ _
 refine wpAny_bind (kT hz hT fun h₁ hz₁ hs₁=>?_)
 simp only[Bool.false_eq_true,if_false]
 refine wpAny_bind ?_
 simp only[←Array.forIn_toList,List.forIn_cons,List.forIn_nil]
 refine wpAny_bind (wpAny_bind (wpAny_holding ?_))
 show wpAny _ _ (Builtin.SmallTypes.nextOf (.ref i1)>>=_) _ _ _
 refine wpAny_bind (mF hh (h1.extBut hs₁.extBut D.i1z) (hl1.extBut hs₁.extBut D.l1z) hx fun h₂ e hs₂ he=>?_)
 obtain⟨oe,hoe,hce⟩:=he
 refine wpAny_bind (wpAny_isInstance (T:="StopIteration") (b:=true) ⟨oe,hoe,hce⟩ isSubtype_stop ?_)
 exact wpAny_pure (hQ _ fun c o c1 c2 _ e'=>hs₂ _ _ c2 (hs₁.extBut _ _ c1 e'))
theorem nL{z TI TO i1 i2 l1 l2 T:Addr}{flag:Bool}{oT:Obj}{k1 k2:Nat}{xs ys:Array Value}{x:Value}{Q:Option Value->Shared->Prop}(hh:A.handled=none)(D:ZipApart z TI TO i1 i2 l1 l2)
  (hz:qp s.heap z TI TO T flag) (hT:s.heap.get? T=some oT) (hTI:IsPair s.heap TI (.ref i1) (.ref i2))
  (h1:jb b1 s.heap i1 l1 k1) (h2:jb b2 s.heap i2 l2 k2) (hl1:jV b1 s.heap l1 xs) (hl2:jV b2 s.heap l2 ys) (hx:xs[k1]?=some x) (hy:ys[k2]?=none)
  (hQ:∀h',(∀c o,c≠z->c≠i1->c≠i2->s.heap.get? c=some o->h'.get? c=some o)->Q none {s with heap:=h'}) :
  wpAny (model prog w) A (pyNext (.ref z)) Q E s:=by
 have hTy:s.TypeIs (.ref z) "zip":=⟨_,hz,rfl⟩
 unfold pyNext
 refine wpAny_bind (wpAny_attempt (wpAny_callSpecial?_slot (name:=Str.ofString "__next__") hTy PySem.F.slot_zip_next
  (wpAny_call_entry PySem.F.slot_zip_next hTy PySem.F.entry_zip_next ?_ (PySem.F.args_zip_next_1 _))))
 show wpAny _ _ (field (.ref z) 2>>=_) _ _ _
 refine wpAny_bind (wpAny_field hz rfl (x:=.bool false) rfl ?_)
 show wpAny _ _ (field (.ref z) 3>>=_) _ _ _
 refine wpAny_bind (wpAny_field hz rfl (x:=.ref TI) rfl ?_)
 refine wpAny_bind (wpAny_seqItems hTI rfl ?_)
 show wpAny _ _ (Builtin.SmallTypes.ownedTupleIsFree (.ref z)>>=_) _ _ _
 refine wpAny_bind (kT hz hT fun h₁ hz₁ hs₁=>?_)
 simp only[Bool.false_eq_true,if_false]
 refine wpAny_bind ?_
 simp only[←Array.forIn_toList,List.forIn_cons,List.forIn_nil]
 refine wpAny_bind (wpAny_bind (wpAny_holding ?_))
 show wpAny _ _ (Builtin.SmallTypes.nextOf (.ref i1)>>=_) _ _ _
 refine wpAny_bind (iM (h1.extBut hs₁.extBut D.i1z) (hl1.extBut hs₁.extBut D.l1z) hx fun h₂ h1₂ hs₂=>wpAny_pure (wpAny_pure ?_))
 dsimp only
 refine wpAny_bind (wpAny_bind (wpAny_holding ?_))
 show wpAny _ _ (Builtin.SmallTypes.nextOf (.ref i2)>>=_) _ _ _
 refine wpAny_bind (mF hh ((h2.extBut hs₁.extBut D.i2z).extBut hs₂.extBut D.i12.symm) ((hl2.extBut hs₁.extBut D.l2z).extBut hs₂.extBut D.l2i1) hy fun h₃ e hs₃ he=>?_)
 obtain⟨oe,hoe,hce⟩:=he
 refine wpAny_bind (wpAny_isInstance (T:="StopIteration") (b:=true) ⟨oe,hoe,hce⟩ isSubtype_stop ?_)
 exact wpAny_pure (hQ _ fun c o c1 c2 c3 e'=>hs₃ _ _ c3 (hs₂.extBut _ _ c2 (hs₁.extBut _ _ c1 e')))
end
structure Dd(b1 b2:Bool) (h:Heap) (z TI TO i1 i2 l1 l2 lo:Nat) (xs ys:Array Value) (i:Nat):Prop where
 ti:IsPair h TI (.ref i1) (.ref i2)
 it1:jb b1 h i1 l1 i
 it2:jb b2 h i2 l2 i
 ls1:jV b1 h l1 xs
 ls2:jV b2 h l2 ys
 st:(i=0/\IsZip h z TI TO .none/\∃a b,IsPair h TO a b)\/∃(T:Nat) (flag:Bool) (oT:Obj),qp h z TI TO T flag/\h.get? T=some oT/\lo<=T
section
variable {prog:Program}{w:World}{A:Around}{R:Result->Shared->Prop}{s:Shared}{b1 b2:Bool}
theorem vP{z TI TO i1 i2 l1 l2 S lo n:Nat}{xs ys:Array Value}(hh:A.handled=none)(D:ZipApart z TI TO i1 i2 l1 l2)(hS:S≠z/\S≠TI/\S≠TO/\S≠i1/\S≠i2/\S≠l1/\S≠l2)
  (hL:z<lo/\TO<lo/\i1<lo/\i2<lo/\S<lo) (hnx:n<=xs.size) (hny:n<=ys.size) (hend:xs[n]?=none\/ys[n]?=none) (hn:n<=sizeLine) (res:Value) {h₁:Heap}
  (hR:∀h' tk acc c (as:List Nat),(∀b o,b≠S->b≠z->b≠TO->b≠i1->b≠i2->h₁.get? b=some o->h'.get? b=some o)->h'.get? S=some {cls:=.type "list",dict:=none,data:=.seq acc c,slots:=#[]}->as.length=n->iY h' lo xs ys as ->
   acc.toList=as.map Value.ref->R (.ok (.ret res)) {s with heap:=h',toks:=tk}) :
  ∀(k i:Nat) (h:Heap) (tk c:Nat) (acc:Array Value) (as:List Nat),n-i=k->i<=n->Dd b1 b2 h z TI TO i1 i2 l1 l2 lo xs ys i ->
   (∀b o,b≠S->b≠z->b≠TO->b≠i1->b≠i2->h₁.get? b=some o->h.get? b=some o)->lo<=h.objs.size ->
   h.get? S=some {cls:=.type "list",dict:=none,data:=.seq acc c,slots:=#[]}->acc.toList=as.map Value.ref->as.length=i->iY h lo xs ys as ->
   codeAny (model prog w) A (.builtin "list.extend.loop" ⟨[.ref S,.ref z,res],[]⟩) R {s with heap:=h,toks:=tk}:=by
 obtain⟨s1,s2,s3,s4,s5,s6,s7⟩:=hS
 obtain⟨L1,L2,L3,L4,L5⟩:=hL
 have up:∀{a b:Nat},b<lo->lo<=a->a≠b:=fun h1 h2=>Nat.ne_of_gt (Nat.lt_of_lt_of_le h1 h2)
 intro k
 induction k with
 |zero =>
  intro i h tk c acc as hk hi hst hkeep hlo hS hacc hal hG
  have hin:i=n:=by omega
  subst hin
  refine codeAny_builtin PySem.F.entry_extend_loop ?_
  rw[Around.under_plainId PySem.F.plain_extend_loop _]
  show wpAny _ A.in1 (pyNext (.ref z)>>=_) _ _ _
  have fin:∀h':Heap,(∀c o,c≠z->c≠TO->c≠i1->c≠i2->h.get? c=some o->h'.get? c=some o)->R (.ok (.ret res)) {s with heap:=h',toks:=tk}:=fun h' hq =>
   hR h' tk acc c as (fun b o b1 b2 b3 b4 b5 e=>hq b o b2 b3 b4 b5 (hkeep b o b1 b2 b3 b4 b5 e)) (hq S _ s1 s3 s4 s5 hS) hal (hG.keep fun(c:Nat) o hc e=>hq c o (up L1 hc) (up L2 hc) (up L3 hc) (up L4 hc) e) hacc
  rcases hst.st with⟨e0,hz,a,b,hTO⟩|⟨T,flag,oT,hz,hT,hTlo⟩
  ·exact wpAny_bind (yf (s:={s with heap:=h,toks:=tk}) (A:=A.in1) hh D hz hst.ti hTO hst.it1 hst.it2 hst.ls1 hst.ls2 hend fun h' hq=>wpAny_pure (fin h' hq))
  ·cases hx:xs[i]? with
   |none=>exact wpAny_bind (oE (s:={s with heap:=h,toks:=tk}) (A:=A.in1) hh D hz hT hst.ti hst.it1 hst.ls1 hx fun h' hq=>wpAny_pure (fin h' fun c o c1 _ c3 c4 e=>hq c o c1 c3 c4 e))
   |some x =>
    have hy:ys[i]?=none:=hend.resolve_left (by rw[hx];intro z;cases z)
    exact wpAny_bind (nL (s:={s with heap:=h,toks:=tk}) (A:=A.in1) hh D hz hT hst.ti hst.it1 hst.it2 hst.ls1 hst.ls2 hx hy fun h' hq=>wpAny_pure (fin h' fun c o c1 _ c3 c4 e=>hq c o c1 c3 c4 e))
 |succ k ih =>
  intro i h tk c acc as hk hi hst hkeep hlo hS hacc hal hG
  have hlt:i<xs.size:=by omega
  have hltn:i<n:=by omega
  have hlt2:i<ys.size:=by omega
  have hx:xs[i]?=some xs[i]:=Array.getElem?_eq_getElem hlt
  have hy:ys[i]?=some ys[i]:=Array.getElem?_eq_getElem hlt2
  have hasz:acc.size=i:=by rw[←hal,←List.length_map (f:=Value.ref),←hacc];simp
  refine codeAny_builtin PySem.F.entry_extend_loop ?_
  rw[Around.under_plainId PySem.F.plain_extend_loop _]
  show wpAny _ A.in1 (pyNext (.ref z)>>=_) _ _ _
  -- what follows a turn
  have next:∀h':Heap,(∃(T:Nat) (flag:Bool) (oT:Obj),qp h' z TI TO T flag/\h'.get? T=some oT/\lo<=T)->jb b1 h' i1 l1 (i+1)->jb b2 h' i2 l2 (i+1)->IsPair h' h.objs.size xs[i] ys[i] ->
    (∀c o,c≠z->c≠TO->c≠i1->c≠i2->h.get? c=some o->h'.get? c=some o) ->
    wpAny (model prog w) A.in1 (updateSeq S (·.push (Value.ref h.objs.size))>>=fun _=>again (.builtin "list.extend.loop" ⟨[.ref S,.ref z,res],[]⟩))
     (fun fin s'=>match fin with|.done f=>R (.ok f) s'|.again c'=>c'.quiet=true/\codeAny (model prog w) A c' R s') (fun e s'=>R (.error e) s') {s with heap:=h',toks:=tk}:=by
   intro h' hb j1 j2 hp hq
   have hS':h'.get? S=some {cls:=.type "list",dict:=none,data:=.seq acc c,slots:=#[]}:=hq S _ s1 s3 s4 s5 hS
   have oth:∀b o,b≠S->h'.get? b=some o->(h'.update S (Obj.mapSeq (·.push (Value.ref h.objs.size)))).get? b=some o:=fun b o hb e=>(Heap.get?_update_other _ _ (Ne.symm hb)).trans e
   have hp':IsPair (h'.update S (Obj.mapSeq (·.push (Value.ref h.objs.size)))) h.objs.size xs[i] ys[i]:=oth _ _ (up L5 hlo) hp
   refine wpAny_bind (wpAny_updateSeq hS' rfl (wpAny_pure ⟨plainId_quiet PySem.F.plain_extend_loop _,?_⟩) (by rw[hasz];omega) (by show(acc.push _).size<=sizeLine+1;rw[Array.size_push,hasz];omega))
   refine ih (i+1) (h'.update S (Obj.mapSeq (·.push (Value.ref h.objs.size)))) tk _ (acc.push (Value.ref h.objs.size)) (as++[h.objs.size]) (by omega) hltn ⟨?_,?_,?_,?_,?_,?_⟩ ?_ ?_ (Heap.get?_update_self _ hS' rfl) ?_ (by rw[List.length_append,hal];rfl) ?_
   ·exact oth _ _ (Ne.symm s2) (hq TI _ D.TIz D.TITO D.TIi1 D.TIi2 hst.ti)
   ·exact j1.at fun o e=>oth _ o (Ne.symm s4) e
   ·exact j2.at fun o e=>oth _ o (Ne.symm s5) e
   ·exact hst.ls1.at fun o e=>oth _ o (Ne.symm s6) (hq _ o D.l1z D.l1TO D.l1i1 D.l1i2 e)
   ·exact hst.ls2.at fun o e=>oth _ o (Ne.symm s7) (hq _ o D.l2z D.l2TO D.l2i1 D.l2i2 e)
   ·obtain⟨T,flag,oT,e1,e2,e3⟩:=hb
    exact .inr ⟨T,flag,oT,oth _ _ (Ne.symm s1) e1,oth _ _ (up L5 e3) e2,e3⟩
   ·exact fun b o b1 b2 b3 b4 b5 e=>oth b o b1 (hq b o b2 b3 b4 b5 (hkeep b o b1 b2 b3 b4 b5 e))
   ·have:h.objs.size<(h'.update S (Obj.mapSeq (·.push (Value.ref h.objs.size)))).objs.size:=Heap.lt_size hp'
    omega
   ·rw[Array.toList_push,hacc,List.map_append];rfl
   ·exact hG.snoc (h':=h'.update S (Obj.mapSeq (·.push (Value.ref h.objs.size)))) (fun(c:Nat) o hc e=>oth c o (up L5 hc) (hq c o (up L1 hc) (up L2 hc) (up L3 hc) (up L4 hc) e)) hlo (Nat.le_refl _) (by rw[hal];exact hx) (by rw[hal];exact hy) hp'
  rcases hst.st with⟨e0,hz,a,b,hTO⟩|⟨T,flag,oT,hz,hT,hTlo⟩
  ·refine wpAny_bind (uO (s:={s with heap:=h,toks:=tk}) D hz hst.ti hTO hst.it1 hst.it2 hst.ls1 hst.ls2 hx hy fun h' a1 a2 a3 a4 a5 a6 hq=>?_)
   exact next h' ⟨h.objs.size,false,_,a1,a5,hlo⟩ a3 a4 a5 hq
  ·refine wpAny_bind (nK (s:={s with heap:=h,toks:=tk}) D hz hT hst.ti hst.it1 hst.it2 hst.ls1 hst.ls2 hx hy fun h' a1 a3 a4 a5 hq=>?_)
   exact next h' ⟨T,true,oT,a1,hq T oT (up L1 hTlo) (up L3 hTlo) (up L4 hTlo) hT,hTlo⟩ a3 a4 a5 fun c o c1 _ c3 c4 e=>hq c o c1 c3 c4 e
end
section
variable {prog:Program}{w:World}{A:Around}{E:Value->Shared->Prop}{s:Shared}{b1 b2:Bool}
theorem nN{l1 l2 n:Nat}{xs ys:Array Value}{Q:Value->Shared->Prop}(hh:A.handled=none)(hl1:jV b1 s.heap l1 xs)(hl2:jV b2 s.heap l2 ys)(hnx:n<=xs.size)(hny:n<=ys.size)(hend:xs[n]?=none\/ys[n]?=none)(hn:n<=sizeLine)
  (hQ:∀h' tk acc c (as:List Nat),(∀b o,s.heap.get? b=some o->h'.get? b=some o)->h'.get? (s.heap.objs.size+5)=some {cls:=.type "list",dict:=none,data:=.seq acc c,slots:=#[]}->as.length=n->iY h' (s.heap.objs.size+6) xs ys as ->
   acc.toList=as.map Value.ref->Q (.ref (s.heap.objs.size+5)) {s with heap:=h',toks:=tk}) :
  wpAny (model prog w) A (call (.type "zip") [.ref l1,.ref l2]) (fun v s1=>wpAny (model prog w) A (call (.type "list") [v]) Q E s1) E s:=by
 have lt1:l1<s.heap.objs.size:=by obtain⟨_,e⟩:=hl1.got;exact Heap.lt_size e
 have lt2:l2<s.heap.objs.size:=by obtain⟨_,e⟩:=hl2.got;exact Heap.lt_size e
 refine uN hl1 hl2 fun g hz hTI hTO h1 h2 hsz hk=>?_
 have D:ZipApart (s.heap.objs.size+4) (s.heap.objs.size+2) (s.heap.objs.size+3) s.heap.objs.size (s.heap.objs.size+1) l1 l2:=by
  refine⟨?_,?_,?_,?_,?_,?_,?_,?_,?_,?_,?_,?_,?_,?_,?_,?_,?_,?_⟩<;>(show @Ne Nat _ _;omega)
 have hS:(g.push {cls:=.type "list",data:=.seq #[]}).get? g.objs.size=some {cls:=.type "list",data:=.seq #[]}:=Heap.get?_push_size _ rfl
 refine callType_codes (Q₁:=fun obj s₁=>obj=.ref g.objs.size/\s₁={s with heap:=g.push {cls:=.type "list",data:=.seq #[]}}) PySem.F.called_list (PySem.F.typeCall_list_1 _) PySem.F.entry_list_init
  (code_list_new _ ⟨rfl,rfl⟩) fun obj s₁ h₁=>?_
 obtain⟨rfl,rfl⟩:=h₁
 refine⟨⟨_,hS,rfl⟩,PySem.F.args_list_init_2 _ _,?_⟩
 show wpAny _ A.in1.in1 (do let old ←Builtin.List.listItems (.ref g.objs.size);Builtin.List.listUpdate (.ref g.objs.size) (fun _=>#[]);letGo old.toList.reverse;Builtin.List.listExtendWith (.ref g.objs.size) (.ref (s.heap.objs.size+4)) .none) _ _ _
 refine wpAny_bind ?_
 unfold Builtin.List.listItems
 refine wpAny_bind (wpAny_seqItems hS rfl (wpAny_pure ?_))
 show wpAny _ A.in1.in1 (updateSeq g.objs.size (fun _=>#[])>>=fun _=>letGo (#[]:Array Value).toList.reverse>>=fun _=>Builtin.List.listExtendWith (.ref g.objs.size) (.ref (s.heap.objs.size+4)) .none) _ _ _
 refine wpAny_bind (wpAny_updateSeq hS rfl ?_)
 have hS₂:=Heap.get?_update_self (Obj.mapSeq (fun _=>(#[]:Array Value))) hS rfl
 have oth:∀b o,g.get? b=some o->((g.push {cls:=.type "list",data:=.seq #[]}).update g.objs.size (Obj.mapSeq (fun _=>(#[]:Array Value)))).get? b=some o :=
  fun b o e=>(Heap.get?_update_other _ _ (Nat.ne_of_gt (Heap.lt_size e))).trans (Heap.get?_push_of_some _ e)
 generalize hg2:(g.push {cls:=.type "list",data:=.seq #[]}).update g.objs.size (Obj.mapSeq (fun _=>(#[]:Array Value)))=g2 at hS₂ oth⊢
 refine wpAny_bind (wpAny_letGo ?_)
 have hT2:Shared.TypeIs {s with heap:=g2} (.ref (s.heap.objs.size+4)) "zip":=⟨_,oth _ _ hz,rfl⟩
 unfold Builtin.List.listExtendWith
 refine wpAny_bind (wpAny_typeOf hT2 ?_)
 have q1:Builtin.List.listSameRef (.ref g.objs.size) (.ref (s.heap.objs.size+4))=false:=by
  simp only[Builtin.List.listSameRef,beq_eq_false_iff_ne]
  intro z
  have z':(g.objs.size:Nat)=s.heap.objs.size+4:=z
  omega
 have q2:(Value.type "zip" == Value.type "list")=false:=by decide
 have q3:(Value.type "zip" == Value.type "tuple")=false:=by decide
 simp only[q1,q2,q3,Bool.or_false,Bool.false_eq_true,if_false]
 refine wpAny_bind (wpAny_pyIter_zip (s:={s with heap:=g2}) (oth _ _ hz) ?_)
 refine wpAny_bind (wpAny_holding ?_)
 unfold Builtin.List.listLengthHint
 refine wpAny_bind (wpAny_specialOf hT2 sZ ?_)
 show wpAny _ A.in1.in1 (specialOf (Value.ref (s.heap.objs.size+4)) (Str.ofString "__length_hint__")>>=_) _ _ _
 refine wpAny_bind (wpAny_specialOf hT2 rA ?_)
 refine wpAny_pure ?_
 show wpAny _ A.in1.in1 (rule "list.extend.makes-room">>=fun _=>Builtin.List.listTouch (.ref g.objs.size)>>=fun _ =>
  again (.builtin "list.extend.loop" ⟨[.ref g.objs.size,.ref (s.heap.objs.size+4),.none],[]⟩)) _ _ _
 refine wpAny_bind (wpAny_rule ?_)
 refine wpAny_bind ?_
 show wpAny _ A.in1.in1 (updateSeq g.objs.size (·.push .none)>>=fun _=>updateSeq g.objs.size (·.pop)) _ _ _
 refine wpAny_bind (wpAny_updateSeq hS₂ rfl ?_)
 have hS₃:=Heap.get?_update_self (Obj.mapSeq (·.push Value.none)) hS₂ rfl
 refine wpAny_updateSeq (hz:=by seq_fits) hS₃ rfl ?_
 have hS₄:=Heap.get?_update_self (Obj.mapSeq (·.pop)) hS₃ rfl
 have oth2:∀b o,b≠g.objs.size->g2.get? b=some o->((g2.update g.objs.size (Obj.mapSeq (·.push Value.none))).update g.objs.size (Obj.mapSeq (·.pop))).get? b=some o :=
  fun b o hb e=>(Heap.get?_update_other _ _ (Ne.symm hb)).trans ((Heap.get?_update_other _ _ (Ne.symm hb)).trans e)
 have all:∀b o,g.get? b=some o->((g2.update g.objs.size (Obj.mapSeq (·.push Value.none))).update g.objs.size (Obj.mapSeq (·.pop))).get? b=some o:=fun b o e=>oth2 b o (Nat.ne_of_lt (Heap.lt_size e)) (oth b o e)
 generalize hg3:(g2.update g.objs.size (Obj.mapSeq (·.push Value.none))).update g.objs.size (Obj.mapSeq (·.pop))=g3 at hS₄ all⊢
 have hlo:s.heap.objs.size+6<=g3.objs.size:=by
  have h5:(g.objs.size:Nat)<g3.objs.size:=Heap.lt_size hS₄
  have h6:(g.objs.size:Nat)=s.heap.objs.size+5:=hsz
  omega
 refine wpAny_pure ⟨plainId_quiet PySem.F.plain_extend_loop _,vP (n:=n) (s:=s) (lo:=s.heap.objs.size+6) (h₁:=g3) (A:=A.in1) hh D (by omega) (by omega) hnx hny hend hn .none (fun h' tk acc c as hq hS' hal hG hacc=>?_) n 0 g3 s.toks _ #[] [] (by omega) (Nat.zero_le _)
  ⟨all _ _ hTI,h1.at fun o e=>all _ o e,h2.at fun o e=>all _ o e,hl1.at fun o e=>all _ o (hk _ o e),hl2.at fun o e=>all _ o (hk _ o e),.inl ⟨rfl,all _ _ hz,_,_,all _ _ hTO⟩⟩ (fun _ _ _ _ _ _ _ e=>e) hlo hS₄ rfl rfl ⟨List.Pairwise.nil,(fun _ z=>nomatch z),fun _ _ z=>by simp at z⟩⟩
 have eg:g.objs.size=s.heap.objs.size+5:=hsz
 refine⟨rfl,?_⟩
 rw[eg]at hS' ⊢
 refine hQ h' tk acc c as (fun b o e=>?_) hS' hal hG hacc
 have hb:∀k,b≠s.heap.objs.size+k:=fun k=>Nat.ne_of_lt (Nat.lt_of_lt_of_le (Heap.lt_size e) (Nat.le_add_right _ k))
 exact hq b o (by rw[eg];exact hb 5) (hb 4) (hb 3) (hb 0) (hb 1) (all b o (hk b o e))
end
noncomputable def nZ(K:PySem.W.Frag)(b:Bool)(H:Hp)(p:Addr)(xs:List V):Prop:=match b with|false=>cy K H p xs|true=>bx K H p xs
section
variable {X:Cx}{a b:Expr}{t:TA}{p1 p2 p3 p4:Pos}
theorem jz{c:Bool}{pins:List (Addr×Obj)}{σ:St}{H:Hp}{s:Shared}{p:Addr}{xs:List V}(I:Inv X pins σ H s)(h:nZ X.K c H p xs):∃its:List Value,Vals xs its/\jV c s.heap p its.toArray/\xs.length<=sizeLine:=by
 cases c with
 |false =>
  obtain⟨its,rv,pl,hz⟩:=I.list h
  exact⟨its,rv,pl.isList,hz⟩
 |true =>
  obtain⟨its,rv,pl,hz⟩:=I.tuple h
  exact⟨its,rv,(show Heap.IsTuple _ _ _ by obtain⟨o,e,r⟩:=pl;exact⟨o,e,r⟩),hz⟩
noncomputable def De(K:PySem.W.Frag)(t:TA):TE:=fun σ H Q=>t σ H fun vs H2=>∃b1 b2 p q xs ys,vs=[.ref p,.ref q]/\nZ K b1 H2 p xs/\nZ K b2 H2 q ys /\
 ∀(l:Addr) (ts:List Addr) (H':Hp),AZ xs ys ts H2 H'->H2 l=none->H' l=some (.lst (ts.map V.ref))->Q (.ref l) H'
theorem se(hc:X.calm=true)(hgl:Gl X "list")(hml:X.mg "list"=none)(hgz:Gl X "zip")(hmz:X.mg "zip"=none)(ha:PA X [a,b] t)
  (he:starEach [a,b] X.env=(false,eval a X.env)::starEach [b] X.env:=by rfl) (hpl:(backTo p2 (starEach [b] X.env)).any (·.1)=false:=by rfl)
  (he2:starEach [.Call (.Name "zip" p1) [a,b] [] p2] X.env=[(false,eval (.Call (.Name "zip" p1) [a,b] [] p2) X.env)]:=by rfl) :
  PE X (.Call (.Name "list" p3) [.Call (.Name "zip" p1) [a,b] [] p2] [] p4) (De X.K t):=by
 intro pins s σ H Q I h
 refine wpAny_Call_Name_kw (jM I hgl hml boot_list ?_ (by decide) (by decide))
 refine PyProof.Rows.callWith_type1 ?_ he2 rfl
 rw[he2]
 refine Calls.spliced_cons ?_
 refine wpAny_Call_Name_kw (jM I hgz hmz boot_zip ?_ (by decide) (by decide))
 refine PyProof.Rows.callWith_type1 ?_ he hpl
 refine cK (ha p2 pins s σ H _ I h) fun us s1 ⟨vs,H1,I1,r1,q1⟩=>?_
 obtain⟨c1,c2,p,q,xs,ys,rfl,hx,hy,hq⟩:=q1
 obtain⟨u,w',rfl,r1,r2⟩:=vals2 r1
 cases r1
 cases r2
 obtain⟨its,rv,pl,hz⟩:=jz I1 hx
 obtain⟨jts,rw',pm,hz'⟩:=jz I1 hy
 have e1:=rv.length
 have e2:=rw'.length
 refine cK (nN (n:=min xs.length ys.length) (Q:=EP X pins σ Q) (E:=X.xe) (I1.ok.hd hc) pl pm (by simp only[List.size_toArray];omega) (by simp only[List.size_toArray];omega) (by have:=zh (xs:=its) (ys:=jts);rw[←e1,←e2]at this;simpa using this) (by omega) fun h' tk acc ce as hk hS hal hG hacc=>?_) fun v s2 h2=>Calls.spliced_nil (by simpa using h2)
 have hSa:s1.heap.objs.size+5∉as:=fun hm=>by have:=hG.low _ hm;omega
 obtain⟨I2,zo,hn⟩:=zj (tk:=tk) (o:=.lst (as.map V.ref)) I1 rv rw' (Nat.le_add_right _ 6) hk hal hG (Nat.le_add_right _ 5) hSa
  (show cW X.prog X.w _ _ _ (.lst _)from⟨by rw[List.length_map,hal];omega,as.map Value.ref,ce,oZ as,by rw[←hacc];simpa using hS⟩)
 exact⟨.ref (s1.heap.objs.size+5),_,I2,rfl,hq _ as _ zo hn af⟩
end
end L2
namespace HT
open PySem PyProof.Rows
section
open PySem.SeqAt
open PySem.AutoSeq1 (wpAny_loadPart')
open PySem.MeetsSeq PySem.MeetsSeq2 PySem.MeetsSeq3
variable {prog:Program}{w:World}{A:Around}{E:Value->Shared->Prop}{s:Shared}
end
end HT
namespace L2
open PySem PySem.Spec PyProof.Rows
section
variable {X:Cx}{e st:Expr}{lo hi:Option Expr}{te:TE}{tl th tk:TO}{p2 pos:Pos}
end
end L2
namespace G03
open PySem L2
structure Wk(K:PySem.W.Frag) (f d:Addr) (S:i8) (xs:List Str) (kl:Kl) (dl:List (Str×List Kk×Kk)) (H:Hp) (dp:Nat) (ts:List Tm) (us:List V) (gs:List Int) (H':Hp):Prop where
 fr:cP [S.lg,S.la] f H H'
 sc:bV K H' f d S xs kl dl gs
 r:aO K H' (ts.map enc) us
 ok:∀t∈ts,Tok t/\t.depth<=dp
section
variable {K:PySem.W.Frag}{H H5 H6:Hp}{f d ar:Addr}{S:i8}{xs:List Str}{kl:Kl}{dl:List (Str×List Kk×Kk)}{gs g5 g6:List Int}{dp:Nat}{ts:List Tm}{us:List V}{ps:List (Str×Kk)}
theorem Wk.nil(s:bV K H f d S xs kl dl gs):Wk K f d S xs kl dl H dp [] [] gs H:=⟨s.vN,s,.nil,fun t h=>nomatch h⟩
theorem Wk.same(w:Wk K f d S xs kl dl H dp ts us g5 H5)(e:aI H5 H6):Wk K f d S xs kl dl H dp ts us g5 H6:=⟨w.fr.same e,w.sc.same e,w.r.same e,w.ok⟩
theorem Wk.ext(w:Wk K f d S xs kl dl H dp ts us g5 H5)(e:Ext f H5 H6):Wk K f d S xs kl dl H dp ts us g5 H6:=⟨w.fr.ext e,w.sc.ext e,w.r.kt (e.kt w.sc.ff),w.ok⟩
theorem Wk.snoc{tm:Tm}{v:V}(w:Wk K f d S xs kl dl H dp ts us g5 H5)(fr:cP [S.lg,S.la] f H5 H6)(sc:bV K H6 f d S xs kl dl g6)(rv:Rp K H6 (enc tm) v)(tk:Tok tm)(hd:tm.depth<=dp):Wk K f d S xs kl dl H dp (ts++[tm]) (us++[v]) g6 H6:=by
 refine⟨w.fr.trans fr,sc,?_,fun t ht=>?_⟩
 ·rw[List.map_append];exact(w.r.kt fr.kt).snoc rv
 ·rcases List.mem_append.mp ht with h|h
  ·exact w.ok t h
  ·rw[List.mem_singleton.mp h];exact⟨tk,hd⟩
theorem Wk.rp(w:Wk K f d S xs kl dl H dp ts us g5 H5){x:T}{v:V}(r:Rp K H x v):Rp K H5 x v:=r.kt w.fr.kt
theorem Wk.mG(w:Wk K f d S xs kl dl H dp ts us g5 H5)(a:uG K H f S kl ar ps):uG K H5 f S kl ar ps:=a.Ae w.fr
theorem Wk.tok(w:Wk K f d S xs kl dl H dp ts us g5 H5){h:Hd}(ar:cD h ts.length=true/\A4 h)(l:ts.length<=9):Tok (.mk h ts)/\(Tm.mk h ts).depth<=dp+1:=⟨.mk ar.1 l (fun t ht=>(w.ok t ht).1) ar.2,Tm.j7 fun t ht=>(w.ok t ht).2⟩
theorem Wk.new(w:Wk K f d S xs kl dl H dp ts us g5 H5){p:Addr}(hp:H5 p=none):H p=none:=by
 refine w.fr.free hp fun z=>?_
 rcases List.mem_cons.mp z with rfl|z
 ·rw[w.sc.lg]at hp;cases hp
 ·rw[List.mem_singleton.mp z]at hp
  obtain⟨kvs,h,_⟩:=w.sc.la
  rw[h]at hp;cases hp
theorem bV.no{p:Addr}(s:bV K H f d S xs kl dl gs)(hp:H p=none):p≠f/\p≠S.lg/\p≠S.la:=by
 refine⟨aY s.ff hp,fun z=>?_,fun z=>?_⟩
 ·rw[z,s.lg]at hp;cases hp
 ·obtain⟨kvs,h,_⟩:=s.la
  rw[z,h]at hp;cases hp
theorem Wk.put{p:Addr}{vs ws:List V}(w:Wk K f d S xs kl dl H dp ts us g5 H5)(s0:bV K H f d S xs kl dl gs)(hp:H p=none)(h:H5 p=some (.lst vs)):Wk K f d S xs kl dl H dp ts us g5 (upd H5 p (.lst ws)):=by
 obtain⟨n1,n2,n3⟩:=s0.no hp
 have fr:=w.fr.Cj (o:=.lst ws) hp n1 h
 obtain⟨kvs,ha,hl⟩:=w.sc.la
 exact⟨fr,s0.go fr (by rw[ay n2.symm];exact w.sc.lg) ⟨kvs,by rw[ay n3.symm];exact ha,hl⟩ w.sc.mm,w.r.kt (Kt.lst h _),w.ok⟩
theorem kG(ps qs:List (Str×Kk)):(kE ps qs).length<=ps.length+qs.length:=by
 unfold kE
 rw[List.length_append]
 have:=List.length_filter_le (fun p=>!decide (p.1∈qs.map (·.1))) ps
 omega
theorem uG.near{p:Addr}{qs:List (Str×Kk)}(a:uG K H f S kl ar ps)(sc:bV K H f d S xs kl dl gs)(hq:∀q∈qs,q.2.ok (kn kl)/\q.2.dep<=60)(hl:ps.length+qs.length<=60)(hp:H p=none)(a6:rV K H6 p (kE ps qs)):uG K H6 f S kl p (kE ps qs):=by
 obtain⟨n1,n2,n3⟩:=sc.no hp
 refine⟨a6,n1,n2,n3,fun q hm=>?_,Nat.le_trans (kG _ _) hl⟩
 rcases List.mem_append.mp hm with h|h
 ·exact a.pk q (List.mem_filter.mp h).1
 ·exact hq q h
theorem vQ{H':Hp}{xs:List Str}{ks:List Kk}{tvs:List V}{ts:List Addr}(hl:xs.length=ks.length)(z:AZ (xs.map V.str) tvs ts H H')(r:aO K H (ks.map dz) tvs):aO K H' ((xs.zip ks).map ny) (ts.map V.ref):=by
 obtain⟨sm,len,at_⟩:=z
 have lr:=r.length
 rw[List.length_map]at len lr
 have key:∀(n:Nat),n<=xs.length->aO K H' (((xs.zip ks).take n).map ny) ((ts.take n).map V.ref):=by
  intro n
  induction n with
  |zero=>intro _;exact .nil
  |succ n ih =>
   intro hn
   have hx:n<xs.length:=hn
   have hnn:n<ks.length:=by omega
   have ht:n<ts.length:=by omega
   have hz:n<(xs.zip ks).length:=by rw[List.length_zip];omega
   rw[List.take_succ_eq_append_getElem hz,List.take_succ_eq_append_getElem ht,List.map_append,List.map_append]
   refine(ih (by omega)).append (.one ?_)
   obtain⟨x,y,e1,e2,e3⟩:=at_ n _ (List.getElem?_eq_getElem ht)
   obtain⟨t,et,rt⟩:=r.get' e2
   rw[List.getElem?_map,List.getElem?_eq_getElem hx]at e1
   rw[List.getElem?_map,List.getElem?_eq_getElem hnn]at et
   simp at e1 et
   subst e1 et
   rw[List.getElem_zip]
   exact Rp.t (bx.of e3) (.cons .s (.one (rt.same sm)))
 have:=key xs.length (Nat.le_refl _)
 rwa [List.take_of_length_le (by rw[List.length_zip];omega),List.take_of_length_le (by omega)]at this
theorem sf:∀{arms:List (Str×List Str)}{ts:List T}(a:Str×List Str) (t:T),arms.length=ts.length->List.zipWith fq (arms++[a]) (ts++[t])=List.zipWith fq arms ts++[fq a t]
 | [],[],_,_,_=>rfl
 |b::r,u::q,a,t,h=>by
  show fq b u::List.zipWith fq (r++[a]) (q++[t])=_
  rw[sf a t (Nat.succ.inj h)]
  rfl
theorem bV.name(s:bV K H f d S xs kl dl gs){r:Int}(h0:0<=r)(h1:r<6):∃x,jC (((xs.drop 12).take 6).map V.str) r=some (.str x):=by
 have l:=s.lx
 obtain⟨v,hv,hm⟩:=iQ (xs:=((xs.drop 12).take 6).map V.str) (k:=r) h0 (by rw[List.length_map,List.length_take,List.length_drop,l];exact h1)
 obtain⟨x,hx,rfl⟩:=List.mem_map.mp hm
 exact⟨x,hv⟩
noncomputable def lB(K:PySem.W.Frag)(n:Nat):Sp:=fun vs H Q _=>∃(f d ar:Addr) (vk:V) (room down:Int) (S:i8) (xs:List Str) (kl:Kl) (dl:List (Str×List Kk×Kk)) (gs:List Int) (ps:List (Str×Kk)) (k:Kk),vs=[.ref f,.ref d,.ref ar,vk,.int room,.int down]/\bV K H f d S xs kl dl gs/\uG K H f S kl ar ps/\Rp K H (dz k) vk/\k.ok (kn kl)/\k.dep+n<=20/\0<=down/\down<n/\-1<=room/\room<=1000/\ps.length+2*n<=40 /\
 ∀(v:V) (H':Hp) (tm:Tm) (gs':List Int),cP [S.lg,S.la] f H H'->bV K H' f d S xs kl dl gs'->Rp K H' (enc tm) v->Tok tm->tm.depth<=n+3->Q v H'
noncomputable def yg(K:PySem.W.Frag)(n:Nat):Sp:=fun vs H Q _=>∃(f d ar:Addr) (vk vg:V) (room down:Int) (S:i8) (xs:List Str) (kl:Kl) (dl:List (Str×List Kk×Kk)) (gs:List Int) (ps:List (Str×Kk)) (k:Kk) (x:Str),vs=[.ref f,.ref d,.ref ar,vk,vg,.int room,.int down]/\bV K H f d S xs kl dl gs/\uG K H f S kl ar ps/\Rp K H (dz k) vk/\k.ok (kn kl)/\k.dep+n<=20/\Rp K H (dz (.kd x)) vg/\x∈kn kl/\0<=down/\down<n/\-1<=room/\room<=1000/\ps.length+2*n+2<=40 /\
 ∀(v:V) (H':Hp) (arms:List (Str×List Str)) (ts:List Tm) (gs':List Int),cP [S.lg,S.la] f H H'->bV K H' f d S xs kl dl gs'->Rp K H' (.t (List.zipWith fq arms (ts.map enc))) v->arms.length=ts.length->ts.length<=3->(∀t∈ts,Tok t/\t.depth<=n+3)->Q v H'
noncomputable def pO(K:PySem.W.Frag)(n:Nat):Sp:=fun vs H Q _=>∃(f d ar:Addr) (vk:V) (room down:Int) (S:i8) (xs:List Str) (kl:Kl) (dl:List (Str×List Kk×Kk)) (gs:List Int) (ps:List (Str×Kk)) (k:Kk),vs=[.ref f,.ref d,.ref ar,vk,.int room,.int down]/\bV K H f d S xs kl dl gs/\uG K H f S kl ar ps/\Rp K H (dz k) vk/\k.ok (kn kl)/\k.dep+n<=20/\1<=down/\down<n/\4<=room/\room<=1000/\ps.length+2*n<=40 /\
 ∀(v:V) (H':Hp) (tm:Tm) (gs':List Int),cP [S.lg,S.la] f H H'->bV K H' f d S xs kl dl gs'->Rp K H' (enc tm) v->Tok tm->tm.depth<=n+3->Q v H'
end
noncomputable def yh(K:PySem.W.Frag):Sp:=fun vs H Q _=>∃(f d ar:Addr) (vk:V) (room:Int) (S:i8) (xs:List Str) (kl:Kl) (dl:List (Str×List Kk×Kk)) (gs:List Int) (ps:List (Str×Kk)) (k:Kk),vs=[.ref f,.ref d,.ref ar,vk,.int room]/\bV K H f d S xs kl dl gs/\uG K H f S kl ar ps/\Rp K H (dz k) vk/\k.ok (kn kl)/\k.dep<=2/\0<=room/\room<=1000/\ps.length<=8 /\
 ∀(v:V) (H':Hp) (tm:Tm) (gs':List Int),cP [S.lg,S.la] f H H'->bV K H' f d S xs kl dl gs'->Rp K H' (enc tm) v->Tok tm->tm.depth<=9->tm.size<=40->Q v H'
noncomputable def kH(K:PySem.W.Frag)(n:Nat):Sp:=fun vs H Q _=>∃(f lo:Addr) (vk:V) (k:Kk) (few:Int) (os:List Int),vs=[.ref f,vk,.ref lo,.int few]/\cH H f/\Rp K H (dz k) vk/\k.dep<n/\k.kY=none/\H lo=some (.lst (os.map V.int))/\lo≠f/\os.length<=3/\1<=few/\few<=100 /\
 ∀(v:V) (H':Hp) (k':Kk) (os':List Int),cP [lo] f H H'->H' lo=some (.lst (os'.map V.int))->Rp K H' (dz k') v->os'.length<=3->os'.length=os.length+k'.kY.toList.length->k'.dep<=k.dep->Q v H'
section
variable {P:Program}{w:World}{K:PySem.W.Frag}{mg:Str->Option Value}{base:Heap}{gT gS gE gN gH:Addr}{tfd sfd efd nfd hfd:FuncData}
theorem dj:Nm ["_law_feed_here","_law_scene_here","_law_around","_law_kind","_law_room","_law_term_here"] (ak jv):=by decide +kernel
theorem vR:Lm ["_law_feed_here","_law_scene_here","_law_around","_law_kind","_law_room","_law_term_here"] (ak jv):=by decide +kernel
theorem pQ:aN ["_law_feed_here","_law_scene_here","_law_around","_law_kind","_law_room","_law_term_here"] ["_law_feed_here","_law_scene_here","_law_around","_law_kind","_law_room"] (ak jv):=⟨rfl,rfl,rfl,by decide +kernel,rfl,by decide +kernel,by decide +kernel⟩
theorem zI{f:Addr}{fd:FuncData}{j js jn:Nat}(h1:js<=j)(h2:jn<=j)(F:fJ K "_law_held" "_law_held" jv f fd)(SZ:bS P w K mg base "_law_size" js ["_law_term_here"] (qL K 10) gS sfd)(TE:bS P w K mg base "_law_term" j ["_law_feed_here","_law_scene_here","_law_around","_law_kind","_law_room","_law_down"] (lB K 6) gE efd)(NO:bS P w K mg base "_law_nought" jn ["_law_feed_here","_law_scene_here","_law_kind"] (jw K 4) gN nfd):bT P w K mg base fk (j+1) f fd ["_law_feed_here","_law_scene_here","_law_around","_law_kind","_law_room"] (yh K):=by
 refine F.ok pQ (fun vs H Q E h=>?_) (fun cdv A outer s H vs Q E hr h=>?_)
 ·obtain⟨_,_,_,_,_,_,_,_,_,_,_,_,rfl,_⟩:=h
  rfl
 obtain⟨fe,d,ar,vk,room,S,xs,kl,dl,gs,ps,kk,rfl,sc,ai,rk,ok,kdp,rm0,rm1,hpl,k⟩:=h
 refine⟨_,(Z5 (Z4 pQ.nd vR 5 (Z0 TE (Z1 (va dj 0) (Z1 (va dj 1) (Z1 (va dj 2) (Z1 (va dj 3) (cV (va dj 4) (Zb aj)))))))) (Z5 (Zf (Zc iX (Z0 SZ (Zb (va dj 5))) aj) (Zd (Zq (Z0 NO (Z1 (va dj 0) (Z1 (va dj 1) (Zb (va dj 3)))))))) (Zd (bQ (va dj 5))))),?_⟩
 try dsimp only[bU]
 try dsimp only[bU]
 have kd6:kk.dep+6<=20:=by omega
 have rm2:-1<=room:=by omega
 have hp6:ps.length+2*6<=40:=by omega
 fail "R"
 intro v1 H1 tm1 g1 f1 sc1 r1 tk1 d1
 have d2:tm1.depth<10:=by omega
 have rk1:=rk.kt f1.kt
 fail "R"
 intro H2 s2
 have sc2:=sc1.same s2
 have f2:=f1.same s2
 have rk2:=rk1.same s2
 have r2:=r1.same s2
 fail "R"
 refine ck (fun c=>?_) (fun c=>?_)
 ·have ok3:kk.ok ((kn kl).take kl.length):=by rw[List.take_of_length_le (by unfold kn;rw[List.length_map];exact Nat.le_refl _)];exact ok
  have k4:kl.length<4:=by have:=sc.k3;omega
  have kd1:kk.dep<=100:=by omega
  have hle:=Nat.le_refl kl.length
  fail "R"
  intro v3 H3 tm3 x3 r3 tk3 d3 z3
  have:=sc.k3
  have p3:2 ^ (kl.length+1)<=2 ^ 4:=Nat.pow_le_pow_right (by omega) (by omega)
  exact k v3 H3 tm3 g1 (f2.ext x3) (sc2.ext x3) r3 tk3 (by omega) (by omega)
 ·have c':¬(40:Int)<(tm1.size:Int):=fun z=>c (decide_eq_true z)
  fail "R"
  exact k v1 H2 tm1 g1 f2 sc2 r2 tk1 (by omega) (by omega)
theorem bw:Nm ["_law_feed_here","_law_kind","_law_opens","_law_few"] (ak gu):=by decide +kernel
theorem sj:aN ["_law_feed_here","_law_kind","_law_opens","_law_few"] ["_law_feed_here","_law_kind","_law_opens","_law_few"] (ak gu):=⟨rfl,rfl,rfl,by decide +kernel,rfl,by decide +kernel,by decide +kernel⟩
theorem vS{f:Addr}{fd:FuncData}{n j:Nat}(hj:1<=j)(F:fJ K "_law_hidden" "_law_hidden" gu f fd)(TK:bS P w K mg base "_law_take" 1 ["_law_feed_here","_law_many"] dD gT tfd)(HI:bS P w K mg base "_law_hidden" j ["_law_feed_here","_law_kind","_law_opens","_law_few"] (kH K n) gH hfd)(z_len:mg "len"=none):bT P w K mg base fk (j+1) f fd ["_law_feed_here","_law_kind","_law_opens","_law_few"] (kH K (n+1)):=by
 refine F.ok sj (fun vs H Q E h=>?_) (fun cdv A outer s H vs Q E hr h=>?_)
 ·obtain⟨_,_,_,_,_,_,rfl,_⟩:=h
  rfl
 obtain⟨fe,lo,vk,kk,few,os,rfl,hf,rk,kdp,kop,hlo,nlo,hos,fw0,fw1,k⟩:=h
 refine⟨_,(Z5 (Zf (PW.pt (@bW _ _ _ _ _ _ _ (Zc bJ (Za qi (va bw 1)) az) (@cE _ _ _ _ (Zc bJ (Z0 TK (cV (va bw 0) (Zb aj))) aj)))) (Zd (Zq (Zk (Z1 az (Z1 (Z0 HI (Z1 (va bw 0) (Z1 (Za aD (va bw 1)) (Z1 (va bw 2) (Zb (va bw 3)))))) ao)))))) (Z5 (Zf (PW.pt (@bW _ _ _ _ _ _ _ (Zc j0 (Z2 aB z_len PySem.boot_len (Zb (va bw 2))) aj) (@cE _ _ _ _ (Zc bJ (Z0 TK (Z1 (va bw 0) (Zb (va bw 3)))) aj)))) (Z5 (Zp (Z7 PySem.F.slot_list_append PySem.F.type_list_append bG (va bw 2) (Z1 (Zm bg (@bf _ _ _ _ (Z1 (Zn cJ (Zn fL aj (Z2 aB z_len PySem.boot_len (Zb (va bw 2)))) aj) (Z1 (Zn bu aj (Z2 aB z_len PySem.boot_len (Zb (va bw 2)))) ao))) (aJ eu (va bw 3) aj)) ao))) (Zd (Zq (Zk (Z1 az (Z1 (gm bg (va bw 2) (lD ji aj) (fun _ _=>rfl)) ao))))))) (Zd (bQ (va bw 1))))),?_⟩
 try dsimp only[bU]
 try dsimp only[bU]
 have fr0:cP [lo] fe H H:=cP.refl hf
 refine ki ?_
 intro N1 N2 c1 c2
 refine qv (fun b H1=>Ext fe H H1/\(b=true->∃k2,kk=.row k2)) (fun C hC=>?_) (fun H1 h1=>?_) (fun H1 h1=>?_)
 ·clear c1 c2
  have stop:∀(s:Str),s≠"row"->¬(decide (V.str s=V.str "row")=true):=fun s hs h=>by
   have e:=of_decide_eq_true h
   injection e with e
   exact hs e
  cases kk with
  |num =>
   obtain rfl:=(show Rp K H (.s "num") vk from rk).aF
   refine⟨_,rfl,.inr (.inr ⟨_,0,110,rfl,rfl,(by decide +kernel),(by decide +kernel),rfl,_,rfl,ck (fun c=>absurd c (stop _ (by decide +kernel))) (fun _=>?_)⟩)⟩
   exact hC _ _ ⟨Ext.refl hf,fun z=>nomatch z⟩
  |kd x =>
   obtain⟨ka,k1,k2,rfl,ksq,g1,g2⟩:=(show Rp K H (.t [.s "kind",.s x]) vk from rk).t2
   obtain rfl:=g1.aF
   refine⟨_,rfl,.inr (.inl ⟨ka,_,0,.str "kind",rfl,rfl,ksq,rfl,rfl,_,rfl,ck (fun c=>absurd c (stop _ (by decide +kernel))) (fun _=>?_)⟩)⟩
   exact hC _ _ ⟨Ext.refl hf,fun z=>nomatch z⟩
  |op n=>cases kop
  |row k2 =>
   obtain⟨ka,v1,v2,rfl,ksq,g1,g2⟩:=(show Rp K H (.t [.s "row",dz k2]) vk from rk).t2
   obtain rfl:=g1.aF
   refine⟨_,rfl,.inr (.inl ⟨ka,_,0,.str "row",rfl,rfl,ksq,rfl,rfl,_,rfl,ck (fun _=>?_) (fun c=>absurd (by decide +kernel) c)⟩)⟩
   fail "R"
   intro r H1 r0 r1 x1
   fail "R"
   exact hC _ _ ⟨x1,fun _=>⟨k2,rfl⟩⟩
 ·clear c1 c2
  obtain⟨x1,h1⟩:=h1
  obtain⟨k2,rfl⟩:=h1 rfl
  obtain⟨ka,v1,v2,rfl,ksq,g1,g2⟩:=(show Rp K H1 (.t [.s "row",dz k2]) vk from rk.kt (x1.kt hf)).t2
  have hlo1:=x1.1 _ _ nlo hlo
  have kop2:k2.kY=none:=kop
  have kd2:k2.dep<n:=by have:Kk.dep (.row k2)=k2.dep+1:=rfl;omega
  have hf1:=x1.2
  fail "R"
  intro v3 H3 k3 os3 f3 h3 r3 l3 e3 d3
  fail "R"
  intro p4 hp4
  have s4:=ae hp4 (.tup [.str "row",v3])
  exact k _ _ (.row k3) os3 ((fr0.ext x1).trans f3|>.same s4) (s4 _ _ h3) (Rp.new (K:=K) hp4 (.cons .s (.one r3))) l3 e3 (by show k3.dep+1<=k2.dep+1;omega)
 obtain⟨x1,_⟩:=h1
 have hf1:=x1.2
 have hlo1:=x1.1 _ _ nlo hlo
 have f1:=fr0.ext x1
 refine c1 _ _ ?_
 clear c1
 refine qv (fun b H2=>Ext fe H1 H2/\(b=true->os.length<3)) (fun C hC=>?_) (fun H2 h2=>?_) (fun H2 h2=>?_)
 ·clear c2
  fail "R"
  refine ck (fun c=>?_) (fun c=>?_)
  ·have c':((os.map V.int).length:Int)<3:=of_decide_eq_true c
   rw[List.length_map]at c'
   fail "R"
   intro r H2 r0 r1 x2
   fail "R"
   exact hC _ _ ⟨x2,fun _=>by omega⟩
  ·exact hC _ _ ⟨Ext.refl hf1,fun z=>nomatch z⟩
 ·clear c2
  obtain⟨x2,h2⟩:=h2
  have h3:=h2 rfl
  have hlo2:=x2.1 _ _ nlo hlo1
  have f2:=f1.ext x2
  fail "R"
  intro lq hlq
  have hat:∃n:Int,jC [V.int (5*((os.map V.int).length:Int)+2),.int (90 - ((os.map V.int).length:Int))] (few % 2)=some (.int n):=by
   obtain e|e:few % 2=0\/few % 2=1:=by omega
   ·rw[e];exact⟨_,cF (j:=0) rfl⟩
   ·rw[e];exact⟨_,cF (j:=1) rfl⟩
  obtain⟨m,hat⟩:=hat
  have s5:=ae hlq (.lst [.int (5*((os.map V.int).length:Int)+2),.int (90 - ((os.map V.int).length:Int))])
  have h5:upd H2 lq (.lst [.int (5*((os.map V.int).length:Int)+2),.int (90 - ((os.map V.int).length:Int))]) lq=some (.lst [.int (5*((os.map V.int).length:Int)+2),.int (90 - ((os.map V.int).length:Int))]):=af
  generalize upd H2 lq (.lst [.int (5*((os.map V.int).length:Int)+2),.int (90 - ((os.map V.int).length:Int))])=H5 at s5 h5⊢
  have hlo5:=s5 _ _ hlo2
  have los:(os.map V.int).length<sizeLine:=aZ (by rw[List.length_map];omega)
  have f6:=(f2.same s5).upd (o:=.lst (os.map V.int++[.int m])) (.head _) nlo hlo5
  have h6:upd H5 lo (.lst (os.map V.int++[.int m])) lo=some (.lst (os.map V.int++[.int m])):=af
  have hl6:jC (os.map V.int++[V.int m]) (-1)=some (.int m):=by
   unfold jC
   rw[tU _ (os.map V.int).length (by rw[List.length_append];rfl),Option.bind_some]
   simp
  fail "R"
  generalize upd H5 lo (.lst (os.map V.int++[.int m]))=H6 at f6 h6⊢
  intro p7 hp7
  have s7:=ae hp7 (.tup [.str "open",.int m])
  refine k _ _ (.op m) (os++[m]) (f6.same s7) (by rw[List.map_append];exact s7 _ _ h6) (Rp.new (K:=K) hp7 (.cons .s (.one .i))) (by rw[List.length_append];show os.length+1<=3;omega) (by rw[List.length_append];rfl) (Nat.zero_le _)
 ·obtain⟨x2,_⟩:=h2
  fail "R"
  refine k vk H2 kk os (f1.ext x2) (x2.1 _ _ nlo hlo1) ((rk.kt (x1.kt hf)).kt (x2.kt hf1)) hos (by rw[kop];rfl) (Nat.le_refl _)
end
section
variable {K:PySem.W.Frag}{H H':Hp}{f d:Addr}{S:i8}{xs:List Str}{kl:Kl}{dl:List (Str×List Kk×Kk)}{gs:List Int}
theorem fH.get{nn:List Addr}:∀{dl:List (Str×List Kk×Kk)}{vs:List V}{i:Nat}{v:V},fH K H nn dl vs->vs[i]?=some v->∃dd∈dl,vK K H nn dd v
 | [],_,_,_,h,e=>by subst h;cases e
 |dd::r,_,0,v,⟨u,us,e1,h,_⟩,e=>by
  subst e1
  cases e
  exact⟨dd,.head _,h⟩
 |dd::r,_,i+1,v,⟨u,us,e1,_,h⟩,e=>by
  subst e1
  obtain⟨d2,m,h2⟩:=fH.get h (show us[i]?=some v from e)
  exact⟨d2,.tail _ m,h2⟩
theorem fH.len{nn:List Addr}:∀{dl:List (Str×List Kk×Kk)}{vs:List V},fH K H nn dl vs->vs.length=dl.length
 | [],_,h=>by subst h;rfl
 |dd::r,_,⟨u,us,e1,_,h⟩=>by
  subst e1
  rw[List.length_cons,List.length_cons,fH.len h]
theorem mH{Q:VK}(sc:bV K H f d S xs kl dl gs)(k:∀(l:Addr) (H':Hp),aI H H'->H l=none->H' l=some (.lst ((kn kl).map V.str))->Q (.ref l) H'):gY (vW K S.kd) (vc K 2 (jf (dW 0) (jf (dW 1) wg))) m8 (iN 0) Q [none,none] H:=by
 obtain⟨ka,kvs,ek,ksq,rks⟩:=sc.kd.aC
 cases ek
 have k3:=sc.k3
 refine dZ (e:=zp) (φ:=fun k=>[.s k.1]) (fun σ=>∃a b,σ=[a,b]) ksq rks (by omega) (fun k=>Nat.le_refl _) ⟨_,_,rfl⟩ ?_ ?_
 ·rintro p hp y _ H6 N s6 ⟨_,_,rfl⟩ rx kN
  obtain⟨xa,x1,x2,rfl,xsq,r1,r2⟩:=(show Rp K H6 (.t [.s p.1,.t (p.2.map kD)]) y from rx).t2
  fail "R"
  exact kN _ _ _ ⟨⟨_,_,rfl⟩,aI.refl _,.one r1⟩
 intro l H1 ws s1 hl h1 r1
 rw[iy (fun p:Str×List (Str×List Kk)=>T.s p.1),show(kl.map fun p=>T.s p.1)=(kn kl).map T.s from by unfold kn;rw[List.map_map];rfl]at r1
 obtain rfl:=r1.nv
 exact k l H1 s1 hl h1
theorem bV.Br(sc:bV K H f d S xs kl dl gs):(kn kl).length<=3:=by unfold kn;rw[List.length_map];exact sc.k3
structure CI(K:PySem.W.Frag) (f d:Addr) (S:i8) (xs:List Str) (kl:Kl) (dl:List (Str×List Kk×Kk)) (H:Hp) (dp:Nat) (i:Nat) (us:List V) (H':Hp):Prop where
 x:∃(ts:List Tm) (gs:List Int),Wk K f d S xs kl dl H dp ts us gs H'/\ts.length=i
end
noncomputable def NN(S:i8)(d p:Addr):Prop:=p≠d/\p≠S.ln/\p≠S.lc/\p≠S.lp/\p≠S.ld/\p≠S.lg/\p≠S.la
section
variable {K:PySem.W.Frag}{H H':Hp}{f d:Addr}{S:i8}{xs:List Str}{kl:Kl}{dl:List (Str×List Kk×Kk)}{gs:List Int}
theorem bV.nn(s:bV K H f d S xs kl dl gs){p:Addr}(hp:H p=none):NN S d p:=by
 obtain⟨_,hd,_⟩:=s.ld
 obtain⟨_,ha,_⟩:=s.la
 exact⟨(au s.sd hp).symm,(au s.ln hp).symm,(au s.lc hp).symm,(au s.lp hp).symm,(au hd hp).symm,(au s.lg hp).symm,(au ha hp).symm⟩
theorem bV.gh(s:bV K H f d S xs kl [] gs)(a b:Addr):bV K H f d {S with x1:=a,x2:=b} xs kl [] gs:=by
 obtain⟨vs,hd,e⟩:=s.ld
 exact⟨s.sd,s.kd,s.ok,s.k3,s.lx,s.un,s.ln,s.lc,s.lp,⟨vs,hd,e⟩,s.dl,s.lg,s.la,s.mm,s.mo,s.tn,s.ff,s.nf,s.ng,s.nd,s.na⟩
theorem bV.Dr(s:bV K H f d S xs kl dl gs)(fr:cP [S.x1,S.x2] f H H')(m1:NN S d S.x1)(m2:NN S d S.x2):bV K H' f d S xs kl dl gs:=by
 obtain⟨vs,hd,e⟩:=s.ld
 obtain⟨kvs,ha,hl⟩:=s.la
 obtain⟨n0,n1,n2,n3,n4,n5,n6⟩:=s.nf
 obtain⟨a0,a1,a2,a3,a4,a5,a6⟩:=m1
 obtain⟨b0,b1,b2,b3,b4,b5,b6⟩:=m2
 exact⟨fr.gJ a0.symm b0.symm n0 s.sd,s.kd.kt fr.kt,s.ok,s.k3,s.lx,s.un,fr.gJ a1.symm b1.symm n1 s.ln,fr.gJ a2.symm b2.symm n2 s.lc,fr.gJ a3.symm b3.symm n3 s.lp,⟨vs,fr.gJ a4.symm b4.symm n4 hd,e.go (fun b ws z h=>fr.gJ (lI z).2.2.2.1 (lI z).2.2.2.2 (lI z).1 h) fr.kt⟩,s.dl,fr.gJ a5.symm b5.symm n5 s.lg,⟨kvs,fr.gJ a6.symm b6.symm n6 ha,hl⟩,s.mm,s.mo,s.tn,fr.ff,s.nf,s.ng,s.nd,s.na⟩
theorem fH.snoc{nn:List Addr}{dd:Str×List Kk×Kk}{v:V}(h:vK K H nn dd v):∀{dl:List (Str×List Kk×Kk)}{vs:List V},fH K H nn dl vs->fH K H nn (dl++[dd]) (vs++[v])
 | [],_,e=>by subst e;exact⟨v,[],rfl,h,rfl⟩
 |_::_,_,⟨u,us,e,a,b⟩=>by subst e;exact⟨u,us++[v],rfl,a,fH.snoc h b⟩
theorem bV.Bc(s:bV K H f d S xs kl dl gs){vs:List V}(h:H S.ld=some (.lst vs))(e:fH K H (S.nn f) dl vs){dd:Str×List Kk×Kk}{v:V}(da:vK K H (S.nn f) dd v)(ok:A1 (kn kl) (dl++[dd])):bV K (upd H S.ld (.lst (vs++[v]))) f d S xs kl (dl++[dd]) gs:=by
 obtain⟨kvs,ha,hl⟩:=s.la
 obtain⟨n0,n1,n2,n3,n4,n5,n6⟩:=s.nf
 obtain⟨g1,g2,g3,g4⟩:=s.ng
 obtain⟨p1,p2,p3⟩:=s.nd
 have fr:cP [S.ld] f H (upd H S.ld (.lst (vs++[v]))):=(cP.refl s.ff).upd (.head _) n4 h
 have nd:d≠S.ld:=gj s.sd h (fun z=>nomatch z)
 have nla:S.la≠S.ld:=gj ha h (fun z=>nomatch z)
 exact⟨fr.gy nd n0 s.sd,s.kd.kt fr.kt,s.ok,s.k3,s.lx,s.un,fr.gy p1 n1 s.ln,fr.gy p2 n2 s.lc,fr.gy p3 n3 s.lp,⟨_,af,(e.snoc da).go (fun b ws z h=>fr.gy (lI z).2.2.1 (lI z).1 h) fr.kt⟩,ok,fr.gy g4.symm n5 s.lg,⟨kvs,fr.gy nla n6 ha,hl⟩,s.mm,s.mo,s.tn,fr.ff,s.nf,s.ng,s.nd,s.na⟩
structure PC(K:PySem.W.Frag) (f:Addr) (ns kn:List Str) (H:Hp) (i:Nat) (us:List V) (H':Hp):Prop where
 x:∃ps:List (Str×Kk),cP [] f H H'/\aO K H' (ps.map ny) us/\ps.map (·.1)=ns.take i/\∀p∈ps,p.2.ok kn/\p.2.dep<=1
structure HC(K:PySem.W.Frag) (f lo:Addr) (H:Hp) (ps:List (Str×Kk)) (os:List Int) (i:Nat) (us:List V) (H':Hp):Prop where
 x:∃(qs:List (Str×Kk)) (os':List Int),cP [lo] f H H'/\aO K H' (qs.map ny) us/\qs.map (·.1)=(ps.take i).map (·.1)/\H' lo=some (.lst (os'.map V.int))/\os'.length<=3/\os'.length=os.length+(eo qs).length/\∀p∈qs,p.2.dep<=1
noncomputable def tV(dd:Str×List (Str×Kk)×Tm):Prop:=Tok dd.2.2/\dd.2.2.size<=40/\dd.2.2.depth<=9/\dd.2.1.length<=3/\∀p∈dd.2.1,p.2.dep<=1
structure PI(K:PySem.W.Frag) (f d:Addr) (S:i8) (xs:List Str) (kl:Kl) (lk:Addr) (H:Hp) (i:Nat) (H':Hp):Prop where
 x:∃(ds:List (Str×List (Str×Kk)×Tm)) (vs:List V) (os:List Int) (dl:List (Str×List Kk×Kk)) (gs:List Int),cP [S.x1,S.x2,S.lg,S.la,S.ld] f H H'/\bV K H' f d S xs kl dl gs/\H' S.x1=some (.lst vs)/\aO K H' (ds.map rP) vs/\ds.length=i/\dl.length=i/\H' S.x2=some (.lst (os.map V.int))/\os.length=(bh ds).length/\os.length<=3/\H' lk=some (.lst ((kn kl).map V.str))/\∀dd∈ds,tV dd
noncomputable def lK(K:PySem.W.Frag):Sp:=fun vs H Q _=>∃(f d:Addr) (room:Int) (S:i8) (xs:List Str) (kl:Kl) (gs:List Int),vs=[.ref f,.ref d,.int room,.int 2]/\bV K H f d S xs kl [] gs/\0<=room/\room<=1000 /\
 ∀(p:Addr) (vp wv gv:V) (H':Hp) (ds:List (Str×List (Str×Kk)×Tm)),cP [S.lg,S.la,S.ld] f H H'->H' p=some (.tup [vp,wv,gv])->Rp K H' (i0 (qC kl) ds) vp->1<=ds.length->ds.length<=3->(∀dd∈ds,tV dd)->(bh ds).length<=3->Q (.ref p) H'
theorem kI(a b:List (Str×Kk)):eo (a++b)=eo a++eo b:=by unfold eo;rw[List.filterMap_append]
theorem nO(a b:List (Str×List (Str×Kk)×Tm)):bh (a++b)=bh a++bh b:=by unfold bh;rw[List.flatMap_append]
end
noncomputable def Bs(m:Int):T:=.t [.s "gap",.i m]
noncomputable def lN(K:PySem.W.Frag)(H:Hp)(d:Addr)(g:Int->Int):Prop:=∃kvs,H d=some (.dK kvs)/\∀m:Int,(eK kvs (.inl m:Key)=none/\g m=m)\/∃u,eK kvs (.inl m:Key)=some u/\Rp K H (Bs (g m)) u/\0<=g m/\g m<1000
theorem lN.bd{K:PySem.W.Frag}{H:Hp}{d:Addr}{g:Int->Int}(p:lN K H d g)(m:Int)(h:0<=m/\m<1000):0<=g m/\g m<1000:=by
 obtain⟨kvs,_,h2⟩:=p
 rcases h2 m with⟨_,e⟩|⟨_,_,_,b⟩
 ·rw[e];exact h
 ·exact b
theorem lN.same{K:PySem.W.Frag}{H H':Hp}{d:Addr}{g:Int->Int}(p:lN K H d g)(s:aI H H'):lN K H' d g:=by
 obtain⟨kvs,h1,h2⟩:=p
 refine⟨kvs,s _ _ h1,fun m=>(h2 m).elim .inl fun⟨u,e,r,b⟩=>.inr ⟨u,e,r.same s,b⟩⟩
noncomputable def uP(K:PySem.W.Frag)(n:Nat):Sp:=fun vs H Q _=>∃(v:V) (d:Addr) (tm:Tm) (g:Int->Int),vs=[v,.ref d]/\Rp K H (enc tm) v/\Tok tm/\tm.depth<n/\lN K H d g /\
 ∀(v':V) (H':Hp),aI H H'->Rp K H' (enc (i4 g tm)) v'->Q v' H'
noncomputable def pS(K:PySem.W.Frag):Sp:=fun vs H Q _=>∃(v:V) (kt:T) (ds:List (Str×List (Str×Kk)×Tm)),vs=[v]/\Rp K H (i0 kt ds) v/\ds.length<=3/\(∀dd∈ds,tV dd) /\
 ∀(p:Addr) (H':Hp) (ns:List Int),aI H H'->H p=none->H' p=some (.lst (ns.map V.int))->ns.length<=120->Q (.ref p) H'
structure UI(K:PySem.W.Frag) (H:Hp) (l:Addr) (ts:List T) (H':Hp):Prop where
 x:∃us:List V,aI H H'/\H' l=some (.lst us)/\aO K H' ts us
section
variable {P:Program}{w:World}{K:PySem.W.Frag}{mg:Str->Option Value}{base:Heap}{gW gS gP:Addr}{wfd sfd pfd:FuncData}
theorem fY:Nm ["_law_program","_law_found","_law_f","_law_params","_law_term_here"] (ak fG):=by decide +kernel
theorem fZ:Lm ["_law_program","_law_found","_law_f","_law_params","_law_term_here"] (ak fG):=by decide +kernel
theorem eJ:aN ["_law_program","_law_found","_law_f","_law_params","_law_term_here"] ["_law_program"] (ak fG):=⟨rfl,rfl,rfl,by decide +kernel,rfl,by decide +kernel,by decide +kernel⟩
theorem sr{f:Addr}{fd:FuncData}{j:Nat}(F:fJ K "_law_gaps_of" "_law_gaps_of" fG f fd)(LG:bS P w K mg base "_law_gaps_in" j ["_law_term_here"] (mD K 10) gS sfd):bT P w K mg base fk (j+1) f fd ["_law_program"] (pS K):=by
 refine F.ok eJ (fun vs H Q E h=>?_) (fun cdv A outer s H vs Q E hr h=>?_)
 ·obtain⟨_,_,_,rfl,_⟩:=h
  rfl
 obtain⟨v,kt,ds,rfl,r0,hl,hds,k⟩:=h
 refine⟨_,(Z5 (sa eJ.nd fZ 1 (bf ao)) (Z5 (Zi (@bX _ _ _ _ (Za aD (va fY 0))) (Ze (3) (Zj (ga eJ.nd fZ 2) (Zj (ga eJ.nd fZ 3) (aR (ga eJ.nd fZ 4) bz)))) (Zd (Zp (Z7 PySem.F.slot_list_extend PySem.F.type_list_extend eO (va fY 1) (Z1 (Z0 LG (Zb (va fY 4))) ao))))) (Zd (bQ (va fY 1))))),?_⟩
 try dsimp only[bU]
 try dsimp only[bU]
 obtain⟨pa,v1,v2,rfl,psq,g1,g2⟩:=r0.t2
 obtain⟨da,dvs,rfl,dsq,rds⟩:=g2.aC
 have ld:=rds.length
 rw[List.length_map]at ld
 fail "R"
 intro l hl
 have s1:=ae hl (.lst [])
 have h1:upd H l (.lst []) l=some (.lst []):=af
 generalize upd H l (.lst [])=H1 at s1 h1⊢
 have psq1:=psq.same s1
 have dsq1:=dsq.same s1
 fail "R"
 refine fP (K:=K) (xs:=dvs) (fun j σ H3=>(∃y5 y6 y7,σ=[some (.ref pa),some (.ref l),y5,y6,y7])/\CG l H (j*40) H3/\Kt H1 H3) ⟨⟨_,_,_,rfl⟩,⟨[],s1,h1,Nat.zero_le _⟩,Kt.refl⟩ ?_ ?_ ?_
 ·rintro j σ H3 hj ⟨_,_,k3⟩
  exact dsq1.kt k3
 ·rintro j xv σ H3 hxv ⟨⟨_,_,_,rfl⟩,⟨ns,s3,h3,l3⟩,k3⟩
  obtain⟨yv,hyv,ryv⟩:=rds.get' hxv
  rw[List.getElem?_map]at hyv
  obtain⟨d,hd1,rfl⟩:=Option.map_eq_some_iff.mp hyv
  have hjl:j<ds.length:=(List.getElem?_eq_some_iff.mp hd1).1
  obtain⟨ta,w1,w2,w3,rfl,tsq,q1,q2,q3⟩:=(show Rp K H3 (.t [.s d.1,.t (d.2.1.map ny),enc d.2.2]) xv from(ryv.same s1).kt k3).t3
  obtain⟨tk,tz,td,_⟩:=hds d (List.mem_of_getElem? hd1)
  have td10:d.2.2.depth<10:=by omega
  have tz100:d.2.2.size<=100:=by omega
  fail "R"
  intro p7 H7 ns7 s7 h7 l7
  have h7l:=s7 _ _ h3
  have hl9:(ns.map V.int).length+(ns7.map V.int).length<=sizeLine:=small (by rw[List.length_map,List.length_map];omega)
  fail "R"
  ·exact⟨ns++ns7,(s3.trans s7).ow hl _,by rw[List.map_append];exact af,by rw[List.length_append,Nat.succ_mul];omega⟩
  ·exact(k3.trans (Kt.same s7)).trans (Kt.lst h7l _)
 ·rintro σ H3 ⟨⟨_,_,_,rfl⟩,⟨ns,s3,h3,l3⟩,k3⟩
  fail "R"
  exact k l H3 ns s3 hl h3 (by omega)
theorem bE:Nm ["_law_term_here","_law_put_here","_law_found","_law_one"] (ak gZ):=by decide +kernel
theorem su:Lm ["_law_term_here","_law_put_here","_law_found","_law_one"] (ak gZ):=by decide +kernel
theorem nQ:aN ["_law_term_here","_law_put_here","_law_found","_law_one"] ["_law_term_here","_law_put_here"] (ak gZ):=⟨rfl,rfl,rfl,by decide +kernel,rfl,by decide +kernel,by decide +kernel⟩
theorem Bd{f:Addr}{fd:FuncData}{n j:Nat}(hj:1<=j)(F:fJ K "_law_put" "_law_put" gZ f fd)(WD:bS P w K mg base "_law_words" 1 [] ik gW wfd)(PU:bS P w K mg base "_law_put" j ["_law_term_here","_law_put_here"] (uP K n) gP pfd)(z_len:mg "len"=none)(z_tuple:mg "tuple"=none)(z_str:mg "str"=none)(z_isinstance:mg "isinstance"=none):bT P w K mg base fk (j+1) f fd ["_law_term_here","_law_put_here"] (uP K (n+1)):=by
 refine F.ok nQ (fun vs H Q E h=>?_) (fun cdv A outer s H vs Q E hr h=>?_)
 ·obtain⟨_,_,_,_,rfl,_⟩:=h
  rfl
 obtain⟨v,d,⟨h,ks⟩,g,rfl,rv,tk,hd,hp,k⟩:=h
 refine⟨_,(Z5 (Zf (Zc bJ (Za aD (va bE 0)) az) (Zd (Zq (@wM _ _ _ _ _ _ _ _ _ (oV hr) (va bE 1) (Za aD (va bE 0)) (va bE 0) ⟨by rfl,by rfl,by rfl,by rfl⟩)))) (Z5 (sa nQ.nd su 2 (bf ao)) (Z5 (Zi (bX (va bE 0)) (ga nQ.nd su 3) (Zd (@fj _ _ _ _ _ _ _ _ (PW.pt (@bW _ _ _ _ _ _ _ (@dQ _ _ _ (Z2 (cT K rfl) z_isinstance PyProof.Rows.boot_isinstance (Z1 (va bE 3) (Zb (cY (v:=.ty "tuple") (by show _=_;kernel_rfl) z_tuple (by decide +kernel) rfl)))) (by intro _;rfl)) (@bW _ _ _ _ _ _ _ (Zc iX (Z2 aB z_len PySem.boot_len (Zb (va bE 3))) aj) (@bW _ _ _ _ _ _ _ (@dQ _ _ _ (Z2 (k7 K rfl) z_isinstance PyProof.Rows.boot_isinstance (Z1 (Za aD (va bE 3)) (Zb (cY (v:=.ty "str") (by show _=_;kernel_rfl) z_str (by decide +kernel) rfl)))) (by intro _;rfl)) (@cE _ _ _ _ (@aM _ _ _ _ _ _ _ _ eN (Za aD (va bE 3)) (mR WD.ok (hr.mono (by omega)) (by show _=_;kernel_rfl) WD.at' WD.kp WD.bd .nil jm) (by with_unfolding_all rfl))))))) (Zd (Zp (Z7 PySem.F.slot_list_append PySem.F.type_list_append bG (va bE 2) (Z1 (Z0 PU (Z1 (va bE 3) (Zb (va bE 1)))) ao)))) (Zd (@fj _ _ _ _ _ _ _ _ (PW.pt (@bW _ _ _ _ _ _ _ (@dQ _ _ _ (Z2 (cT K rfl) z_isinstance PyProof.Rows.boot_isinstance (Z1 (va bE 3) (Zb (cY (v:=.ty "tuple") (by show _=_;kernel_rfl) z_tuple (by decide +kernel) rfl)))) (by intro _;rfl)) (@cE _ _ _ _ (Zc bJ (Za aD (va bE 0)) az)))) (Zd (Zp (Z7 PySem.F.slot_list_append PySem.F.type_list_append bG (va bE 2) (Z1 (Z6 aL z_tuple PyProof.Rows.boot_tuple (Z1 (Z8 (ak gZ) ["_law_term_here","_law_put_here","_law_found","_law_one"] ["_law_t","_law_names_here","_law_arm"] [1] (bX (va bE 3)) (fun _ _ _ _=>(Ze (3) (Zj (Z3 (i:=0) (show(["_law_t","_law_names_here","_law_arm","_law_put_here"]:List Str).Nodup by decide +kernel)) (Zj (Z3 (i:=1) (show(["_law_t","_law_names_here","_law_arm","_law_put_here"]:List Str).Nodup by decide +kernel)) (aR (Z3 (i:=2) (show(["_law_t","_law_names_here","_law_arm","_law_put_here"]:List Str).Nodup by decide +kernel)) bz))))) (fun _ _ _ _=>(Zk (Z1 (va (show Nm ["_law_t","_law_names_here","_law_arm","_law_put_here"] _ by show _=_;kernel_rfl) 0) (Z1 (va (show Nm ["_law_t","_law_names_here","_law_arm","_law_put_here"] _ by show _=_;kernel_rfl) 1) (Z1 (Z0 PU (Z1 (va (show Nm ["_law_t","_law_names_here","_law_arm","_law_put_here"] _ by show _=_;kernel_rfl) 2) (Zb (va (show Nm ["_law_t","_law_names_here","_law_arm","_law_put_here"] _ by show _=_;kernel_rfl) 3)))) ao)))))) ao)) ao)))) (Zd (@fj _ _ _ _ _ _ _ _ (@dQ _ _ _ (Z2 (cT K rfl) z_isinstance PyProof.Rows.boot_isinstance (Z1 (va bE 3) (Zb (cY (v:=.ty "tuple") (by show _=_;kernel_rfl) z_tuple (by decide +kernel) rfl)))) (by intro _;rfl)) (Zd (Zp (Z7 PySem.F.slot_list_append PySem.F.type_list_append bG (va bE 2) (Z1 (Z6 aL z_tuple PyProof.Rows.boot_tuple (Z1 (Z8 (ak gZ) ["_law_term_here","_law_put_here","_law_found","_law_one"] ["_law_more"] [1] (bX (va bE 3)) (fun _ _ _ _=>(Z3 (i:=0) (show(["_law_more","_law_put_here"]:List Str).Nodup by decide +kernel))) (fun _ _ _ _=>(Z0 PU (Z1 (va (show Nm ["_law_more","_law_put_here"] _ by show _=_;kernel_rfl) 0) (Zb (va (show Nm ["_law_more","_law_put_here"] _ by show _=_;kernel_rfl) 1)))))) ao)) ao)))) (Zd (Zp (Z7 PySem.F.slot_list_append PySem.F.type_list_append bG (va bE 2) (Zb (va bE 3)))))))))))) (Zd (Zq (Z6 aL z_tuple PyProof.Rows.boot_tuple (Zb (va bE 2)))))))),?_⟩
 try dsimp only[bU]
 try dsimp only[bU]
 cases tk with
 |mk ar lk tks =>
 obtain⟨its,I⟩:=tQ ar
 have rv0:=rv
 rw[cZ,I.e]at rv
 obtain⟨va,vvs,rfl,vsq,rvs⟩:=rv.aC
 obtain⟨v1,us,rfl,r1,rus⟩:=aO.inv (K:=K) (x:=.s (hdS h)) rvs
 obtain rfl:=r1.aF
 have lus:=rus.length
 rw[List.length_map]at lus
 have lits:=I.len
 have a0:=vF (V.str (hdS h)) us
 refine kj ?_
 intro N1 N2 N3 c1 c2 c3
 fail "R"
 refine ck (fun c=>?_) (fun c=>?_)
 ·clear c1 c2 c3
  have eg:hdS h="gap":=by injection(of_decide_eq_true c)
  obtain⟨m,rfl,rfl⟩:=tS ar eg
  have rv1:=rv0
  rw[cZ]at rv0
  obtain⟨ga,w1,w2,ez,gsq,q1,q2⟩:=(show Rp K H (.t [.s "gap",.i m]) (.ref va)from rv0).t2
  cases ez
  obtain rfl:=q2.dB
  obtain⟨kvs,hdk,hkv⟩:=hp
  have e9:enc (i4 g (.mk (.gap m) []))=Bs (g m):=by rw[nG,cZ];rfl
  have hD:C3 H d:=.inl ⟨kvs,.inl hdk⟩
  rcases hkv m with⟨e,eg2⟩|⟨u,e,ru,_⟩
  ·have hget:jP H d (.int m) none:=by
    have:=jP.k (k:=(Sum.inl m:Key)) hdk
    rw[e]at this
    exact this
   fail "R"
   refine k (.ref va) H (aI.refl _) ?_
   rw[e9,eg2]
   exact rv0
  ·have hget:jP H d (.int m) (some u):=by
    have:=jP.k (k:=(Sum.inl m:Key)) hdk
    rw[e]at this
    exact this
   fail "R"
   refine k u H (aI.refl _) ?_
   rw[e9]
   exact ru
 have ng:∀m,h≠.gap m:=fun m z=>c (decide_eq_true (by rw[z];rfl))
 fail "R"
 intro l hl
 have s1:=ae hl (.lst [])
 have h1:upd H l (.lst []) l=some (.lst []):=af
 generalize upd H l (.lst [])=H1 at s1 h1⊢
 have vsq1:=vsq.same s1
 have rvs1:=rvs.same s1
 fail "R"
 refine fP (K:=K) (xs:=.str (hdS h)::us) (fun i σ H3=>(∃y,σ=[some (.ref va),some (.ref d),some (.ref l),y])/\UI K H l (((.s (hdS h)::(its.map (itR g)).map xV):List T).take i) H3/\Kt H1 H3) ⟨⟨_,rfl⟩,⟨[],s1,h1,.nil⟩,Kt.refl⟩ ?_ ?_ ?_
 ·rintro i σ H3 hi ⟨_,_,k3⟩
  exact vsq1.kt k3
 ·rintro i x σ H3 hx ⟨⟨_,rfl⟩,⟨ws,s3,h3,r3⟩,k3⟩
  have lws:=r3.length
  have hil:i<us.length+1:=by have:=(List.getElem?_eq_some_iff.mp hx).1;rw[List.length_cons]at this;exact this
  have lws2:ws.length<sizeLine:=aZ (by rw[lws,List.length_take];omega)
  have fin:∀(it:It) (u:V) (H5:Hp),((.s (hdS h)::(its.map (itR g)).map xV):List T)[i]?=some (xV it)->aI H3 H5->Rp K H5 (xV it) u->UI K H l (((.s (hdS h)::(its.map (itR g)).map xV):List T).take (i+1)) (upd H5 l (.lst (ws++[u])))/\Kt H1 (upd H5 l (.lst (ws++[u]))):=by
   intro it u H5 e5 s5 r5
   have k5:=Kt.lst (s5 _ _ h3) (.lst (ws++[u]))
   refine⟨⟨ws++[u],(s3.trans s5).ow hl _,af,?_⟩,(k3.trans (Kt.same s5)).trans k5⟩
   have hi5:=(List.getElem?_eq_some_iff.mp e5).1
   rw[List.take_succ_eq_append_getElem hi5,(List.getElem?_eq_some_iff.mp e5).2]
   exact((r3.same s5).kt k5).snoc (r5.kt k5)
  have k03:Kt H H3:=(Kt.same s1).trans k3
  have hget:∃it,x=x/\Rp K H3 (xV it) x/\kF (hdS h) it/\(∀k∈iU it,k∈ks)/\(iU it).length<=9/\((.s (hdS h)::(its.map (itR g)).map xV):List T)[i]?=some (xV (itR g it)):=by
   cases i with
   |zero =>
    cases hx
    exact⟨.lf (.s (hdS h)),rfl,.s,True.intro,(fun k hk=>nomatch hk),Nat.zero_le _,rfl⟩
   |succ i =>
    rw[List.getElem?_cons_succ]at hx
    obtain⟨tt,ht,rt⟩:=rus.get' hx
    rw[List.getElem?_map]at ht
    obtain⟨it,hit,rfl⟩:=Option.map_eq_some_iff.mp ht
    have hmem:=List.mem_of_getElem? hit
    exact⟨it,rfl,rt.kt k03,I.ok it hmem,fun k hk=>tR I.k hmem hk,(by
     have h9:(iU it).length<=ks.length:=by
      rw[←I.k]
      exact List.Sublist.length_le (List.sublist_flatten_of_mem (List.mem_map_of_mem hmem))
     omega),by rw[List.getElem?_cons_succ,List.getElem?_map,List.getElem?_map,hit];rfl⟩
  obtain⟨it,_,rt,iok,ikd,il9,e5⟩:=hget
  have hk:∀k∈iU it,Tok k/\k.depth<n:=fun k hk=>by
   have hm:=ikd k hk
   have:=Tm.iC (h:=h) hm
   exact⟨tks k hm,by omega⟩
  have hp3:=hp.same s3
  refine A7 (K:=K) (i:=3) (it:=it) rfl rfl (vsq.kt k03) rt iok ?_ ?_ ?_ ?_
  ·rintro k0 rfl H4 s4
   have rk:Rp K H4 (enc k0) x:=rt.same s4
   obtain⟨tk0,d0⟩:=hk k0 (.head _)
   have hp4:=hp3.same s4
   have h4:=s4 _ _ h3
   fail "R"
   refine⟨g,?_⟩
   fail "R"
   intro v5 H5 s5 r5
   have h5:=s5 _ _ h4
   obtain⟨z1,z2⟩:=fin (.one (i4 g k0)) v5 H5 e5 (s4.trans s5) r5
   fail "R"
   exact z2
  ·rintro as ks0 rfl H4 s4
   obtain⟨xa,xvs,rfl,xsq,rxs⟩:=(show Rp K H4 (.t (List.zipWith fq as (ks0.map enc))) x from rt.same s4).aC
   rw[jy]at rxs
   have lz0:(as.zip ks0).length<=900:=by
    have:ks0.length<=9:=il9
    rw[List.length_zip];omega
   have h4:=s4 _ _ h3
   have hp4:=hp3.same s4
   fail "R"
   refine dZ (e:=fun p:(Str×List Str)×Tm=>fq p.1 (enc p.2)) (φ:=fun p=>[fq p.1 (enc (i4 g p.2))]) (fun σ=>∃a b c,σ=[a,b,c,some (.ref d)]) xsq rxs lz0 (fun _=>Nat.le_refl _) ⟨_,_,_,rfl⟩ ?_ ?_
   ·rintro p hp0 y _ H6 N s6 ⟨_,_,_,rfl⟩ ry kN
    obtain⟨ya,y1,y2,y3,rfl,ysq,q1,q2,q3⟩:=(show Rp K H6 (.t [.s p.1.1,.t (p.1.2.map .s),enc p.2]) y from ry).t3
    obtain⟨tk6,d6⟩:=hk p.2 (List.of_mem_zip (show(p.1,p.2)∈as.zip ks0 from hp0)).2
    have hp6:=hp4.same s6
    fail "R"
    refine⟨g,?_⟩
    fail "R"
    intro v7 H7 s7 r7
    fail "R"
    intro p8 hp8
    have s8:=ae hp8 (.tup [y1,y2,v7])
    exact kN _ _ _ ⟨⟨_,_,_,rfl⟩,s7.trans s8,.one (Rp.new (K:=K) (xs:=[.s p.1.1,.t (p.1.2.map .s),enc (i4 g p.2)]) hp8 (.cons (q1.same s7) (.cons (q2.same s7) (.one r7))))⟩
   intro l9 H9 ws9 s9 hl9 h9 r9
   have e9:((as.zip ks0).map fun p=>fq p.1 (enc (i4 g p.2)))=List.zipWith fq as ((ks0.map (i4 g)).map enc):=by
    rw[jy,List.zip_map_right,List.map_map]
    rfl
   rw[iy (fun p:(Str×List Str)×Tm=>fq p.1 (enc (i4 g p.2))),e9]at r9
   have h9l:=s9 _ _ h4
   fail "R"
   refine .inl ⟨cy.of h9,fun p10 hp10=>?_⟩
   have s10:=ae hp10 (.tup ws9)
   have r10:=Rp.new (K:=K) hp10 r9
   have h10l:=s10 _ _ h9l
   obtain⟨z1,z2⟩:=fin (.arms as (ks0.map (i4 g))) (.ref p10) _ e5 ((s4.trans s9).trans s10) r10
   fail "R"
   exact z2
  ·rintro ks0 rfl H4 s4
   obtain⟨xa,xvs,rfl,xsq,rxs⟩:=(show Rp K H4 (.t (ks0.map enc)) x from rt.same s4).aC
   have lz0:ks0.length<=900:=by have:ks0.length<=9:=il9;omega
   have h4:=s4 _ _ h3
   have hp4:=hp3.same s4
   fail "R"
   refine dZ (e:=enc) (φ:=fun p=>[enc (i4 g p)]) (fun σ=>∃a,σ=[a,some (.ref d)]) xsq rxs lz0 (fun _=>Nat.le_refl _) ⟨_,rfl⟩ ?_ ?_
   ·rintro p hp0 y _ H6 N s6 ⟨_,rfl⟩ ry kN
    obtain⟨tk6,d6⟩:=hk p hp0
    have hp6:=hp4.same s6
    fail "R"
    refine⟨g,?_⟩
    fail "R"
    intro v7 H7 s7 r7
    exact kN _ _ _ ⟨⟨_,rfl⟩,s7,.one r7⟩
   intro l9 H9 ws9 s9 hl9 h9 r9
   have e9:(ks0.map fun p=>enc (i4 g p))=(ks0.map (i4 g)).map enc:=by rw[List.map_map];rfl
   rw[iy (fun p:Tm=>enc (i4 g p)),e9]at r9
   have h9l:=s9 _ _ h4
   fail "R"
   refine .inl ⟨cy.of h9,fun p10 hp10=>?_⟩
   have s10:=ae hp10 (.tup ws9)
   have r10:=Rp.new (K:=K) hp10 r9
   have h10l:=s10 _ _ h9l
   obtain⟨z1,z2⟩:=fin (.many (ks0.map (i4 g))) (.ref p10) _ e5 ((s4.trans s9).trans s10) r10
   fail "R"
   exact z2
  ·rintro t rfl H4 s4
   have h4:=s4 _ _ h3
   obtain⟨z1,z2⟩:=fin (.lf t) x H4 e5 s4 (rt.same s4)
   fail "R"
   exact z2
 ·rintro σ H3 ⟨⟨_,rfl⟩,⟨ws,s3,h3,r3⟩,k3⟩
  rw[List.take_of_length_le (by simp only[List.length_cons,List.length_map];omega)]at r3
  fail "R"
  refine .inl ⟨cy.of h3,fun p4 hp4=>?_⟩
  have s4:=ae hp4 (.tup ws)
  refine k _ _ (s3.trans s4) ?_
  rw[nG,cZ,I.r g ng]
  exact Rp.new (K:=K) hp4 r3
end
noncomputable def uQ(K:PySem.W.Frag):Sp:=fun vs H Q _=>∃(v:V) (d:Addr) (kt:T) (ds:List (Str×List (Str×Kk)×Tm)) (g:Int->Int),vs=[v,.ref d]/\Rp K H (i0 kt ds) v/\ds.length<=3/\(∀dd∈ds,tV dd)/\lN K H d g /\
 ∀(v':V) (H':Hp),aI H H'->Rp K H' (i0 kt (ds.map fun dd=>(dd.1,dd.2.1,i4 g dd.2.2))) v'->Q v' H'
noncomputable def uR:Sp:=fun vs H Q _=>∃(f:Addr) (m:Nat),vs=[.ref f,.int (m:Int)]/\cH H f/\m<=900 /\
 ∀(p:Addr) (H':Hp) (ns:List Int),Ext f H H'->H p=none->H' p=some (.lst (ns.map V.int))->ns.length=m->(∀x∈ns,0<=x/\x<1000)->Q (.ref p) H'
section
variable {P:Program}{w:World}{K:PySem.W.Frag}{mg:Str->Option Value}{base:Heap}{gT gP gW gG gO:Addr}{tfd pfd wfd gfd ofd:FuncData}
theorem lO:Nm ["_law_program","_law_put_here"] (ak gw):=by decide +kernel
theorem sy:aN ["_law_program","_law_put_here"] ["_law_program","_law_put_here"] (ak gw):=⟨rfl,rfl,rfl,by decide +kernel,rfl,by decide +kernel,by decide +kernel⟩
theorem vU{f:Addr}{fd:FuncData}{j:Nat}(F:fJ K "_law_put_in" "_law_put_in" gw f fd)(PU:bS P w K mg base "_law_put" j ["_law_term_here","_law_put_here"] (uP K 10) gP pfd)(z_tuple:mg "tuple"=none):bT P w K mg base fk (j+1) f fd ["_law_program","_law_put_here"] (uQ K):=by
 refine F.ok sy (fun vs H Q E h=>?_) (fun cdv A outer s H vs Q E hr h=>?_)
 ·obtain⟨_,_,_,_,_,rfl,_⟩:=h
  rfl
 obtain⟨v,d,kt,ds,g,rfl,r0,hl,hds,hp,k⟩:=h
 refine⟨_,(Zd (Zq (Zk (Z1 (Za aD (va lO 0)) (Z1 (Z6 aL z_tuple PyProof.Rows.boot_tuple (Z1 (Z8 (ak gw) ["_law_program","_law_put_here"] ["_law_f","_law_params","_law_term_here"] [1] (@bX _ _ _ _ (Za aD (va lO 0))) (fun _ _ _ _=>(Ze (3) (Zj (Z3 (i:=0) (show(["_law_f","_law_params","_law_term_here","_law_put_here"]:List Str).Nodup by decide +kernel)) (Zj (Z3 (i:=1) (show(["_law_f","_law_params","_law_term_here","_law_put_here"]:List Str).Nodup by decide +kernel)) (aR (Z3 (i:=2) (show(["_law_f","_law_params","_law_term_here","_law_put_here"]:List Str).Nodup by decide +kernel)) bz))))) (fun _ _ _ _=>(Zk (Z1 (va (show Nm ["_law_f","_law_params","_law_term_here","_law_put_here"] _ by show _=_;kernel_rfl) 0) (Z1 (va (show Nm ["_law_f","_law_params","_law_term_here","_law_put_here"] _ by show _=_;kernel_rfl) 1) (Z1 (Z0 PU (Z1 (va (show Nm ["_law_f","_law_params","_law_term_here","_law_put_here"] _ by show _=_;kernel_rfl) 2) (Zb (va (show Nm ["_law_f","_law_params","_law_term_here","_law_put_here"] _ by show _=_;kernel_rfl) 3)))) ao)))))) ao)) ao))))),?_⟩
 try dsimp only[bU]
 try dsimp only[bU]
 obtain⟨pa,v1,v2,rfl,psq,g1,g2⟩:=r0.t2
 obtain⟨da,dvs,rfl,dsq,rds⟩:=g2.aC
 fail "R"
 refine dZ (e:=rP) (φ:=fun dd=>[rP (dd.1,dd.2.1,i4 g dd.2.2)]) (fun σ=>∃a b c,σ=[a,b,c,some (.ref d)]) dsq rds (by omega) (fun _=>Nat.le_refl _) ⟨_,_,_,rfl⟩ ?_ ?_
 ·rintro dd hd y _ H6 N s6 ⟨_,_,_,rfl⟩ ry kN
  obtain⟨ya,y1,y2,y3,rfl,ysq,q1,q2,q3⟩:=(show Rp K H6 (.t [.s dd.1,.t (dd.2.1.map ny),enc dd.2.2]) y from ry).t3
  obtain⟨tk,tz,td,_⟩:=hds dd hd
  have td10:dd.2.2.depth<10:=by omega
  have hp6:=hp.same s6
  fail "R"
  refine⟨g,?_⟩
  fail "R"
  intro v7 H7 s7 r7
  fail "R"
  intro p8 hp8
  have s8:=ae hp8 (.tup [y1,y2,v7])
  exact kN _ _ _ ⟨⟨_,_,_,rfl⟩,s7.trans s8,.one (Rp.new (K:=K) (xs:=[.s dd.1,.t (dd.2.1.map ny),enc (i4 g dd.2.2)]) hp8 (.cons (q1.same s7) (.cons (q2.same s7) (.one r7))))⟩
 intro l9 H9 ws9 s9 hl9 h9 r9
 rw[iy (fun dd:Str×List (Str×Kk)×Tm=>rP (dd.1,dd.2.1,i4 g dd.2.2))]at r9
 fail "R"
 refine .inl ⟨cy.of h9,fun p10 hp10=>?_⟩
 have s10:=ae hp10 (.tup ws9)
 have r10:=Rp.new (K:=K) hp10 r9
 generalize upd H9 p10 (.tup ws9)=H10 at s10 r10⊢
 fail "R"
 intro p11 hp11
 have s11:=ae hp11 (.tup [v1,.ref p10])
 refine k _ _ ((s9.trans s10).trans s11) (Rp.new (K:=K) hp11 (.cons (g1.same (s9.trans s10)) (.one ?_)))
 rw[List.map_map]
 exact r10
theorem jW:Nm ["_law_feed_here","_law_many","_law_first","_law_step"] (ak gc):=by decide +kernel
theorem nR:Lm ["_law_feed_here","_law_many","_law_first","_law_step"] (ak gc):=by decide +kernel
theorem jX:aN ["_law_feed_here","_law_many","_law_first","_law_step"] ["_law_feed_here","_law_many"] (ak gc):=⟨rfl,rfl,rfl,by decide +kernel,rfl,by decide +kernel,by decide +kernel⟩
theorem yi{f:Addr}{fd:FuncData}(F:fJ K "_law_fresh" "_law_fresh" gc f fd)(TK:bS P w K mg base "_law_take" 1 ["_law_feed_here","_law_many"] dD gT tfd)(z_range:mg "range"=none):bT P w K mg base fk 2 f fd ["_law_feed_here","_law_many"] uR:=by
 refine F.ok jX (fun vs H Q E h=>?_) (fun cdv A outer s H vs Q E hr h=>?_)
 ·obtain⟨_,_,rfl,_⟩:=h
  rfl
 obtain⟨fe,m,rfl,hf,hm,k⟩:=h
 refine⟨_,(Z5 (Z4 jX.nd nR 2 (Z0 TK (cV (va jW 0) (Zb aj)))) (Z5 (Z4 jX.nd nR 3 (Zm bg (@bf _ _ _ _ (Z1 aj (Z1 aj (Z1 aj (Z1 aj (Z1 aj (Z1 aj (cV aj (Zb aj))))))))) (Z0 TK (cV (va jW 0) (Zb aj))))) (Zd (Zq (Z8 (ak gc) ["_law_feed_here","_law_many","_law_first","_law_step"] ["_law_k"] [2,3] (Zo (Zb (va jW 1))) (fun _ _ _ _=>(Z3 (i:=0) (show(["_law_k","_law_first","_law_step"]:List Str).Nodup by decide +kernel))) (fun _ _ _ _=>(Zn eu (Zn cJ (va (show Nm ["_law_k","_law_first","_law_step"] _ by show _=_;kernel_rfl) 1) (aJ fL (va (show Nm ["_law_k","_law_first","_law_step"] _ by show _=_;kernel_rfl) 2) (va (show Nm ["_law_k","_law_first","_law_step"] _ by show _=_;kernel_rfl) 0))) aj))))))),?_⟩
 try dsimp only[bU]
 try dsimp only[bU]
 fail "R"
 intro r1 H1 r10 r11 e1
 fail "R"
 intro l1 hl1
 have s1:=ae hl1 (.lst [.int 1,.int 3,.int 7,.int 9,.int 11,.int 13,.int 17,.int 99])
 have g1:upd H1 l1 (.lst [.int 1,.int 3,.int 7,.int 9,.int 11,.int 13,.int 17,.int 99]) l1=some (.lst [.int 1,.int 3,.int 7,.int 9,.int 11,.int 13,.int 17,.int 99]):=af
 have e2:=e1.same s1
 generalize upd H1 l1 (.lst [.int 1,.int 3,.int 7,.int 9,.int 11,.int 13,.int 17,.int 99])=H2 at s1 g1 e2⊢
 have hf2:=e2.2
 fail "R"
 intro r3 H3 r30 r31 e3
 have x3:=e2.trans e3
 have nl1:l1≠fe:=aY e1.2 hl1
 have g3:=e3.1 l1 _ nl1 g1
 have hst:∃st:Int,jC [V.int 1,.int 3,.int 7,.int 9,.int 11,.int 13,.int 17,.int 99] r3=some (.int st)/\0<=st/\st<=100:=by
  obtain⟨v,hv,hm⟩:=iQ (xs:=[V.int 1,.int 3,.int 7,.int 9,.int 11,.int 13,.int 17,.int 99]) r30 r31
  simp only[List.mem_cons,List.not_mem_nil,or_false]at hm
  rcases hm with rfl|rfl|rfl|rfl|rfl|rfl|rfl|rfl<;>exact⟨_,hv,by decide,by decide⟩
 obtain⟨st,hat,st0,st1⟩:=hst
 fail "R"
 refine gn (n:=m) (fun i σ us Hd=>(∃x,σ=[x,some (.int r1),some (.int st)])/\Hd=H3/\us=((List.range i).map fun(j:Nat)=>(r1+st*(j:Int)) % 100).map V.int) ⟨⟨_,rfl⟩,rfl,rfl⟩ ?_ (Nat.le_of_lt (aZ (by omega))) ?_ ?_
 ·rintro i σ us Hd hi ⟨_,_,rfl⟩
  rw[List.length_map,List.length_map,List.length_range];exact Nat.le_refl _
 ·rintro i σ us Hd hi ⟨⟨x0,rfl⟩,rfl,rfl⟩
  fail "R"
  rw[List.range_succ,List.map_append,List.map_append,Int.zero_add]
  rfl
 ·rintro σ us Hd ⟨_,rfl,rfl⟩ p hp
  have sp:=ae hp (.lst (((List.range m).map fun(j:Nat)=>(r1+st*(j:Int)) % 100).map V.int))
  fail "R"
  refine k p _ _ (x3.same sp) (Ext.free x3 hp) af (by simp) fun x hx=>?_
  obtain⟨j,_,rfl⟩:=List.mem_map.mp hx
  omega
end
end G03
namespace L2
open PySem PySem.Spec PyProof.Rows
section
variable {X:Cx}{pins:List (Addr×Obj)}{σ:St}{H:Hp}{s:Shared}{h':Heap}
theorem Inv.zJ{t':Nat}{fp:List Addr}(I:Inv X pins σ H s)(hf:∀b∈fp,lQ X pins H b)(k:∀b o,b∉fp->s.heap.get? b=some o->h'.get? b=some o):Inv X pins σ H {s with heap:=h',toks:=t'}:=by
 have nit:∀b u,H b=some u->b∉fp:=fun b u e z=>by rw[(hf b z).1]at e;cases e
 have hL:X.env.locals∉fp:=fun z=>(hf _ z).2.1 rfl
 refine I.step (g':=s.gens) (d':=s.drawn) (ch:=fp) (fun b hb=>?_) (fun b o _ _ hc e _=>k b o hc e) (fun b o _ _ hc e _=>⟨o.slots,k b o hc e⟩) (fun _ _ _ _ n=>n)
  (fun b o hc e=>⟨o,k b o hc e⟩) (fun _ _ e=>e) (fun _ _ _ e=>e) (fun b ps e=>⟨#[],by rw[e];simp⟩) (fun m hm=>?_) (fun b u e=>?_) I.bare
 ·obtain⟨_,f1,_,f3,f4,f5⟩:=hf b hb
  exact⟨f3,f1,f4,f5⟩
 ·obtain⟨o,es,ep,ho,r⟩:=hm
  exact⟨o,es,ep,k _ o hL ho,r⟩
 ·refine(I.hok b u e).stay (fun c v hc q=>k c v ?_ q) (fun _ q=>q) fun _ _ q=>q
  rcases hc with z|z
  ·rw[z];exact nit b u e
  ·exact nit c _ z
theorem Inv.zK{t':Nat}{fp:List Addr}{a:Addr}{o:HO}(I:Inv X pins σ H s)(hf:∀b∈fp,lQ X pins H b)(k:∀b o,b∉fp->s.heap.get? b=some o->h'.get? b=some o)(ha:s.heap.objs.size<=a)(new:cW X.prog X.w (upd H a o) h' a o) :
  Inv X pins σ (upd H a o) {s with heap:=h',toks:=t'}:=by
 have nit:∀b u,H b=some u->b∉fp:=fun b u e z=>by rw[(hf b z).1]at e;cases e
 have hL:X.env.locals∉fp:=fun z=>(hf _ z).2.1 rfl
 have hn:H a=none:=I.hok.fresh ha
 have up:∀b u,H b=some u->upd H a o b=some u:=fun b u e=>by rw[ay (au e hn)];exact e
 refine I.step (g':=s.gens) (d':=s.drawn) (ch:=fp) (fun b hb=>?_) (fun b o _ _ hc e _=>k b o hc e) (fun b o _ _ hc e _=>⟨o.slots,k b o hc e⟩) (fun b ob _ e n=>?_)
  (fun b o hc e=>⟨o,k b o hc e⟩) (fun b _ e=>up b _ e) (fun b _ _ e=>up b _ e) (fun b ps e=>⟨#[],by rw[up b _ e];simp⟩) (fun m hm=>?_) (fun b u e=>?_) I.bare
 ·obtain⟨_,f1,_,f3,f4,f5⟩:=hf b hb
  exact⟨f3,f1,f4,f5⟩
 ·rw[ay (Nat.ne_of_lt (Nat.lt_of_lt_of_le (Heap.lt_size e) ha))];exact n
 ·obtain⟨o,es,ep,ho,r⟩:=hm
  exact⟨o,es,ep,k _ o hL ho,r⟩
 ·by_cases hb:b=a
  ·subst hb;rw[af]at e;cases e;exact new
  ·rw[ay hb]at e
   refine(I.hok b u e).stay (fun c v hc q=>k c v ?_ q) (fun c q=>up c _ q) fun c _ q=>up c _ q
   rcases hc with z|z
   ·rw[z];exact nit b u e
   ·exact nit c _ z
end
noncomputable def Df (K : PySem.W.Frag) (b1 : Bool) (l1 : Addr) (b2 : Bool) (l2 : Addr) : It :=
  ⟨fun i H => ∃ xs ys x y, nZ K b1 H l1 xs ∧ nZ K b2 H l2 ys ∧ xs[i]? = some x ∧ ys[i]? = some y,
   fun i H v H' => ∃ p x y, H p = none ∧ v = .ref p ∧ H' = upd H p (.tup [x, y]) ∧ (∀ xs, nZ K b1 H l1 xs → xs[i]? = some x) ∧ ∀ ys, nZ K b2 H l2 ys → ys[i]? = some y,
   fun i H => ∃ xs ys, nZ K b1 H l1 xs ∧ nZ K b2 H l2 ys ∧ (xs.length ≤ i ∨ ys.length ≤ i)⟩
theorem nZ.inj{X:Cx}{pins:List (Addr×Obj)}{σ:St}{H:Hp}{s:Shared}{b:Bool}{a:Addr}{xs ys:List V}(I:Inv X pins σ H s)(h:nZ X.K b H a xs)(h2:nZ X.K b H a ys):xs=ys:=by
 cases b with
 |false=>exact I.qS h h2
 |true=>exact I.kK h h2
theorem yj{P:Program}{w:World}{K:PySem.W.Frag}{elts:List Expr}{x1:Nat}{pos:Pos}{b1 b2:Bool}(z TI TO i1 i2 l1 l2:Addr)(D:ZipApart z TI TO i1 i2 l1 l2):Turn P w K (.Tuple elts x1 pos) (Df K b1 l1 b2 l2) [z,TI,TO,i1,i2] z
  (fun i h=>IsZip h z TI TO .none/\IsPair h TI (.ref i1) (.ref i2)/\(∃a b,IsPair h TO a b)/\jb b1 h i1 l1 i/\jb b2 h i2 l2 i) where
 mem:=by simp
 obj:=fun i h st b hb=>by
  obtain⟨hz,hTI,⟨a,c,hTO⟩,h1,h2⟩:=st
  have itc:∀{b:Bool}{i l:Addr}{k:Nat},jb b h i l k->∃o,h.get? i=some o/\∀v,o.data≠.cell v:=fun{b i l k} q=>by
   cases b with
   |false=>obtain⟨o,e,_,d⟩:=(show h.IsListIter i l k from q);exact⟨o,e,fun v z=>by rw[d]at z;cases z⟩
   |true=>obtain⟨o,e,_,d⟩:=(show h.IsTupleIter i l k from q);exact⟨o,e,fun v z=>by rw[d]at z;cases z⟩
  simp only[List.mem_cons,List.not_mem_nil,or_false]at hb
  rcases hb with rfl|rfl|rfl|rfl|rfl
  ·exact⟨_,hz,fun v z=>by cases z⟩
  ·exact⟨_,hTI,fun v z=>by cases z⟩
  ·exact⟨_,hTO,fun v z=>by cases z⟩
  ·exact itc h1
  ·exact itc h2
 keep:=fun i h h' st k=>by
  obtain⟨hz,hTI,⟨a,c,hTO⟩,h1,h2⟩:=st
  exact⟨k z (by simp) _ hz,k TI (by simp) _ hTI,⟨a,c,k TO (by simp) _ hTO⟩,h1.at fun o e=>k i1 (by simp) o e,h2.at fun o e=>k i2 (by simp) o e⟩
 item:=by
  intro X hP hw hK hc i pins s σ H E I hf st hg
  subst hP hw hK
  obtain⟨xs,ys,x,y,hq1,hq2,hx,hy⟩:=hg
  obtain⟨hz,hTI,⟨a,c,hTO⟩,h1,h2⟩:=st
  obtain⟨its,rv,p1,_⟩:=jz I hq1
  obtain⟨jts,rw',p2,_⟩:=jz I hq2
  obtain⟨u,hu,ru⟩:=rv.get hx
  obtain⟨v,hv,rv2⟩:=rw'.get hy
  refine uO D hz hTI hTO h1 h2 p1 p2 (x:=u) (y:=v) (by simpa using hu) (by simpa using hv) fun h' a1 a2 a3 a4 a5 a6 hk=>?_
  refine⟨.ref s.heap.objs.size,rfl,wpAny_letOwnedTupleGo_zip (s:={s with heap:=h'}) a1 fun h2' hz' hs'=>?_⟩
  have np:∀b∈[z,TI,TO,i1,i2],b≠s.heap.objs.size:=fun b hb e=>by
   obtain⟨o,e2⟩:∃o,s.heap.get? b=some o:=by
    simp only[List.mem_cons,List.not_mem_nil,or_false]at hb
    rcases hb with rfl|rfl|rfl|rfl|rfl
    ·exact⟨_,hz⟩
    ·exact⟨_,hTI⟩
    ·exact⟨_,hTO⟩
    ·exact h1.got
    ·exact h2.got
   have:=Heap.lt_size e2
   rw[e]at this
   exact Nat.lt_irrefl _ this
  have kk:∀b o,b∉[z,TI,TO,i1,i2]->s.heap.get? b=some o->h2'.get? b=some o:=fun b o hb e=>by
   simp only[List.mem_cons,List.not_mem_nil,or_false,not_or]at hb
   obtain⟨n1,n2,n3,n4,n5⟩:=hb
   exact hs'.extBut _ _ n1 (hk b o n1 n3 n4 n5 e)
  have a5':IsPair h2' s.heap.objs.size u v:=hs'.extBut _ _ (np z (by simp)).symm a5
  refine⟨.ref s.heap.objs.size,upd H s.heap.objs.size (.tup [x,y]),I.zK (t':=s.toks) hf kk (Nat.le_refl _) ⟨(by show 2<=sizeLine;decide),_,.cons ru (.cons rv2 .nil),⟨_,a5',rfl,_,rfl⟩,_,a5',rfl⟩,rfl,
   ⟨_,x,y,I.hok.fresh (Nat.le_refl _),rfl,rfl,fun zs hz2=>by rw[nZ.inj I hz2 hq1];exact hx,fun zs hz2=>by rw[nZ.inj I hz2 hq2];exact hy⟩,?_,fun b hb=>?_⟩
  ·exact⟨hz',hs'.extBut _ _ D.TIz (hk TI _ D.TIz D.TITO D.TIi1 D.TIi2 hTI),⟨u,v,hs'.extBut _ _ D.TOz a2⟩,a3.extBut hs'.extBut D.i1z,a4.extBut hs'.extBut D.i2z⟩
  ·rw[ay (np b hb)];exact(hf b hb).1
 done:=by
  intro X hP hw hK hc i pins s σ H E I hf st hg
  subst hP hw hK
  obtain⟨xs,ys,hq1,hq2,hl⟩:=hg
  obtain⟨hz,hTI,⟨a,c,hTO⟩,h1,h2⟩:=st
  obtain⟨its,rv,p1,_⟩:=jz I hq1
  obtain⟨jts,rw',p2,_⟩:=jz I hq2
  have e1:=rv.length
  have e2:=rw'.length
  refine yf (I.ok.hd hc) D hz hTI hTO h1 h2 p1 p2 ?_ fun h' hk=>⟨rfl,I.zJ (t':=s.toks) hf fun b o hb e=>?_⟩
  ·rcases hl with hl|hl
   ·left;simp;omega
   ·right;simp;omega
  ·simp only[List.mem_cons,List.not_mem_nil,or_false,not_or]at hb
   exact hk b o hb.1 hb.2.2.1 hb.2.2.2.1 hb.2.2.2.2 e
 self:=fun _ _ _ _ _ st h=>wpAny_pyIter_zip st.1 h
noncomputable def Dg(K:PySem.W.Frag)(t:TA):TI:=fun σ H R=>t σ H fun vs H2=>∃b1 b2 p q xs ys,vs=[.ref p,.ref q]/\nZ K b1 H2 p xs/\nZ K b2 H2 q ys/\R (Df K b1 p b2 q) H2
theorem Be{X:Cx}{a b:Expr}{t:TA}{p1 p2 pos:Pos}{elts:List Expr}{x1:Nat}(K:PySem.W.Frag)(hK:X.K=K)(hg:Gl X "zip")(hm:X.mg "zip"=none)(ha:PA X [a,b] t)
  (he:starEach [a,b] X.env=(false,eval a X.env)::starEach [b] X.env:=by rfl) (hpl:(backTo p2 (starEach [b] X.env)).any (·.1)=false:=by rfl):PI X (.Tuple elts x1 pos) (.Call (.Name "zip" p1) [a,b] [] p2) (Dg K t):=by
 subst hK
 intro pins s σ H R I h
 refine wpAny_Call_Name_kw (jM I hg hm boot_zip ?_ (by decide) (by decide))
 refine PyProof.Rows.callWith_type1 ?_ he hpl
 refine cK (ha p2 pins s σ H _ I h) fun us s1 ⟨vs,H1,I1,r1,q1⟩=>?_
 obtain⟨c1,c2,p,q,xs,ys,rfl,hx,hy,hq⟩:=q1
 obtain⟨u,w',rfl,r1,r2⟩:=vals2 r1
 cases r1
 cases r2
 obtain⟨its,rv,pl,_⟩:=jz I1 hx
 obtain⟨jts,rw',pm,_⟩:=jz I1 hy
 have lt1:@LT.lt Nat _ p s1.heap.objs.size:=by obtain⟨_,e⟩:=pl.got;exact Heap.lt_size e
 have lt2:@LT.lt Nat _ q s1.heap.objs.size:=by obtain⟨_,e⟩:=pm.got;exact Heap.lt_size e
 refine uN pl pm fun g hz hTI hTO h1 h2 hsz hk=>?_
 have D:ZipApart (s1.heap.objs.size+4) (s1.heap.objs.size+2) (s1.heap.objs.size+3) s1.heap.objs.size (s1.heap.objs.size+1) p q:=by
  refine⟨?_,?_,?_,?_,?_,?_,?_,?_,?_,?_,?_,?_,?_,?_,?_,?_,?_,?_⟩<;>(show @Ne Nat _ _;omega)
 refine wpAny_pyIter_zip (s:={s1 with heap:=g}) hz ?_
 refine⟨s1.heap.objs.size+4,[s1.heap.objs.size+4,s1.heap.objs.size+2,s1.heap.objs.size+3,s1.heap.objs.size,s1.heap.objs.size+1],_,_,H1,rfl,I1.kept (t':=s1.toks) hk,yj _ _ _ _ _ p q D,⟨hz,hTI,⟨_,_,hTO⟩,h1,h2⟩,fun b hb=>?_,hq⟩
 have hb':s1.heap.objs.size<=b:=by
  simp only[List.mem_cons,List.not_mem_nil,or_false]at hb
  rcases hb with rfl|rfl|rfl|rfl|rfl
  ·exact Nat.le_add_right _ 4
  ·exact Nat.le_add_right _ 2
  ·exact Nat.le_add_right _ 3
  ·exact Nat.le_refl _
  ·exact Nat.le_add_right _ 1
 exact I1.yx hb' (I1.hok.fresh hb')
section
variable {g:TG}{tt:TT}{te:TE}{Q:VK}{σ0:St}{H0:Hp}
theorem yk{K:PySem.W.Frag}{b1 b2:Bool}{a b:Addr}{xs ys:List V}(Pv:Nat->St->List V->Hp->Prop)(h0:Pv 0 σ0 [] H0)(hlen:∀i σ vs H,i<=min xs.length ys.length->Pv i σ vs H->vs.length<=i)(hn:min xs.length ys.length<=sizeLine)
  (hl1:∀i σ vs H,i<=min xs.length ys.length->Pv i σ vs H->nZ K b1 H a xs) (hl2:∀i σ vs H,i<=min xs.length ys.length->Pv i σ vs H->nZ K b2 H b ys)
  (hs:∀i x y σ vs H p,xs[i]?=some x->ys[i]?=some y->Pv i σ vs H->H p=none->g (.ref p) σ (upd H p (.tup [x,y])) fun σ2 H2=>tt σ2 H2 fun ok H3=>if ok=true then te σ2 H3 fun v H4=>Pv (i+1) σ2 (vs++[v]) H4 else Pv (i+1) σ2 vs H3)
  (hd:∀σ vs H,Pv (min xs.length ys.length) σ vs H->∀p,H p=none->Q (.ref p) (upd H p (.lst vs))):gY (Df K b1 a b2 b) g tt te Q σ0 H0:=by
 refine lZ (min xs.length ys.length) Pv h0 hlen hn (fun i σ vs H hi p=>?_) (fun σ vs H p=>⟨xs,ys,hl1 _ σ vs H (Nat.le_refl _) p,hl2 _ σ vs H (Nat.le_refl _) p,by omega⟩) (fun i σ vs H x H' hi p y=>?_) hd
 ·have k1:i<xs.length:=by omega
  have k2:i<ys.length:=by omega
  exact⟨xs,ys,xs[i],ys[i],hl1 i σ vs H (Nat.le_of_lt hi) p,hl2 i σ vs H (Nat.le_of_lt hi) p,by simp[k1],by simp[k2]⟩
 ·obtain⟨pp,x',y',hp,rfl,rfl,e1,e2⟩:=y
  exact hs i x' y' σ vs H pp (e1 xs (hl1 i σ vs H (Nat.le_of_lt hi) p)) (e2 ys (hl2 i σ vs H (Nat.le_of_lt hi) p)) p hp
end
end L2
namespace G03
open PySem L2
theorem zL(g:Int->Int)(h:Hd)(n:Nat):cD (xW g h) n=cD h n:=by cases h<;>rfl
theorem yl{g:Int->Int}(hg:∀m:Int,0<=m/\m<1000->0<=g m/\g m<1000)(h:Hd)(k:A4 h):A4 (xW g h):=by
 cases h<;>first|exact hg _ k|exact k
theorem zM(g:Int->Int)(hg:∀m:Int,0<=m/\m<1000->0<=g m/\g m<1000)(tm:Tm):Tok tm->Tok (i4 g tm):=by
 induction tm using Tm.induct with
 |hm h ks ih =>
  intro t
  cases t with
  |mk a b c gk =>
  rw[nG]
  refine .mk (by rw[zL,List.length_map];exact a) (by rw[List.length_map];exact b) (fun k hk=>?_) (yl hg h gk)
  obtain⟨k0,h0,rfl⟩:=List.mem_map.mp hk
  exact ih k0 h0 (c k0 h0)
theorem ym(g:Int->Int)(tm:Tm):(i4 g tm).size=tm.size:=by
 induction tm using Tm.induct with
 |hm h ks ih =>
  rw[nG,Tm.eB,Tm.eB]
  congr 1
  induction ks with
  |nil=>rfl
  |cons k r ih2=>rw[List.map_cons,Tm.bM,Tm.bM,ih k (.head _),ih2 fun k hk=>ih k (.tail _ hk)]
theorem vV(g:Int->Int)(tm:Tm):∀n,tm.depth<=n->(i4 g tm).depth<=n:=by
 induction tm using Tm.induct with
 |hm h ks ih =>
  intro n hn
  rw[nG]
  cases ks with
  |nil=>exact Nat.zero_le _
  |cons k r =>
   cases n with
   |zero=>rw[Tm.mZ]at hn;omega
   |succ n =>
    refine Tm.j7 fun x hx=>?_
    obtain⟨y,hy,rfl⟩:=List.mem_map.mp hx
    have:=Tm.iC (h:=h) hy
    exact ih y hy n (by omega)
theorem tV.i4{g:Int->Int}(hg:∀m:Int,0<=m/\m<1000->0<=g m/\g m<1000){dd:Str×List (Str×Kk)×Tm}(h:tV dd):tV (dd.1,dd.2.1,G03.i4 g dd.2.2):=⟨zM g hg _ h.1,by rw[ym];exact h.2.1,vV g _ _ h.2.2.1,h.2.2.2⟩
theorem dm.kt{K:PySem.W.Frag}{H H':Hp}(s:Kt H H'):∀{kvs:List (Key×V)}{us:List V},dm K H kvs us->dm K H' kvs us
 |_,_,.nil=>.nil
 |_,_,.cons ⟨a,e,q⟩ t=>.cons ⟨a,e,q.kt s⟩ (dm.kt s t)
theorem dm.len{K:PySem.W.Frag}{H:Hp}:∀{kvs:List (Key×V)}{us:List V},dm K H kvs us->us.length=kvs.length
 |_,_,.nil=>rfl
 |_,_,.cons _ t=>congrArg Nat.succ (dm.len t)
theorem dm.snoc{K:PySem.W.Frag}{H:Hp}{kv:Key×V}{y:V}(q:∃a,y=.ref a/\bx K H a [kV kv.1,kv.2]):∀{kvs:List (Key×V)}{us:List V},dm K H kvs us->dm K H (kvs++[kv]) (us++[y])
 |_,_,.nil=>.cons q .nil
 |_,_,.cons h t=>.cons h (dm.snoc q t)
theorem zN{Pv:V->Prop}{kvs:List (Key×V)}{k:Key}{v:V}(h:∀kv∈kvs,Pv kv.2)(hv:Pv v):∀kv∈putK kvs k v,Pv kv.2:=by
 unfold putK
 split
 ·intro kv hm
  obtain⟨q,hq,rfl⟩:=List.mem_map.mp hm
  split
  ·exact hv
  ·exact h q hq
 ·intro kv hm
  rcases List.mem_append.mp hm with z|z
  ·exact h kv z
  ·rw[List.mem_singleton.mp z];exact hv
theorem pT{Pv:V->Prop}:∀{more kvs:List (Key×V)},(∀kv∈kvs,Pv kv.2)->(∀kv∈more,Pv kv.2)->∀kv∈eR kvs more,Pv kv.2
 | [],_,h,_=>h
 |q::r,kvs,h,h2=>pT (more:=r) (zN h (h2 q (.head _))) fun kv hm=>h2 kv (.tail _ hm)
theorem Bf{K:PySem.W.Frag}{H:Hp}{d:Addr}{kvs:List (Key×V)}(hd:H d=some (.dK kvs))(h:∀kv∈kvs,∃q,Rp K H (Bs q) kv.2/\0<=q/\q<1000):∃g,lN K H d g:=by
 have pt:∀m:Int,∃z:Int,(eK kvs (.inl m:Key)=none/\z=m)\/∃u,eK kvs (.inl m:Key)=some u/\Rp K H (Bs z) u/\0<=z/\z<1000:=by
  intro m
  cases e:eK kvs (.inl m:Key)with
  |none=>exact⟨m,.inl ⟨rfl,rfl⟩⟩
  |some u =>
   unfold eK at e
   obtain⟨kv,he,rfl⟩:=Option.map_eq_some_iff.mp e
   obtain⟨q,hq⟩:=h kv (List.mem_of_find?_eq_some he)
   exact⟨q,.inr ⟨_,rfl,hq⟩⟩
 exact⟨fun m=>(pt m).choose,kvs,hd,fun m=>(pt m).choose_spec⟩
structure DI(K:PySem.W.Frag) (H2:Hp) (i:Nat) (us:List V) (H5:Hp):Prop where
 x:∃kvs:List (Key×V),aI H2 H5/\dm K H5 kvs us/\kvs.length=i/\∀kv∈kvs,∃q,Rp K H5 (Bs q) kv.2/\0<=q/\q<1000
structure OC(K:PySem.W.Frag) (lo:Addr) (H:Hp) (ps:List (Str×Kk)) (os:List Int) (i:Nat) (us:List V) (H':Hp):Prop where
 x:∃qs:List (Str×Kk),lU lo H H'/\aO K H' (qs.map ny) us/\qs.length=i/\H' lo=some (.lst ((os++eo qs).map V.int))/\(eo qs).length=(eo (ps.take i)).length/\(∀x∈eo qs,0<=x/\x<1000)/\∀p∈qs,p.2.dep<=1
structure DL(K:PySem.W.Frag) (lo ld ln:Addr) (nm:List Int) (H:Hp) (ds:List (Str×List (Str×Kk)×Tm)) (i:Nat) (H':Hp):Prop where
 x:∃(es:List (Str×List (Str×Kk)×Tm)) (vs:List V),(∀b o,b≠lo->b≠ld->H b=some o->H' b=some o)/\Kt H H'/\H' ld=some (.lst vs)/\aO K H' (es.map rP) vs/\es.length=i/\H' lo=some (.lst ((bh es).map V.int))/\(bh es).length=(bh (ds.take i)).length/\(∀x∈bh es,0<=x/\x<1000)/\∀e∈es,tV e
noncomputable def nS(K:PySem.W.Frag):Sp:=fun vs H Q _=>∃(f:Addr) (v:V) (kt:T) (ds:List (Str×List (Str×Kk)×Tm)),vs=[.ref f,v]/\cH H f/\Rp K H (i0 kt ds) v/\ds.length<=3/\(∀dd∈ds,tV dd)/\(bh ds).length<=3 /\
 ∀(p lo:Addr) (vp:V) (H':Hp) (es:List (Str×List (Str×Kk)×Tm)),Ext f H H'->H lo=none->H' p=some (.tup [vp,.ref lo])->Rp K H' (i0 kt es) vp->H' lo=some (.lst ((bh es).map V.int))->es.length<=3->(∀e∈es,tV e)->(∀x∈bh es,0<=x/\x<1000)->Q (.ref p) H'
theorem Bg{g:Int->Int}(ds:List (Str×List (Str×Kk)×Tm)):bh (ds.map fun dd=>(dd.1,dd.2.1,i4 g dd.2.2))=bh ds:=by
 unfold bh
 rw[List.flatMap_map]
theorem zO{ds:List (Str×List (Str×Kk)×Tm)}(i:Nat):(bh (ds.take i)).length<=(bh ds).length:=by
 conv=>rhs;rw[←List.take_append_drop i ds,nO]
 rw[List.length_append];omega
section
variable {P:Program}{w:World}{K:PySem.W.Frag}{mg:Str->Option Value}{base:Heap}{gF gP gG gO:Addr}{ffd pfd gfd ofd:FuncData}
theorem aW:Nm ["_law_feed_here","_law_program","_law_some","_law_fresh_here","_law_opens","_law_numbers","_law_defs","_law_f","_law_params","_law_term_here"] (ak dc):=by decide +kernel
theorem cg:Lm ["_law_feed_here","_law_program","_law_some","_law_fresh_here","_law_opens","_law_numbers","_law_defs","_law_f","_law_params","_law_term_here"] (ak dc):=by decide +kernel
theorem bL:aN ["_law_feed_here","_law_program","_law_some","_law_fresh_here","_law_opens","_law_numbers","_law_defs","_law_f","_law_params","_law_term_here"] ["_law_feed_here","_law_program"] (ak dc):=⟨rfl,rfl,rfl,by decide +kernel,rfl,by decide +kernel,by decide +kernel⟩
theorem sA{f:Addr}{fd:FuncData}{j jp jo:Nat}(hj:2<=j)(h1:jp<=j)(h2:jo<=j)(F:fJ K "_law_numbered" "_law_numbered" dc f fd)(GO:bS P w K mg base "_law_gaps_of" j ["_law_program"] (pS K) gG gfd)(FR:bS P w K mg base "_law_fresh" 2 ["_law_feed_here","_law_many"] uR gF ffd)(PI:bS P w K mg base "_law_put_in" jp ["_law_program","_law_put_here"] (uQ K) gP pfd)(OO:bS P w K mg base "_law_other_opens" jo ["_law_kind","_law_opens","_law_fresh_here"] (zH K 3) gO ofd)(z_len:mg "len"=none)(z_dict:mg "dict"=none)(z_zip:mg "zip"=none)(z_tuple:mg "tuple"=none):bT P w K mg base fk (j+1) f fd ["_law_feed_here","_law_program"] (nS K):=by
 refine F.ok bL (fun vs H Q E h=>?_) (fun cdv A outer s H vs Q E hr h=>?_)
 ·obtain⟨_,_,_,_,rfl,_⟩:=h
  rfl
 obtain⟨fe,v,kt,ds,rfl,hf,r0,hl,hds,hkg,k⟩:=h
 refine⟨_,(Z5 (Z4 bL.nd cg 2 (Z0 GO (Zb (va aW 1)))) (Z5 (Z4 bL.nd cg 3 (Z0 FR (Z1 (va aW 0) (Z1 (Z2 aB z_len PySem.boot_len (Zb (va aW 2))) ao)))) (Z5 (Z4 bL.nd cg 1 (Z0 PI (Z1 (va aW 1) (Z1 (Z6 (tI rfl) z_dict PyProof.Rows.boot_dict (Z1 (Z8 (ak dc) ["_law_feed_here","_law_program","_law_some","_law_fresh_here","_law_opens","_law_numbers","_law_defs","_law_f","_law_params","_law_term_here"] ["_law_n","_law_m"] [] (Be K rfl (by show _=_;kernel_rfl) z_zip (Z1 (va aW 2) (Zb (va aW 3)))) (fun _ _ _ _=>(Ze (2) (Zj (Z3 (i:=0) (show(["_law_n","_law_m"]:List Str).Nodup by decide +kernel)) (aR (Z3 (i:=1) (show(["_law_n","_law_m"]:List Str).Nodup by decide +kernel)) bz)))) (fun _ _ _ _=>(Zk (Z1 (va (show Nm ["_law_n","_law_m"] _ by show _=_;kernel_rfl) 0) (Z1 (Zk (Z1 az (Zb (va (show Nm ["_law_n","_law_m"] _ by show _=_;kernel_rfl) 1)))) ao))))) ao)) ao)))) (Z5 (sa bL.nd cg 4 (bf ao)) (Z5 (Z4 bL.nd cg 5 (Z0 FR (cV (va aW 0) (Zb aj)))) (Z5 (sa bL.nd cg 6 (bf ao)) (Z5 (Zi (@bX _ _ _ _ (Za aD (va aW 1))) (Ze (3) (Zj (ga bL.nd cg 7) (Zj (ga bL.nd cg 8) (aR (ga bL.nd cg 9) bz)))) (Zd (Zp (Z7 PySem.F.slot_list_append PySem.F.type_list_append bG (va aW 6) (Z1 (Zk (Z1 (va aW 7) (Z1 (Z6 aL z_tuple PyProof.Rows.boot_tuple (Z1 (Z8 (ak dc) ["_law_feed_here","_law_program","_law_some","_law_fresh_here","_law_opens","_law_numbers","_law_defs","_law_f","_law_params","_law_term_here"] ["_law_x","_law_kind"] [4,5] (bX (va aW 8)) (fun _ _ _ _=>(Ze (2) (Zj (Z3 (i:=0) (show(["_law_x","_law_kind","_law_opens","_law_numbers"]:List Str).Nodup by decide +kernel)) (aR (Z3 (i:=1) (show(["_law_x","_law_kind","_law_opens","_law_numbers"]:List Str).Nodup by decide +kernel)) bz)))) (fun _ _ _ _=>(Zk (Z1 (va (show Nm ["_law_x","_law_kind","_law_opens","_law_numbers"] _ by show _=_;kernel_rfl) 0) (Z1 (Z0 OO (Z1 (va (show Nm ["_law_x","_law_kind","_law_opens","_law_numbers"] _ by show _=_;kernel_rfl) 1) (Z1 (va (show Nm ["_law_x","_law_kind","_law_opens","_law_numbers"] _ by show _=_;kernel_rfl) 2) (Zb (va (show Nm ["_law_x","_law_kind","_law_opens","_law_numbers"] _ by show _=_;kernel_rfl) 3))))) ao))))) ao)) (Zb (va aW 9))))) ao))))) (Zd (Zq (Zk (Z1 (Zk (Z1 (Za aD (va aW 1)) (Z1 (Z6 aL z_tuple PyProof.Rows.boot_tuple (Zb (va aW 6))) ao))) (Zb (va aW 4))))))))))))),?_⟩
 try dsimp only[bU]
 try dsimp only[bU]
 fail "R"
 intro ls H1 ns1 s1 hls h1 l1
 have x1:Ext fe H H1:=(Ext.refl hf).same s1
 have hf1:=x1.2
 have lm1:(ns1.map V.int).length<=900:=by rw[List.length_map];omega
 fail "R"
 intro lf2 H2 ns2 x2 hlf2 h2 l2 hbd2
 have nls:ls≠fe:=aY hf hls
 have h2s:=x2.1 _ _ nls h1
 have hb1:nZ K false H2 ls (ns1.map V.int):=cy.of h2s
 have hb2:nZ K false H2 lf2 (ns2.map V.int):=cy.of h2
 have r2:=(r0.same s1).kt (x2.kt hf1)
 fail "R"
 refine yk (K:=K) (xs:=ns1.map V.int) (ys:=ns2.map V.int) (fun i σ us H5=>(∃x y,σ=[x,y])/\DI K H2 i us H5) ⟨⟨_,_,rfl⟩,⟨[],aI.refl _,.nil,rfl,fun kv h=>nomatch h⟩⟩ ?_ (small (by rw[List.length_map,List.length_map];omega)) ?_ ?_ ?_ ?_
 ·rintro i σ us H5 hi ⟨_,⟨kvs,s5,dp,ek,_⟩⟩
  rw[dm.len dp,ek];exact Nat.le_refl _
 ·rintro i σ us H5 hi ⟨_,⟨kvs,s5,_⟩⟩
  exact cy.of (s5 _ _ h2s)
 ·rintro i σ us H5 hi ⟨_,⟨kvs,s5,_⟩⟩
  exact cy.of (s5 _ _ h2)
 ·rintro i x y σ us H5 p6 hx hy ⟨⟨_,_,rfl⟩,⟨kvs,s5,dp,ek,hv⟩⟩ hp6
  rw[List.getElem?_map]at hx hy
  obtain⟨a6,ha6,rfl⟩:=Option.map_eq_some_iff.mp hx
  obtain⟨b6,hb6,rfl⟩:=Option.map_eq_some_iff.mp hy
  have s6:=ae hp6 (.tup [.int a6,.int b6])
  have h6:upd H5 p6 (.tup [.int a6,.int b6]) p6=some (.tup [.int a6,.int b6]):=af
  generalize upd H5 p6 (.tup [.int a6,.int b6])=H6 at s6 h6⊢
  fail "R"
  intro p7 hp7
  have s7:=ae hp7 (.tup [.str "gap",.int b6])
  have r7:=Rp.new (K:=K) (xs:=[.s "gap",.i b6]) hp7 (.cons .s (.one .i))
  generalize upd H6 p7 (.tup [.str "gap",.int b6])=H7 at s7 r7⊢
  fail "R"
  intro p8 hp8
  have s8:=ae hp8 (.tup [.int a6,.ref p7])
  have h8:upd H7 p8 (.tup [.int a6,.ref p7]) p8=some (.tup [.int a6,.ref p7]):=af
  generalize upd H7 p8 (.tup [.int a6,.ref p7])=H8 at s8 h8⊢
  have s58:=(s6.trans s7).trans s8
  fail "R"
  refine⟨kvs++[(.inl a6,.ref p7)],s5.trans s58,dm.snoc ⟨p8,rfl,bx.of h8⟩ (dm.kt (Kt.same s58) dp),by rw[List.length_append,ek];rfl,fun kv hm=>?_⟩
  rcases List.mem_append.mp hm with h|h
  ·obtain⟨q,hq,hb⟩:=hv kv h
   exact⟨q,hq.same s58,hb⟩
  ·rw[List.mem_singleton.mp h]
   exact⟨b6,r7.same s8,hbd2 b6 (List.mem_of_getElem? hb6)⟩
 rintro σ us H5 ⟨_,⟨kvs,s5,dp,ek,hv⟩⟩ p6 hp6
 have s6:=ae hp6 (.lst us)
 have h6:upd H5 p6 (.lst us) p6=some (.lst us):=af
 generalize upd H5 p6 (.lst us)=H6 at s6 h6⊢
 have dp6:=dm.kt (Kt.same s6) dp
 have h6':H6 p6=some (.lst us)\/bx K H6 p6 us:=.inl h6
 fail "R"
 intro p7 hp7
 have s7:=ae hp7 (.dK (eR [] kvs))
 have h7:upd H6 p7 (.dK (eR [] kvs)) p7=some (.dK (eR [] kvs)):=af
 generalize upd H6 p7 (.dK (eR [] kvs))=H7 at s7 h7⊢
 obtain⟨g,hpa⟩:=Bf (K:=K) h7 (pT (Pv:=fun v=>∃q,Rp K H7 (Bs q) v/\0<=q/\q<1000) (kvs:=[]) (fun kv h=>nomatch h) fun kv hm=>by
  obtain⟨q,hq,hb⟩:=hv kv hm
  exact⟨q,(hq.same s6).same s7,hb⟩)
 have hgb:=hpa.bd
 have s27:=(s5.trans s6).trans s7
 have r7:=r2.same s27
 have x7:Ext fe H H7:=(x1.trans x2).same s27
 fail "R"
 refine⟨g,?_⟩
 fail "R"
 intro v8 H8 s8 r8
 have x8:=x7.same s8
 have hds8:∀dd∈ds.map (fun dd=>(dd.1,dd.2.1,i4 g dd.2.2)),tV dd:=fun dd hd=>by
  obtain⟨d0,h0,rfl⟩:=List.mem_map.mp hd
  exact(hds d0 h0).i4 hgb
 have hkg8:(bh (ds.map fun dd=>(dd.1,dd.2.1,i4 g dd.2.2))).length<=3:=by rw[Bg];exact hkg
 have hl8:(ds.map fun dd=>(dd.1,dd.2.1,i4 g dd.2.2)).length<=3:=by rw[List.length_map];exact hl
 generalize(ds.map fun dd=>(dd.1,dd.2.1,i4 g dd.2.2))=es at r8 hds8 hkg8 hl8
 obtain⟨pa,v1,v2,rfl,psq,g1,g2⟩:=r8.t2
 obtain⟨da,dvs,rfl,dsq,rds⟩:=g2.aC
 have ld:=rds.length
 rw[List.length_map]at ld
 have hf8:=x8.2
 fail "R"
 intro lop hlop
 have s9:=ae hlop (.lst [])
 have h9:upd H8 lop (.lst []) lop=some (.lst []):=af
 generalize upd H8 lop (.lst [])=H9 at s9 h9⊢
 have x9:=x8.same s9
 have hf9:=x9.2
 have nop:lop≠fe:=aY hf8 hlop
 fail "R"
 intro lnm H10 nm x10 hlnm h10 l10 hbdn
 have l10':nm.length=3:=l10
 have h10o:=x10.1 _ _ nop h9
 have nnmo:lnm≠lop:=(au h9 hlnm).symm
 fail "R"
 intro ldf hldf
 have s11:=ae hldf (.lst [])
 have h11:upd H10 ldf (.lst []) ldf=some (.lst []):=af
 have h11o:=s11 _ _ h10o
 have h11n:=s11 _ _ h10
 have ndo:ldf≠lop:=(au h10o hldf).symm
 have nnd:lnm≠ldf:=au h10 hldf
 generalize upd H10 ldf (.lst [])=H11 at s11 h11 h11o h11n⊢
 have x11:Ext fe H H11:=(x9.trans x10).same s11
 have k811:Kt H8 H11:=((Kt.same s9).trans (x10.kt hf9)).trans (Kt.same s11)
 have ndf:ldf≠fe:=aY x10.2 hldf
 have hdf0:H ldf=none:=Ext.free (x9.trans x10) hldf
 have hop0:H lop=none:=Ext.free x8 hlop
 have psq11:=psq.kt k811
 have dsq11:=dsq.kt k811
 have rds11:=rds.kt k811
 have g111:=g1.kt k811
 fail "R"
 refine fP (K:=K) (xs:=dvs) (fun j σ H12=>(∃y7 y8 y9,σ=[some (.ref fe),some (.ref pa),some (.ref ls),some (.ref lf2),some (.ref lop),some (.ref lnm),some (.ref ldf),y7,y8,y9])/\DL K lop ldf lnm nm H11 es j H12) ⟨⟨_,_,_,rfl⟩,⟨[],[],fun _ _ _ _ e=>e,Kt.refl,h11,.nil,rfl,h11o,rfl,(fun x h=>nomatch h),fun e h=>nomatch h⟩⟩ ?_ ?_ ?_
 ·rintro j σ H12 hj ⟨_,⟨fs,vs,f12,k12,_⟩⟩
  exact dsq11.kt k12
 ·rintro j xv σ H12 hxv ⟨⟨_,_,_,rfl⟩,⟨fs,vs,f12,k12,h12d,r12,lfs,h12o,lkg,kbd,fok⟩⟩
  obtain⟨yv,hyv,ryv⟩:=rds11.get' hxv
  rw[List.getElem?_map]at hyv
  obtain⟨d,hd1,rfl⟩:=Option.map_eq_some_iff.mp hyv
  have hjl:j<es.length:=(List.getElem?_eq_some_iff.mp hd1).1
  obtain⟨ta,w1,w2,w3,rfl,tsq,q1,q2,q3⟩:=(show Rp K H12 (.t [.s d.1,.t (d.2.1.map ny),enc d.2.2]) xv from ryv.kt k12).t3
  obtain rfl:=q1.aF
  obtain⟨qa,qvs,rfl,qsq,rqs⟩:=q2.aC
  have lq:=rqs.length
  rw[List.length_map]at lq
  have dok:=hds8 d (List.mem_of_getElem? hd1)
  obtain⟨tk,tz,td,tp,tpd⟩:=dok
  have h12n:=f12 _ _ nnmo nnd h11n
  have ekg:bh (es.take (j+1))=bh (es.take j)++eo d.2.1:=qz hjl (List.getElem?_eq_some_iff.mp hd1).2
  have hkt:=zO (ds:=es) (j+1)
  rw[ekg,List.length_append]at hkt
  have lvs:vs.length<sizeLine:=aZ (by rw[r12.length,List.length_map];omega)
  fail "R"
  refine fB (K:=K) (xs:=qvs) (fun i σ us H13=>(∃x y,σ=[x,y,some (.ref lop),some (.ref lnm)])/\OC K lop H12 d.2.1 (bh fs) i us H13) ⟨⟨_,_,rfl⟩,⟨[],lU.refl,.nil,rfl,by rw[show eo []=[]from rfl,List.append_nil];exact h12o,rfl,(fun x h=>nomatch h),fun p h=>nomatch h⟩⟩ ?_ (small (by omega)) ?_ ?_ ?_
  ·rintro i σ us H13 hi ⟨_,⟨qs,_,r,e,_⟩⟩
   rw[r.length,List.length_map,e];exact Nat.le_refl _
  ·rintro i σ us H13 hi ⟨_,⟨qs,f13,_⟩⟩
   exact qsq.kt f13.kt
  ·rintro i x σ us H13 hx ⟨⟨_,_,rfl⟩,⟨qs,f13,r13,l13,h13o,e13,b13,d13⟩⟩
   obtain⟨t,ht,rt⟩:=rqs.get' hx
   rw[List.getElem?_map]at ht
   obtain⟨p,hp,rfl⟩:=Option.map_eq_some_iff.mp ht
   obtain⟨xa,x1,x2,rfl,xsq,u1,u2⟩:=(show Rp K H13 (.t [.s p.1,dz p.2]) x from rt.kt f13.kt).t2
   obtain rfl:=u1.aF
   have hil:=(List.getElem?_eq_some_iff.mp hp).1
   have hpd:=tpd p (List.mem_of_getElem? hp)
   have hpd3:p.2.dep<3:=by omega
   have h13n:=f13.oth _ _ nnmo h12n
   have eop:eo (d.2.1.take (i+1))=eo (d.2.1.take i)++p.2.kY.toList:=by
    rw[List.take_succ_eq_append_getElem hil,(List.getElem?_eq_some_iff.mp hp).2,kI]
    congr 1
   have hop9:(eo (d.2.1.take (i+1))).length<=(eo d.2.1).length:=by
    conv=>rhs;rw[←List.take_append_drop (i+1) d.2.1,kI]
    rw[List.length_append];omega
   rw[eop,List.length_append]at hop9
   have hle:(bh fs++eo qs).length+p.2.kY.toList.length<=nm.length:=by rw[List.length_append];omega
   have hnm100:nm.length<=100:=by omega
   fail "R"
   intro v14 H14 k14 f14 h14 r14 e14 d14 b14
   fail "R"
   intro p15 hp15
   have s15:=ae hp15 (.tup [.str p.1,v14])
   have eq1:eo (qs++[(p.1,k14)])=eo qs++k14.kY.toList:=by
    rw[kI]
    congr 1
   fail "R"
   refine⟨qs++[(p.1,k14)],(f13.trans f14).same s15,?_,by rw[List.length_append,l13];rfl,?_,?_,fun x hx=>?_,fun z hz=>(List.mem_append.mp hz).elim (d13 z) (fun h=>by rw[List.mem_singleton.mp h];show k14.dep<=1;omega)⟩
   ·rw[List.map_append]
    exact((r13.kt f14.kt).same s15).snoc (Rp.new (K:=K) (xs:=[.s p.1,dz k14]) hp15 (.cons .s (.one r14)))
   ·rw[eq1,←List.append_assoc]
    exact s15 _ _ h14
   ·rw[eq1,eop,List.length_append,List.length_append];omega
   ·rw[eq1]at hx
    rcases List.mem_append.mp hx with h|h
    ·exact b13 x h
    ·exact hbdn x (b14 x h)
  rintro σ us H13 ⟨_,⟨qs,f13,r13,l13,h13o,e13,b13,d13⟩⟩ l14 hl14
  rw[lq,List.take_length]at e13
  have s14:=ae hl14 (.lst us)
  have h14:upd H13 l14 (.lst us) l14=some (.lst us):=af
  have r14:=r13.same s14
  generalize upd H13 l14 (.lst us)=H14 at s14 h14 r14⊢
  fail "R"
  refine .inl ⟨cy.of h14,fun p15 hp15=>?_⟩
  have s15:=ae hp15 (.tup us)
  have r15:=Rp.new (K:=K) hp15 r14
  generalize upd H14 p15 (.tup us)=H15 at s15 r15⊢
  have f15:=(f13.same s14).same s15
  have q315:=q3.kt f15.kt
  fail "R"
  intro p16 hp16
  have s16:=ae hp16 (.tup [.str d.1,.ref p15,w3])
  have r16:Rp K (upd H15 p16 (.tup [.str d.1,.ref p15,w3])) (rP (d.1,qs,d.2.2)) (.ref p16):=Rp.new (K:=K) (xs:=[.s d.1,.t (qs.map ny),enc d.2.2]) hp16 (.cons .s (.cons r15 (.one q315)))
  have f16:=f15.same s16
  have h16o:=s16 _ _ (s15 _ _ (s14 _ _ h13o))
  generalize upd H15 p16 (.tup [.str d.1,.ref p15,w3])=H16 at s16 r16 f16 h16o⊢
  have h16d:=f16.oth _ _ ndo h12d
  have k17:=Kt.lst h16d (.lst (vs++[.ref p16]))
  fail "R"
  refine⟨fs++[(d.1,qs,d.2.2)],vs++[.ref p16],fun b o n1 n2 e=>?_,(k12.trans f16.kt).trans k17,af,?_,by rw[List.length_append,lfs];rfl,?_,?_,fun x hx=>?_,fun e he=>(List.mem_append.mp he).elim (fok e) (fun h=>by rw[List.mem_singleton.mp h];exact⟨tk,tz,td,by show qs.length<=3;omega,d13⟩)⟩
  ·rw[ay n2];exact f16.oth b o n1 (f12 b o n1 n2 e)
  ·rw[List.map_append]
   exact((r12.kt f16.kt).kt k17).snoc (r16.kt k17)
  ·rw[ay ndo.symm,nO]
   have:bh [(d.1,qs,d.2.2)]=eo qs:=by unfold bh;simp
   rw[this]
   exact h16o
  ·rw[ekg,nO,List.length_append,List.length_append]
   have:bh [(d.1,qs,d.2.2)]=eo qs:=by unfold bh;simp
   rw[this];omega
  ·have:bh [(d.1,qs,d.2.2)]=eo qs:=by unfold bh;simp
   rw[nO,this]at hx
   rcases List.mem_append.mp hx with h|h
   ·exact kbd x h
   ·exact b13 x h
 ·rintro σ H12 ⟨⟨_,_,_,rfl⟩,⟨fs,vs,f12,k12,h12d,r12,lfs,h12o,lkg,kbd,fok⟩⟩
  have psq12:=psq11.kt k12
  have g112:=g111.kt k12
  fail "R"
  refine .inl ⟨cy.of h12d,fun p13 hp13=>?_⟩
  have s13:=ae hp13 (.tup vs)
  have r13:=Rp.new (K:=K) hp13 r12
  generalize upd H12 p13 (.tup vs)=H13 at s13 r13⊢
  fail "R"
  intro p14 hp14
  have s14:=ae hp14 (.tup [v1,.ref p13])
  have r14:Rp K (upd H13 p14 (.tup [v1,.ref p13])) (i0 kt fs) (.ref p14):=Rp.new (K:=K) hp14 (.cons (g112.same s13) (.one r13))
  generalize upd H13 p14 (.tup [v1,.ref p13])=H14 at s14 r14⊢
  fail "R"
  intro p15 hp15
  have s15:=ae hp15 (.tup [.ref p14,.ref lop])
  have s1215:=(s13.trans s14).trans s15
  refine k p15 lop (.ref p14) _ fs ⟨fun b o n e=>?_,?_⟩ hop0 af (r14.same s15) (s1215 _ _ h12o) (by omega) fok kbd
  ·exact s1215 _ _ (f12 b o (au e hop0) (au e hdf0) (x11.1 b o n e))
  ·obtain⟨a,b,e⟩:=x11.2
   exact⟨a,b,s1215 _ _ (f12 _ _ nop.symm ndf.symm e)⟩
end
end G03
namespace L2
open PySem PySem.Spec PyProof.Rows
noncomputable def Bh(a b:List Int):PyData:=.tuple [.list (a.map .int),.list (b.map .int)]
@[irreducible] noncomputable def zP (a b:List Int):Str:=(Bh a b).shown
theorem nT:∀l:List Int,(∀n∈l,0<=n/\n<1000)->PyData.showableAll (l.map .int)=true/\PyData.hasDictAll (l.map .int)=false/\PyData.depthAll (l.map .int)=0/\PyData.leavesShortAll 13 (l.map .int)=true/\PyData.weightAll (l.map .int)<=30*l.length:=by
 intro l hl
 induction l with
 |nil=>exact⟨rfl,rfl,rfl,rfl,Nat.le_refl _⟩
 |cons n r ih =>
  obtain⟨a,b,c,d,e⟩:=ih fun x hx=>hl x (.tail _ hx)
  have hn:=hl n (.head _)
  have l2:n.natAbs<10 ^ 12:=by
   have:(10:Nat) ^ 12=1000000000000:=by decide
   omega
  have l3:n.natAbs.log2<1920:=by
   by_cases z:n.natAbs=0
   ·rw[z];decide
   ·rw[Nat.log2_lt z];exact Nat.lt_of_lt_of_le (show n.natAbs<2 ^ 20 by omega) (Nat.pow_le_pow_right (by decide) (by decide))
  refine⟨?_,?_,?_,?_,?_⟩
  ·rw[List.map_cons];simp only[PyData.showableAll,PyData.showable,a,Bool.and_true];simpa using l3
  ·rw[List.map_cons];simp only[PyData.hasDictAll,PyData.hasDict,b,Bool.or_false]
  ·rw[List.map_cons];simp only[PyData.depthAll,PyData.depth,c];rfl
  ·rw[List.map_cons];simp only[PyData.leavesShortAll,PyData.leavesShort,d,Bool.and_true];exact decide_eq_true (PyData.shown_int_le l2)
  ·rw[List.map_cons,List.length_cons]
   simp only[PyData.weightAll,PyData.weight]
   have l4:n.natAbs.log2<20:=by
    by_cases z:n.natAbs=0
    ·rw[z];decide
    ·rw[Nat.log2_lt z];omega
   split<;>omega
theorem Bj{a b:List Int}(ha:∀n∈a,0<=n/\n<1000)(hb:∀n∈b,0<=n/\n<1000)(la:a.length<=1000)(lb:b.length<=1000):xg (Bh a b):=by
 obtain⟨a1,a2,a3,a4,a5⟩:=nT a ha
 obtain⟨b1,b2,b3,b4,b5⟩:=nT b hb
 unfold Bh
 refine⟨?_,?_,?_,?_⟩
 ·simp only[PyData.showable,PyData.showableAll,a1,b1,Bool.and_true]
 ·simp only[PyData.hasDict,PyData.hasDictAll,a2,b2,Bool.or_false]
 ·simp only[PyData.depth,PyData.depthAll,a3,b3];omega
 ·refine PyData.shown_fits (B:=13) (by decide) (by decide) ?_ ?_
  ·simp only[PyData.leavesShort,PyData.leavesShortAll,a4,b4,Bool.and_true]
  ·simp only[PyData.weight,PyData.weightAll]
   have:(2:Nat) ^ 20=1048576:=by decide
   omega
section
variable {X:Cx}
theorem iV(hg:X.A.guards=some [])(hu:X.A.units+150<cLine):fN X (.builtin "repr") (fun xs H Q=>∃(p l1 l2:Addr) (a b:List Int),xs=[.ref p]/\bx X.K H p [.ref l1,.ref l2]/\H l1=some (.lst (a.map V.int))/\H l2=some (.lst (b.map V.int))/\xg (Bh a b)/\Q (.str (zP a b)) H):=by
 intro pins s σ H xs us Q I r h
 obtain⟨p,l1,l2,a,b,rfl,hs,h1,h2,S,q⟩:=h
 obtain⟨u,rfl,ru⟩:=vals1 r
 cases ru
 have rl:∀{l:Addr}{ns:List Int},H l=some (.lst (ns.map V.int))->∃as,Reads s.heap (.ref l) (.list (ns.map .int)) as:=fun{l ns} e=>by
  obtain⟨its,rv,pl,_⟩:=I.list (cy.of (K:=X.K) e)
  obtain⟨o,e,c,n,d⟩:=pl.isList
  obtain⟨as,ha⟩:=nh (s:=s) (fun x _=>yW I x) (aO.Ad (K:=X.K) (H:=H) ns) rv
  rw[T.xh]at ha
  exact⟨_,.list e c d (by simpa using ha)⟩
 obtain⟨as1,ha1⟩:=rl h1
 obtain⟨as2,ha2⟩:=rl h2
 obtain⟨its,rv,pl,_⟩:=I.tuple hs
 obtain⟨o,e,c,n,d⟩:=pl
 obtain⟨u1,u2,rfl,r1,r2⟩:=vals2 rv
 cases r1
 cases r2
 have rd:Reads s.heap (.ref p) (Bh a b) (as1++(as2++[])):=.tuple e c d (.cons ha1 (.cons ha2 .nil))
 refine repr_of_reads' rd S.sh (fun z=>by rw[S.nd]at z;cases z) hg (by have:=S.dp;omega) (fun _ _ e=>e) (fun h' u tk hk=>?_) S.sz
 have q':Q (.str (Bh a b).shown) H:=by unfold zP at q;exact q
 exact⟨.str _,H,I.kept hk,⟨_,rfl⟩,q'⟩
end
end L2
namespace G03
open PySem L2
theorem Bk(tm:Tm):Tok tm->∀x∈uM tm,0<=x/\x<1000:=by
 induction tm using Tm.induct with
 |hm h ks ih =>
  intro t x hx
  cases t with
  |mk a b c g =>
  rw[yd]at hx
  rcases List.mem_append.mp hx with z|z
  ·cases h
   case gap m =>
    have e:x=m:=List.mem_singleton.mp z
    rw[e];exact g
   all_goals exact nomatch z
  ·obtain⟨k,hk,hx⟩:=List.mem_flatMap.mp z
   exact ih k hk (c k hk) x hx
theorem Cr{ds:List (Str×List (Str×Kk)×Tm)}(h:∀d∈ds,tV d):∀x∈b9 ds,0<=x/\x<1000:=fun x hx=>by
 obtain⟨d,hd,hx⟩:=List.mem_flatMap.mp hx
 exact Bk _ (h d hd).1 x hx
theorem Bl{ds:List (Str×List (Str×Kk)×Tm)}(h:∀d∈ds,tV d)(hl:ds.length<=3):(b9 ds).length<=120:=by
 have:=qx (f:=fun d:Str×List (Str×Kk)×Tm=>d.2.2.parts.filterMap cR) (b:=40) (l:=ds) (fun d hd=>Nat.le_trans (ye d.2.2) (h d hd).2.1)
 unfold b9
 omega
noncomputable def uS(K:PySem.W.Frag):Sp:=fun vs H Q _=>∃(v:V) (lo:Addr) (kt:T) (ds:List (Str×List (Str×Kk)×Tm)),vs=[v,.ref lo]/\Rp K H (i0 kt ds) v/\ds.length<=3/\(∀d∈ds,tV d)/\H lo=some (.lst ((bh ds).map V.int))/\(∀x∈bh ds,0<=x/\x<1000)/\∀H',aI H H'->Q (.bl true) H'
theorem zQ{ds:List (Str×List (Str×Kk)×Tm)}{j:Nat}{d:Str×List (Str×Kk)×Tm}(e:ds[j]?=some d):b9 (ds.take (j+1))=b9 (ds.take j)++uM d.2.2:=qy (List.getElem?_eq_some_iff.mp e).1 (List.getElem?_eq_some_iff.mp e).2
section
variable {P:Program}{w:World}{K:PySem.W.Frag}{mg:Str->Option Value}{base:Heap}{gS gT:Addr}{sfd tfd:FuncData}
theorem b8:Nm ["_law_program","_law_opens","_law_found","_law_due","_law_f","_law_params","_law_term_here"] (ak iG):=by decide +kernel
theorem gD:Lm ["_law_program","_law_opens","_law_found","_law_due","_law_f","_law_params","_law_term_here"] (ak iG):=by decide +kernel
theorem eW:aN ["_law_program","_law_opens","_law_found","_law_due","_law_f","_law_params","_law_term_here"] ["_law_program","_law_opens"] (ak iG):=⟨rfl,rfl,rfl,by decide +kernel,rfl,by decide +kernel,by decide +kernel⟩
theorem yn{f:Addr}{fd:FuncData}{j jt jg:Nat}(h1:jt<=j)(h2:jg<=j)(F:fJ K "_law_right" "_law_right" iG f fd)(GS:bS P w K mg base "gaps" jg ["program"] (xF K) gS sfd)(TS:bS P w K mg base "_law_terms_gaps" jt ["_law_term_here","_law_found"] (mE K 10) gT tfd)(z_tuple:mg "tuple"=none)(z_isinstance:mg "isinstance"=none)(z_repr:mg "repr"=none):bT P w K mg base fk (j+1) f fd ["_law_program","_law_opens"] (uS K):=by
 refine F.ok eW (fun vs H Q E h=>?_) (fun cdv A outer s H vs Q E hr h=>?_)
 ·obtain⟨_,_,_,_,rfl,_⟩:=h
  rfl
 obtain⟨v,lo,kt,ds,rfl,r0,hl3,hds,hlo,hob,k⟩:=h
 refine⟨_,(Z5 (Z4 eW.nd gD 2 (Z0 GS (Zb (va b8 0)))) (Z5 (sa eW.nd gD 3 (bf ao)) (Z5 (Zi (@bX _ _ _ _ (Za aD (va b8 0))) (Ze (3) (Zj (ga eW.nd gD 4) (Zj (ga eW.nd gD 5) (aR (ga eW.nd gD 6) bz)))) (Zd (Zp (Z0 TS (Z1 (va b8 6) (Zb (va b8 3))))))) (Z5 (Zf (PW.pt (@qR _ _ _ _ _ _ _ (@Ao _ _ _ _ (@dQ _ _ _ (Z2 wZ z_isinstance PyProof.Rows.boot_isinstance (Z1 (va b8 2) (Zb (cY (v:=.ty "tuple") (by show _=_;kernel_rfl) z_tuple (by decide +kernel) rfl)))) (by intro _;rfl))) (@pZ _ _ _ _ (Zc BI (Z2 (iV hr.gd hr.oi) z_repr PyProof.Rows.boot_repr (Zb (va b8 2))) (Z2 (iV hr.gd hr.oi) z_repr PyProof.Rows.boot_repr (Z1 (Zk (Z1 (va b8 3) (Zb (va b8 1)))) ao)))))) (bR (bQ Bv))) (Z5 (Zp (Z7 PySem.F.slot_list_append PySem.F.type_list_append bG (Za aD (va b8 2)) (Zb aj))) (Z5 (Zp (@wH _ _ _ _ _ _ _ _ _ PySem.F.plainAttrs_list PySem.F.slot_list_clear PySem.F.type_list_clear wJ (Za aD (va b8 2)) (by rfl) (by rfl))) (Zd (Zq (@qe _ _ _ _ _ _ _ _ bJ (Z2 (iV hr.gd hr.oi) z_repr PyProof.Rows.boot_repr (Z1 (Z0 GS (Zb (va b8 0))) ao)) (Z2 (iV hr.gd hr.oi) z_repr PyProof.Rows.boot_repr (Z1 (Zk (Z1 (va b8 3) (Zb (va b8 1)))) ao)) (bF _)))))))))),?_⟩
 try dsimp only[bU]
 try dsimp only[bU]
 have dsok:tJ ds:=⟨by omega,fun d hd=>⟨(hds d hd).1.wf,by have:=(hds d hd).2.1;omega,by have:=(hds d hd).2.2.2.1;omega⟩⟩
 have ltg:=xD dsok
 have lkg:=xE dsok
 have hsh:xg (Bh (b9 ds) (bh ds)):=Bj (Cr hds) hob (by omega) (by omega)
 obtain⟨pa,v1,v2,rfl,psq,g1,g2⟩:=r0.t2
 obtain⟨da,dvs,rfl,dsq,rds⟩:=g2.aC
 have ld:=rds.length
 rw[List.length_map]at ld
 refine rH ?_
 intro N1 N2 N3 N4 N5 N6 c1 c2 c3 c4 c5 c6
 fail "R"
 intro p1 l1 l2 H1 s1 hl1 hl2 n12 h1p h1a h1b
 have psq1:=psq.same s1
 have dsq1:=dsq.same s1
 fail "R"
 intro ldu hldu
 have s2:=ae hldu (.lst [])
 have h2:upd H1 ldu (.lst []) ldu=some (.lst []):=af
 generalize upd H1 ldu (.lst [])=H2 at s2 h2⊢
 have psq2:=psq1.same s2
 have dsq2:=dsq1.same s2
 have s02:=s1.trans s2
 fail "R"
 refine fP (K:=K) (xs:=dvs) (fun j σ H3=>(∃y5 y6 y7,σ=[some (.ref pa),some (.ref lo),some (.ref p1),some (.ref ldu),y5,y6,y7])/\TI ldu H2 (b9 (ds.take j)) H3) ⟨⟨_,_,_,rfl⟩,⟨lU.refl,h2⟩⟩ ?_ ?_ ?_
 ·rintro j σ H3 hj ⟨_,t3⟩
  exact dsq2.kt t3.f.kt
 ·rintro j xv σ H3 hxv ⟨⟨_,_,_,rfl⟩,t3⟩
  obtain⟨yv,hyv,ryv⟩:=rds.get' hxv
  rw[List.getElem?_map]at hyv
  obtain⟨d,hd1,rfl⟩:=Option.map_eq_some_iff.mp hyv
  obtain⟨ta,w1,w2,w3,rfl,tsq,q1,q2,q3⟩:=(show Rp K H3 (.t [.s d.1,.t (d.2.1.map ny),enc d.2.2]) xv from(ryv.same s02).kt t3.f.kt).t3
  obtain⟨tk,tz,td,_⟩:=hds d (List.mem_of_getElem? hd1)
  have td10:d.2.2.depth<10:=by omega
  have t3h:=t3.h
  have hz:(b9 (ds.take j)).length+d.2.2.size<=900:=by
   have:=Bl (fun e he=>hds e (List.mem_of_mem_take he)) (show(ds.take j).length<=3 by rw[List.length_take];omega)
   omega
  fail "R"
  intro H4 f4 h4
  fail "R"
  refine⟨t3.f.trans f4,?_⟩
  rw[zQ hd1]
  exact h4
 ·rintro σ H3 ⟨⟨_,_,_,rfl⟩,t3⟩
  rw[ld,List.take_length]at t3
  have n1u:l1≠ldu:=au h1a hldu
  have n2u:l2≠ldu:=au h1b hldu
  have nou:lo≠ldu:=au (s1 _ _ hlo) hldu
  have no1:lo≠l1:=au hlo hl1
  have no2:lo≠l2:=au hlo hl2
  have h3a:=t3.f.oth _ _ n1u (s2 _ _ h1a)
  have h3b:=t3.f.oth _ _ n2u (s2 _ _ h1b)
  have h3o:=t3.f.oth _ _ nou (s2 _ _ (s1 _ _ hlo))
  have h3u:=t3.h
  have h3p:bx K H3 p1 [.ref l1,.ref l2]:=((bx.of h1p).same s2).kt t3.f.kt
  have s13:aI H1 H3:=fun b o e=>t3.f.oth b o (au e hldu) (s2 _ _ e)
  have s03:=s1.trans s13
  refine c3 _ _ ?_
  refine qv (fun b H4=>aI H3 H4/\b=false) (fun C hC=>?_) (fun H4 h4=>nomatch h4.2) (fun H4 h4=>?_)
  ·clear c1 c2 c3 c4 c5 c6
   fail "R"
   intro p4 hp4
   have s4:=ae hp4 (.tup [.ref ldu,.ref lo])
   have h4:bx K (upd H3 p4 (.tup [.ref ldu,.ref lo])) p4 [.ref ldu,.ref lo]:=bx.of af
   have h4u:=s4 _ _ h3u
   have h4o:=s4 _ _ h3o
   generalize upd H3 p4 (.tup [.ref ldu,.ref lo])=H4 at s4 h4 h4u h4o⊢
   fail "R"
   exact hC _ _ ⟨s4,by simp⟩
  obtain⟨s4,_⟩:=h4
  have h4p:=h3p.same s4
  have h4a:=s4 _ _ h3a
  have h4b:=s4 _ _ h3b
  have lt7:(List.map V.int (b9 ds)).length<sizeLine:=aZ (by rw[List.length_map];omega)
  have k5:=Kt.lst h4a (.lst ((b9 ds).map V.int++[.int 7]))
  have h5p:=h4p.kt k5
  have h5b:upd H4 l1 (.lst ((b9 ds).map V.int++[.int 7])) l2=some (.lst ((bh ds).map V.int)):=by rw[ay n12.symm];exact h4b
  have h5u:upd H4 l1 (.lst ((b9 ds).map V.int++[.int 7])) ldu=some (.lst ((b9 ds).map V.int)):=by rw[ay n1u.symm];exact s4 _ _ h3u
  have h5o:upd H4 l1 (.lst ((b9 ds).map V.int++[.int 7])) lo=some (.lst ((bh ds).map V.int)):=by rw[ay no1];exact s4 _ _ h3o
  have s5:aI H _:=(s03.trans s4).ow hl1 (.lst ((b9 ds).map V.int++[.int 7]))
  have k6:=Kt.lst h5b (.lst [])
  have h6u:upd (upd H4 l1 (.lst ((b9 ds).map V.int++[.int 7]))) l2 (.lst []) ldu=some (.lst ((b9 ds).map V.int)):=by rw[ay n2u.symm];exact h5u
  have h6o:upd (upd H4 l1 (.lst ((b9 ds).map V.int++[.int 7]))) l2 (.lst []) lo=some (.lst ((bh ds).map V.int)):=by rw[ay no2];exact h5o
  have s6:=s5.ow hl2 (.lst [])
  have r6:Rp K (upd (upd H4 l1 (.lst ((b9 ds).map V.int++[.int 7]))) l2 (.lst [])) (i0 kt ds) (.ref pa):=r0.same s6
  fail "R"
  generalize upd (upd H4 l1 (.lst ((b9 ds).map V.int++[.int 7]))) l2 (.lst [])=H6 at k6 h6u h6o s6 r6⊢
  intro p7 q1 q2 H7 s7 hq1 hq2 nq h7p h7a h7b
  have h7q:bx K H7 p7 [.ref q1,.ref q2]:=bx.of h7p
  have h7u:=s7 _ _ h6u
  have h7o:=s7 _ _ h6o
  fail "R"
  intro p8 hp8
  have s8:=ae hp8 (.tup [.ref ldu,.ref lo])
  have h8:bx K (upd H7 p8 (.tup [.ref ldu,.ref lo])) p8 [.ref ldu,.ref lo]:=bx.of af
  have h8u:=s8 _ _ h7u
  have h8o:=s8 _ _ h7o
  generalize upd H7 p8 (.tup [.ref ldu,.ref lo])=H8 at s8 h8 h8u h8o⊢
  fail "R"
  have q:=k H8 ((s6.trans s7).trans s8)
  rw[←decide_eq_true (rfl:V.str (zP (b9 ds) (bh ds))=V.str (zP (b9 ds) (bh ds)))]at q
  exact q
end
theorem Kk.yo{ns:List Str}:∀{k:Kk},k.ok ns->k.kY=none
 |.num,_=>rfl
 |.kd _,_=>rfl
 |.op _,h=>absurd h id
 |.row k,h=>yo (k:=k) h
section
variable {P:Program}{w:World}{K:PySem.W.Frag}{mg:Str->Option Value}{base:Heap}{gT gA gE gH:Addr}{tfd afd efd hfd:FuncData}
theorem av:Nm ["_law_feed_here","_law_scene_here","_law_room","_law_hides","_law_known","_law_defs","_law_opens","_law_wants","_law_goal","_law_many","_law_k","_law_params","_law_term_here","_law_shown"] (ak bN):=by decide +kernel
theorem aV:Lm ["_law_feed_here","_law_scene_here","_law_room","_law_hides","_law_known","_law_defs","_law_opens","_law_wants","_law_goal","_law_many","_law_k","_law_params","_law_term_here","_law_shown"] (ak bN):=by decide +kernel
theorem aQ:aN ["_law_feed_here","_law_scene_here","_law_room","_law_hides","_law_known","_law_defs","_law_opens","_law_wants","_law_goal","_law_many","_law_k","_law_params","_law_term_here","_law_shown"] ["_law_feed_here","_law_scene_here","_law_room","_law_hides"] (ak bN):=⟨rfl,rfl,rfl,by decide +kernel,rfl,by decide +kernel,by decide +kernel⟩
theorem oF{f:Addr}{fd:FuncData}{j ja jh:Nat}(hj:1<=j)(h1:ja<=j)(h2:jh<=j)(F:fJ K "_law_program_of" "_law_program_of" bN f fd)(TK:bS P w K mg base "_law_take" 1 ["_law_feed_here","_law_many"] dD gT tfd)(AK:bS P w K mg base "_law_any_kind" ja ["_law_feed_here","_law_known","_law_down"] (ee K 3) gA afd)(HE:bS P w K mg base "_law_held" j ["_law_feed_here","_law_scene_here","_law_around","_law_kind","_law_room"] (yh K) gE efd)(HI:bS P w K mg base "_law_hidden" jh ["_law_feed_here","_law_kind","_law_opens","_law_few"] (kH K 3) gH hfd)(z_range:mg "range"=none)(z_tuple:mg "tuple"=none):bT P w K mg base fk (j+1) f fd ["_law_feed_here","_law_scene_here","_law_room","_law_hides"] (lK K):=by
 refine F.ok aQ (fun vs H Q E h=>?_) (fun cdv A outer s H vs Q E hr h=>?_)
 ·obtain⟨_,_,_,_,_,_,_,rfl,_⟩:=h
  rfl
 obtain⟨fe,d,room,S0,xs,kl,gs,rfl,sc0,rm0,rm1,k⟩:=h
 refine⟨_,(Z5 (Z4 aQ.nd aV 4 (Z8 (ak bN) ["_law_feed_here","_law_scene_here","_law_room","_law_hides","_law_known","_law_defs","_law_opens","_law_wants","_law_goal","_law_many","_law_k","_law_params","_law_term_here","_law_shown"] ["_law_name","_law_tags"] [] (@bX _ _ _ _ (Zg (va av 1))) (fun _ _ _ _=>(Ze (2) (Zj (Z3 (i:=0) (show(["_law_name","_law_tags"]:List Str).Nodup by decide +kernel)) (aR (Z3 (i:=1) (show(["_law_name","_law_tags"]:List Str).Nodup by decide +kernel)) bz)))) (fun _ _ _ _=>(va (show Nm ["_law_name","_law_tags"] _ by show _=_;kernel_rfl) 0)))) (Z5 (sa aQ.nd aV 5 (bf ao)) (Z5 (sa aQ.nd aV 6 (bf ao)) (Z5 (sa aQ.nd aV 7 (bf ao)) (Z5 (sa aQ.nd aV 8 az) (Z5 (Z4 aQ.nd aV 9 (Zn cJ aj (Z0 TK (cV (va av 0) (Zb aj))))) (Z5 (Zi (Zo (Zb (va av 9))) (ga aQ.nd aV 10) (Z5 (Zl (ak bN) ["_law_feed_here","_law_scene_here","_law_room","_law_hides","_law_known","_law_defs","_law_opens","_law_wants","_law_goal","_law_many","_law_k","_law_params","_law_term_here","_law_shown"] ["_law_x"] [0,4] (@dw _ _ _ _ (@cO _ _ _ _ _ _ _ _ _ _ fQ (Zg (va av 1)) dH (@cf _ _ _ (Z0 TK (cV (va av 0) (Zb aj)))))) (fun _ _ _ _=>(Z3 (i:=0) (show(["_law_x","_law_feed_here","_law_known"]:List Str).Nodup by decide +kernel))) (fun _ _ _ _=>(Zk (Z1 (va (show Nm ["_law_x","_law_feed_here","_law_known"] _ by show _=_;kernel_rfl) 0) (Z1 (Z0 AK (Z1 (va (show Nm ["_law_x","_law_feed_here","_law_known"] _ by show _=_;kernel_rfl) 1) (cV (va (show Nm ["_law_x","_law_feed_here","_law_known"] _ by show _=_;kernel_rfl) 2) (Zb aj)))) ao)))) (ga aQ.nd aV 11)) (Z5 (Zl (ak bN) ["_law_feed_here","_law_scene_here","_law_room","_law_hides","_law_known","_law_defs","_law_opens","_law_wants","_law_goal","_law_many","_law_k","_law_params","_law_term_here","_law_shown"] ["_law_x","_law_kind"] [] (dw (va av 11)) (fun _ _ _ _=>(Ze (2) (Zj (Z3 (i:=0) (show(["_law_x","_law_kind"]:List Str).Nodup by decide +kernel)) (aR (Z3 (i:=1) (show(["_law_x","_law_kind"]:List Str).Nodup by decide +kernel)) bz)))) (fun _ _ _ _=>(va (show Nm ["_law_x","_law_kind"] _ by show _=_;kernel_rfl) 1)) (ga aQ.nd aV 7)) (Z5 (Z4 aQ.nd aV 8 (Z0 AK (Z1 (va av 0) (cV (va av 4) (Zb aj))))) (Z5 (Z4 aQ.nd aV 12 (Z0 HE (Z1 (va av 0) (Z1 (va av 1) (Z1 (va av 11) (Z1 (va av 8) (Zb (va av 2)))))))) (Z5 (Z4 aQ.nd aV 13 (Z6 aL z_tuple PyProof.Rows.boot_tuple (Zb (va av 11)))) (Z5 (Zf (PW.pt (@qR _ _ _ _ _ _ _ (aM bJ (va av 3) aj (bF _)) (@pZ _ _ _ _ (PW.pt (@bW _ _ _ _ _ _ _ (aM bJ (va av 3) aj (bF _)) (@cE _ _ _ _ (Zc j0 (va av 10) (aJ bu (va av 9) aj)))))))) (Zd (Z4 aQ.nd aV 13 (Z6 aL z_tuple PyProof.Rows.boot_tuple (Z1 (Z8 (ak bN) ["_law_feed_here","_law_scene_here","_law_room","_law_hides","_law_known","_law_defs","_law_opens","_law_wants","_law_goal","_law_many","_law_k","_law_params","_law_term_here","_law_shown"] ["_law_x","_law_kind"] [0,3,6] (dw (va av 11)) (fun _ _ _ _=>(Ze (2) (Zj (Z3 (i:=0) (show(["_law_x","_law_kind","_law_feed_here","_law_hides","_law_opens"]:List Str).Nodup by decide +kernel)) (aR (Z3 (i:=1) (show(["_law_x","_law_kind","_law_feed_here","_law_hides","_law_opens"]:List Str).Nodup by decide +kernel)) bz)))) (fun _ _ _ _=>(Zk (Z1 (va (show Nm ["_law_x","_law_kind","_law_feed_here","_law_hides","_law_opens"] _ by show _=_;kernel_rfl) 0) (Z1 (Z0 HI (Z1 (va (show Nm ["_law_x","_law_kind","_law_feed_here","_law_hides","_law_opens"] _ by show _=_;kernel_rfl) 2) (Z1 (va (show Nm ["_law_x","_law_kind","_law_feed_here","_law_hides","_law_opens"] _ by show _=_;kernel_rfl) 1) (Z1 (va (show Nm ["_law_x","_law_kind","_law_feed_here","_law_hides","_law_opens"] _ by show _=_;kernel_rfl) 4) (Z1 (Zn cJ aj (aJ eu (va (show Nm ["_law_x","_law_kind","_law_feed_here","_law_hides","_law_opens"] _ by show _=_;kernel_rfl) 3) aj)) ao))))) ao))))) ao))))) (Z5 (Zp (Z7 PySem.F.slot_list_append PySem.F.type_list_append bG (va av 5) (Z1 (Zk (Z1 (Zm bg (Zg (va av 1)) (va av 10)) (Z1 (va av 13) (Zb (va av 12))))) ao))) (Zd (Zp (Z7 PySem.F.slot_list_append PySem.F.type_list_append bG (Zg (va av 1)) (Z1 (Zk (Z1 (Zm bg (Zg (va av 1)) (va av 10)) (Z1 (va av 7) (Zb (va av 8))))) ao)))))))))))) (Zd (Zq (Zk (Z1 (Zk (Z1 (Zg (va av 1)) (Z1 (Z6 aL z_tuple PyProof.Rows.boot_tuple (Zb (va av 5))) ao))) (Z1 (va av 7) (Zb (va av 8)))))))))))))),?_⟩
 try dsimp only[bU]
 try dsimp only[bU]
 have hgk:=sc0.get (iS S0)
 obtain⟨ka,kvs,ek,ksq,rks⟩:=sc0.kd.aC
 cases ek
 fail "R"
 refine mH sc0 fun lk H1 s1 hlk h1=>?_
 have sc1:=sc0.same s1
 fail "R"
 intro ldf hldf
 have s2:=ae hldf (.lst [])
 have h2:upd H1 ldf (.lst []) ldf=some (.lst []):=af
 generalize upd H1 ldf (.lst [])=H2 at s2 h2⊢
 fail "R"
 intro lop hlop
 have s3:=ae hlop (.lst [])
 have h3:upd H2 lop (.lst []) lop=some (.lst []):=af
 have ndo:ldf≠lop:=au h2 hlop
 generalize upd H2 lop (.lst [])=H3 at s3 h3⊢
 fail "R"
 intro lw0 hlw0
 have s4:=ae hlw0 (.lst [])
 generalize upd H3 lw0 (.lst [])=H4 at s4⊢
 have n1:NN S0 d ldf:=sc1.nn hldf
 have n2:NN S0 d lop:=(sc1.same s2).nn hlop
 have nkd:lk≠ldf:=au h1 hldf
 have nko:lk≠lop:=au (s2 _ _ h1) hlop
 have s14:=s1.trans ((s2.trans s3).trans s4)
 have hdf0:H ldf=none:=s1.free hldf
 have hop0:H lop=none:=(s1.trans s2).free hlop
 have h4d:=s4 _ _ (s3 _ _ h2)
 have h4o:=s4 _ _ h3
 have h4k:=s4 _ _ (s3 _ _ (s2 _ _ h1))
 obtain⟨S,eS⟩:∃S:i8,S={S0 with x1:=ldf,x2:=lop}:=⟨_,rfl⟩
 have sc4:bV K H4 fe d S xs kl [] gs:=by rw[eS];exact(sc0.same s14).gh ldf lop
 have eg:S.lg=S0.lg/\S.la=S0.la/\S.ld=S0.ld/\S.x1=ldf/\S.x2=lop:=by rw[eS];exact⟨rfl,rfl,rfl,rfl,rfl⟩
 have m1:NN S d S.x1:=by rw[eS];exact n1
 have m2:NN S d S.x2:=by rw[eS];exact n2
 obtain⟨e1,e2,e3,rfl,rfl⟩:=eg
 have hf4:=sc4.ff
 have nx1f:S.x1≠fe:=(sc1.no hldf).1
 have nx2f:S.x2≠fe:=((sc1.same s2).no hlop).1
 have nkf:lk≠fe:=(sc0.no hlk).1
 have nkl:NN S0 d lk:=sc0.nn hlk
 fail "R"
 intro m H5 m0 m1' x5
 have sc5:=sc4.ext x5
 have f5:cP [S.x1,S.x2,S.lg,S.la,S.ld] fe H4 H5:=(cP.refl hf4).ext x5
 have h5d:=x5.1 _ _ nx1f h4d
 have h5o:=x5.1 _ _ nx2f h4o
 have h5k:=x5.1 _ _ nkf h4k
 fail "R"
 refine iz (n:=(1+m).toNat) (fun i σ H6=>(∃(w g:V) (y10 y11 y12 y13:Option V),σ=[some (.ref fe),some (.ref d),some (.int room),some (.int 2),some (.ref lk),some (.ref S.x1),some (.ref S.x2),some w,some g,some (.int (1+m)),y10,y11,y12,y13])/\PI K fe d S xs kl lk H4 i H6) ⟨⟨_,_,_,_,_,_,rfl⟩,⟨[],[],[],[],gs,f5,sc5,h5d,.nil,rfl,rfl,h5o,rfl,Nat.zero_le _,h5k,fun dd h=>nomatch h⟩⟩ ?_ ?_
 ·rintro i σ H6 hi ⟨⟨w6,g6,_,_,_,_,rfl⟩,⟨ds,vs,os,dl,gs6,f6,fM,h6d,r6,lds,ldl,h6o,los,los3,h6k,dok⟩⟩
  have hgp:=fM.get (xN S)
  have hlp:=fM.lp
  have hf6:=fM.ff
  have Br:=fM.Br
  have lx:=fM.lx
  have nlp:=fM.nf.2.2.2.1
  fail "R"
  intro m7 H7 m70 m71 x7
  have sc7:=fM.ext x7
  have hlp7:=sc7.lp
  fail "R"
  intro l8 hl8
  have e8:cB (((xs.drop 21).take 3).map V.str) none (some m7)=(((xs.drop 21).take 3).take m7.toNat).map V.str:=by
   rw[show m7=((m7.toNat:Nat):Int) by omega,iJ,Int.toNat_natCast]
   exact List.map_take.symm
  rw[e8]
  have s8:=ae hl8 (.lst ((((xs.drop 21).take 3).take m7.toNat).map V.str))
  have h8:upd H7 l8 (.lst ((((xs.drop 21).take 3).take m7.toNat).map V.str)) l8=some (.lst ((((xs.drop 21).take 3).take m7.toNat).map V.str)):=af
  generalize upd H7 l8 (.lst ((((xs.drop 21).take 3).take m7.toNat).map V.str))=H8 at s8 h8⊢
  have lns:(((xs.drop 21).take 3).take m7.toNat).length<=3:=by rw[List.length_take,List.length_take];omega
  generalize(((xs.drop 21).take 3).take m7.toNat)=ns at h8 lns
  have x68:Ext fe H6 H8:=x7.same s8
  have h8k:=x68.1 _ _ nkf h6k
  have nl8:=(sc7.no hl8).1
  fail "R"
  refine dX (K:=K) (xs:=ns.map V.str) (fun i9 σ us H9=>(∃y,σ=[y,some (.ref fe),some (.ref lk)])/\PC K fe ns (kn kl) H8 i9 us H9) ⟨⟨_,rfl⟩,⟨[],cP.refl x68.2,.nil,rfl,fun p h=>nomatch h⟩⟩ ?_ (small (by rw[List.length_map];omega)) ?_ ?_ ?_
  ·rintro i9 σ us H9 h9 ⟨_,⟨ps,_,r,e,_⟩⟩
   have:=congrArg List.length e
   rw[List.length_map,List.length_take]at this
   rw[r.length,List.length_map,this];exact Nat.min_le_left _ _
  ·rintro i9 σ us H9 h9 ⟨_,⟨ps,f9,_⟩⟩
   exact cy.of (f9.nB nl8 h8)
  ·rintro i9 xv σ us H9 hxv ⟨⟨_,rfl⟩,⟨ps,f9,r9,e9,o9⟩⟩
   rw[List.getElem?_map]at hxv
   obtain⟨y9,hy9,rfl⟩:=Option.map_eq_some_iff.mp hxv
   have h9k:=f9.nB nkf h8k
   have hf9:=f9.ff
   have kn100:(kn kl).length<=100:=by omega
   fail "R"
   intro v10 H10 k10 x10 r10 o10 d10
   fail "R"
   intro p11 hp11
   have s11:=ae hp11 (.tup [.str y9,v10])
   have hil:=(List.getElem?_eq_some_iff.mp hy9).1
   have d10':k10.dep<=1:=d10
   fail "R"
   refine⟨ps++[(y9,k10)],(f9.ext x10).same s11,?_,?_,fun p hp=>(List.mem_append.mp hp).elim (o9 p) (fun h=>by rw[List.mem_singleton.mp h];exact⟨o10,d10'⟩)⟩
   ·rw[List.map_append]
    exact((r9.kt (x10.kt hf9)).same s11).snoc (Rp.new (K:=K) (xs:=[.s y9,dz k10]) hp11 (.cons .s (.one r10)))
   ·rw[List.map_append,e9,List.take_succ_eq_append_getElem hil,(List.getElem?_eq_some_iff.mp hy9).2]
    rfl
  rintro σ us H9 ⟨_,⟨ps,f9,r9,e9,o9⟩⟩ lpa hlpa
  rw[List.length_map,List.take_length]at e9
  have lps:ps.length<=3:=by have:=congrArg List.length e9;rw[List.length_map]at this;omega
  have s10:=ae hlpa (.lst us)
  have h10:upd H9 lpa (.lst us) lpa=some (.lst us):=af
  have r10:=r9.same s10
  generalize upd H9 lpa (.lst us)=H10 at s10 h10 r10⊢
  have x69:Ext fe H6 H9:=x68.trans f9.ex
  have x610:=x69.same s10
  have sc9:=fM.ext x69
  have nlpa:=sc9.no hlpa
  fail "R"
  refine iI (e:=ny) (φ:=fun p=>[dz p.2]) (fun σ=>∃x y,σ=[x,y]) h10 r10 (by omega) (fun _=>Nat.le_refl _) ⟨_,_,rfl⟩ ?_ ?_
  ·rintro p hp x _ H11 N s11 ⟨_,_,rfl⟩ rx kN
   obtain⟨xa,x1,x2,rfl,xsq,r1,r2⟩:=(show Rp K H11 (.t [.s p.1,dz p.2]) x from rx).t2
   fail "R"
   exact kN _ _ _ ⟨⟨_,_,rfl⟩,aI.refl _,.one r2⟩
  intro lw H11 ws s11 hlw h11 r11
  rw[iy (fun p:Str×Kk=>dz p.2),show(ps.map fun p=>dz p.2)=(ps.map (·.2)).map dz from by rw[List.map_map];rfl]at r11
  have x611:=x610.same s11
  have sc11:=fM.ext x611
  have nlw:=(fM.ext x610).no hlw
  have nlwd:=(fM.ext x610).nn hlw
  have h11k:=x611.1 _ _ nkf h6k
  have hf11:=x611.2
  have kn100:(kn kl).length<=100:=by omega
  have nlwx1:lw≠S.x1:=(au (x610.1 _ _ nx1f h6d) hlw).symm
  have nlwx2:lw≠S.x2:=(au (x610.1 _ _ nx2f h6o) hlw).symm
  fail "R"
  intro vg H12 kg x12 r12 o12 d12
  have d12':kg.dep<=1:=d12
  have x612:=x611.trans x12
  have sc12:=fM.ext x612
  have h12p:=x12.1 _ _ nlpa.1 (s11 _ _ h10)
  have h12w:=x12.1 _ _ nlw.1 h11
  have r12p:=(r10.same s11).kt (x12.kt hf11)
  have r12w:=r11.kt (x12.kt hf11)
  have ai:uG K H12 fe S kl lpa ps:=⟨⟨us,h12p,r12p⟩,nlpa.1,nlpa.2.1,nlpa.2.2,fun p hp=>⟨(o9 p hp).1,by have:=(o9 p hp).2;omega⟩,by omega⟩
  have d12'':kg.dep<=2:=by omega
  have lps8:ps.length<=8:=by omega
  fail "R"
  intro v13 H13 tm13 gs13 f13 sc13 r13 tk13 d13 z13
  have h13p:=f13.gJ nlpa.2.1 nlpa.2.2 nlpa.1 h12p
  have h13w:=f13.gJ nlw.2.1 nlw.2.2 nlw.1 h12w
  have r13p:=r12p.kt f13.kt
  have r13w:=r12w.kt f13.kt
  have rg13:=r12.kt f13.kt
  fail "R"
  refine .inl ⟨cy.of h13p,fun p14 hp14=>?_⟩
  have s14:=ae hp14 (.tup us)
  generalize upd H13 p14 (.tup us)=H14 at s14⊢
  have sc14:=sc13.same s14
  have h14p:=s14 _ _ h13p
  have h14w:=s14 _ _ h13w
  have r14p:=r13p.same s14
  have r14w:=r13w.same s14
  have rg14:=rg13.same s14
  have rt14:=r13.same s14
  have h14o:H14 S.x2=some (.lst (os.map V.int)):=s14 _ _ (f13.gJ m2.2.2.2.2.2.1 m2.2.2.2.2.2.2 nx2f (x612.1 _ _ nx2f h6o))
  have h14d:H14 S.x1=some (.lst vs):=s14 _ _ (f13.gJ m1.2.2.2.2.2.1 m1.2.2.2.2.2.2 nx1f (x612.1 _ _ nx1f h6d))
  have k614:Kt H6 H14:=((x612.kt hf6).trans f13.kt).trans (Kt.same s14)
  have hf14:=sc14.ff
  have nlpx2:lpa≠S.x2:=(au (x69.1 _ _ nx2f h6o) hlpa).symm
  fail "R"
  refine dX (K:=K) (xs:=us) (fun i9 σ ws9 H9=>(∃y z,σ=[y,z,some (.ref fe),some (.int 2),some (.ref S.x2)])/\HC K fe S.x2 H14 ps os i9 ws9 H9) ⟨⟨_,_,rfl⟩,⟨[],os,cP.refl hf14,.nil,rfl,h14o,los3,rfl,fun p h=>nomatch h⟩⟩ ?_ (small (by rw[r9.length,List.length_map];omega)) ?_ ?_ ?_
  ·rintro i9 σ ws9 H9 h9 ⟨_,⟨qs,os',_,r,e,_⟩⟩
   have:=congrArg List.length e
   rw[List.length_map,List.length_map,List.length_take]at this
   rw[r.length,List.length_map,this];exact Nat.min_le_left _ _
  ·rintro i9 σ ws9 H9 h9 ⟨_,⟨qs,os',f9,_⟩⟩
   exact cy.of (f9.gy nlpx2 nlpa.1 h14p)
  ·rintro i9 xv σ ws9 H9 hxv ⟨⟨_,_,rfl⟩,⟨qs,os',f9,r9',e9',h9o,l9o,el9,d9⟩⟩
   obtain⟨yv,hyv,ryv⟩:=r14p.get' hxv
   rw[List.getElem?_map]at hyv
   obtain⟨p9,hp9,rfl⟩:=Option.map_eq_some_iff.mp hyv
   obtain⟨xa,x1,x2,rfl,xsq,q1,q2⟩:=(show Rp K H9 (.t [.s p9.1,dz p9.2]) xv from ryv.kt f9.kt).t2
   obtain rfl:=q1.aF
   obtain⟨o9k,o9d⟩:=o9 p9 (List.mem_of_getElem? hp9)
   have hop:p9.2.kY=none:=Kk.yo o9k
   have hd3:p9.2.dep<3:=by omega
   have hf9:=f9.ff
   fail "R"
   intro v10 H10 k10 os10 f10 h10o r10' l10 e10 d10
   fail "R"
   intro p11 hp11
   have s11:=ae hp11 (.tup [.str p9.1,v10])
   have hil:=(List.getElem?_eq_some_iff.mp hp9).1
   fail "R"
   refine⟨qs++[(p9.1,k10)],os10,(f9.trans f10).same s11,?_,?_,s11 _ _ h10o,l10,?_,fun p hp=>(List.mem_append.mp hp).elim (d9 p) (fun h=>by rw[List.mem_singleton.mp h];show k10.dep<=1;omega)⟩
   ·rw[List.map_append]
    exact((r9'.kt f10.kt).same s11).snoc (Rp.new (K:=K) (xs:=[.s p9.1,dz k10]) hp11 (.cons .s (.one r10')))
   ·rw[List.map_append,e9',List.take_succ_eq_append_getElem hil,(List.getElem?_eq_some_iff.mp hp9).2,List.map_append]
    rfl
   ·rw[e10,el9,kI,List.length_append]
    have:(eo [(p9.1,k10)]).length=k10.kY.toList.length:=by unfold eo;rw[List.filterMap_cons];cases k10.kY<;>rfl
    omega
  rintro σ ws9 H15 ⟨_,⟨qs,os',f15,r15,e15,h15o,l15o,el15,d15⟩⟩ l16 hl16
  have lus:us.length=ps.length:=by rw[r9.length,List.length_map]
  rw[lus,List.take_length]at e15
  have lqs:qs.length=ps.length:=by have:=congrArg List.length e15;rw[List.length_map,List.length_map]at this;exact this
  have s16:=ae hl16 (.lst ws9)
  have h16:upd H15 l16 (.lst ws9) l16=some (.lst ws9):=af
  have r16:=r15.same s16
  generalize upd H15 l16 (.lst ws9)=H16 at s16 h16 r16⊢
  fail "R"
  refine .inl ⟨cy.of h16,fun p17 hp17=>?_⟩
  have s17:=ae hp17 (.tup ws9)
  have r17:=Rp.new (K:=K) hp17 r16
  generalize upd H16 p17 (.tup ws9)=H17 at s17 r17⊢
  have s1517:=s16.trans s17
  have f17:cP [S.x1,S.x2] fe H14 H17:=f15.more.same s1517
  have sc17:=sc14.Dr f17 m1 m2
  have h17o:=s1517 _ _ h15o
  have h17d:=s1517 _ _ (f15.gy ndo nx1f h14d)
  have h17w:=s1517 _ _ (f15.gy nlwx2 nlw.1 h14w)
  have k1417:Kt H14 H17:=f15.kt.trans (Kt.same s1517)
  have hgc:=sc17.get (rR S)
  have hlc:=sc17.lc
  have hi3:i<3:=by omega
  have hic:i<((xs.drop 18).take 3).length:=by rw[List.length_take,List.length_drop];omega
  obtain⟨nm,hnm⟩:∃nm,((xs.drop 18).take 3)[i]?=some nm:=⟨_,List.getElem?_eq_getElem hic⟩
  have hat:jC (((xs.drop 18).take 3).map V.str) (0+(i:Int))=some (.str nm):=by
   rw[Int.zero_add]
   exact cF (by rw[List.getElem?_map,hnm];rfl)
  fail "R"
  intro p18 hp18
  have s18:=ae hp18 (.tup [.str nm,.ref p17,v13])
  have r18:Rp K (upd H17 p18 (.tup [.str nm,.ref p17,v13])) (rP (nm,qs,tm13)) (.ref p18):=Rp.new (K:=K) (xs:=[.s nm,.t (qs.map ny),enc tm13]) hp18 (.cons .s (.cons r17 (.one (rt14.kt k1417))))
  have h18d:=s18 _ _ h17d
  have h18w:=s18 _ _ h17w
  have h18o:=s18 _ _ h17o
  have sc18:=sc17.same s18
  have k18:Kt H6 (upd H17 p18 (.tup [.str nm,.ref p17,v13])):=(k614.trans k1417).trans (Kt.same s18)
  have rw18:=(r14w.kt k1417).same s18
  have rg18:=(rg14.kt k1417).same s18
  have fa:cP [S.x1,S.x2,S.lg,S.la,S.ld] fe H6 (upd H17 p18 (.tup [.str nm,.ref p17,v13])):=by
   have a1:cP [S.x1,S.x2,S.lg,S.la,S.ld] fe H6 H14:=((Ext.Ae hf6 x612).trans (cP.sub f13 (fun z hz=>by simp only[List.mem_cons,List.not_mem_nil,or_false]at hz⊢;rcases hz with h|h<;>simp[h]))).same s14
   exact((a1.trans (cP.sub f15 (fun z hz=>by simp only[List.mem_cons,List.not_mem_nil,or_false]at hz⊢;simp[hz]))).same s1517).same s18
  generalize upd H17 p18 (.tup [.str nm,.ref p17,v13])=H18 at s18 r18 h18d h18w h18o sc18 k18 rw18 rg18 fa⊢
  have lvs:vs.length<sizeLine:=aZ (by rw[r6.length,List.length_map];omega)
  have f19:cP [S.x1,S.x2] fe H18 (upd H18 S.x1 (.lst (vs++[.ref p18]))):=(cP.refl sc18.ff).upd (.head _) nx1f h18d
  have sc19:=sc18.Dr f19 m1 m2
  have h19d:upd H18 S.x1 (.lst (vs++[.ref p18])) S.x1=some (.lst (vs++[.ref p18])):=af
  have h19w:upd H18 S.x1 (.lst (vs++[.ref p18])) lw=some (.lst ws):=by rw[ay nlwx1];exact h18w
  have h19o:upd H18 S.x1 (.lst (vs++[.ref p18])) S.x2=some (.lst (os'.map V.int)):=by rw[ay ndo.symm];exact h18o
  have fb:=fa.upd (o:=.lst (vs++[.ref p18])) (.head _) nx1f h18d
  have r19:=(r6.kt (k18.trans f19.kt)).snoc (r18.kt f19.kt)
  have rw19:=rw18.kt f19.kt
  have rg19:=rg18.kt f19.kt
  have hgc19:=sc19.get (rR S)
  have hlc19:=sc19.lc
  have hgd19:=sc19.get (tK S)
  obtain⟨dvs,hdv,dfs⟩:=sc19.ld
  have ldv:=dfs.len
  have ldvs:dvs.length<sizeLine:=aZ (by omega)
  fail "R"
  generalize upd H18 S.x1 (.lst (vs++[.ref p18]))=H19 at f19 sc19 h19d h19w h19o fb r19 rw19 rg19 hgc19 hlc19 hgd19 hdv dfs⊢
  intro p20 hp20
  have s20:=ae hp20 (.tup [.str nm,.ref lw,vg])
  have q20:=bx.of (K:=K) (show upd H19 p20 (.tup [.str nm,.ref lw,vg]) p20=some (.tup [.str nm,.ref lw,vg])from af)
  generalize upd H19 p20 (.tup [.str nm,.ref lw,vg])=H20 at s20 q20⊢
  have sc20:=sc19.same s20
  have hdv20:=s20 _ _ hdv
  have dfs20:=dfs.go (fun b ws _ h=>s20 _ _ h) (Kt.same s20)
  have hnn:lw∉S.nn fe:=by
   unfold i8.nn
   simp only[List.mem_cons,List.not_mem_nil,or_false,not_or]
   exact⟨nlw.1,nlw.2.1,nlwd.2.2.2.2.1,nlwx1,nlwx2⟩
  have da:vK K H20 (S.nn fe) (nm,ps.map (·.2),kg) (.ref p20):=⟨p20,lw,vg,ws,rfl,q20,s20 _ _ h19w,rw19.same s20,rg19.same s20,hnn⟩
  have okd:A1 (kn kl) (dl++[(nm,ps.map (·.2),kg)]):=by
   refine⟨by rw[List.length_append];show dl.length+1<=8;omega,fun dd hd=>?_⟩
   rcases List.mem_append.mp hd with h|h
   ·exact sc20.dl.2 dd h
   ·rw[List.mem_singleton.mp h]
    refine⟨by rw[List.length_map];exact lps,fun c hc=>?_,o12,d12''⟩
    obtain⟨p,hp,rfl⟩:=List.mem_map.mp hc
    exact⟨(o9 p hp).1,by have:=(o9 p hp).2;omega⟩
  have sc21:=sc20.Bc hdv20 dfs20 da okd
  have nld:=sc20.nf.2.2.2.2.1
  have nx1ld:S.x1≠S.ld:=m1.2.2.2.2.1
  have nx2ld:S.x2≠S.ld:=m2.2.2.2.2.1
  have k21:Kt H20 (upd H20 S.ld (.lst (dvs++[.ref p20]))):=Kt.lst hdv20 _
  have fc:=(fb.same s20).upd (o:=.lst (dvs++[.ref p20])) (by simp) nld hdv20
  have nklx:lk∉[S.x1,S.x2,S.lg,S.la,S.ld]:=by
   simp only[List.mem_cons,List.not_mem_nil,or_false,not_or]
   rw[e1,e2,e3]
   exact⟨nkd,nko,nkl.2.2.2.2.2.1,nkl.2.2.2.2.2.2,nkl.2.2.2.2.1⟩
  fail "R"
  refine⟨ds++[(nm,qs,tm13)],vs++[.ref p18],os',dl++[(nm,ps.map (·.2),kg)],gs13,f6.trans fc,sc21,?_,?_,by rw[List.length_append,lds];rfl,by rw[List.length_append,ldl];rfl,?_,?_,l15o,?_,fun dd hd=>?_⟩
  ·rw[ay nx1ld];exact s20 _ _ h19d
  ·rw[List.map_append];exact(r19.same s20).kt k21
  ·rw[ay nx2ld];exact s20 _ _ h19o
  ·rw[el15,los,nO,List.length_append]
   have:bh [(nm,qs,tm13)]=eo qs:=by unfold bh;simp
   rw[this]
  ·exact fc.oth lk _ nklx nkf h6k
  ·rcases List.mem_append.mp hd with h|h
   ·exact dok dd h
   ·rw[List.mem_singleton.mp h]
    exact⟨tk13,z13,d13,by show qs.length<=3;omega,d15⟩
 ·rintro σ H6 ⟨⟨w6,g6,_,_,_,_,rfl⟩,⟨ds,vs,os,dl,gs6,f6,fM,h6d,r6,lds,ldl,h6o,los,los3,h6k,dok⟩⟩
  have hgk6:=fM.get (iS S)
  fail "R"
  refine .inl ⟨cy.of h6d,fun p7 hp7=>?_⟩
  have s7:=ae hp7 (.tup vs)
  have r7:=Rp.new (K:=K) hp7 r6
  generalize upd H6 p7 (.tup vs)=H7 at s7 r7⊢
  fail "R"
  intro p8 hp8
  have s8:=ae hp8 (.tup [.ref S.kd,.ref p7])
  have r8:Rp K (upd H7 p8 (.tup [.ref S.kd,.ref p7])) (i0 (qC kl) ds) (.ref p8):=Rp.new (K:=K) hp8 (.cons (fM.kd.same s7) (.one r7))
  generalize upd H7 p8 (.tup [.ref S.kd,.ref p7])=H8 at s8 r8⊢
  fail "R"
  intro p9 hp9
  have s9:=ae hp9 (.tup [.ref p8,w6,g6])
  refine k p9 (.ref p8) w6 g6 _ ds ?_ af (r8.same s9) (by omega) (by omega) dok (by omega)
  have fz:=(((cP.refl sc0.ff).same s14).trans f6).same ((s7.trans s8).trans s9)
  rw[←e1,←e2,←e3]
  exact(fz.drop hdf0).drop hop0
end
noncomputable def uT(K:PySem.W.Frag):Sp:=fun vs H Q _=>∃(a:Addr) (ns:List Int),vs=[.ref a]/\cy K H a (ns.map V.int)/\ns.length<=63/\∀H',Q (.bl true) H'
structure oG(K:PySem.W.Frag) (H:Hp) (p1:Addr) (x:V):Prop where
 ex:∃(p lo:Addr) (vp:V) (kt:T) (es:List (Str×List (Str×Kk)×Tm)),x=.ref p/\bx K H p [vp,.ref lo]/\Rp K H (i0 kt es) vp/\H lo=some (.lst ((bh es).map V.int))/\lo≠p1/\es.length<=3/\(∀e∈es,tV e)/\∀x∈bh es,0<=x/\x<1000
theorem oG.same{K:PySem.W.Frag}{H H':Hp}{p1:Addr}{x:V}(h:oG K H p1 x)(s:aI H H'):oG K H' p1 x:=by
 obtain⟨p,lo,vp,kt,es,e,sq,r,hl,n,f⟩:=h.ex
 exact⟨p,lo,vp,kt,es,e,sq.same s,r.same s,s _ _ hl,n,f⟩
theorem oG.upd{K:PySem.W.Frag}{H:Hp}{p1:Addr}{x:V}{us:List V}(h:oG K H p1 x)(hp:H p1=some (.lst us))(o:HO):oG K (upd H p1 o) p1 x:=by
 obtain⟨p,lo,vp,kt,es,e,sq,r,hl,n,f⟩:=h.ex
 exact⟨p,lo,vp,kt,es,e,sq.kt (Kt.lst hp o),r.kt (Kt.lst hp o),by rw[ay n];exact hl,n,f⟩
structure LI(K:PySem.W.Frag) (H:Hp) (p1:Addr) (m:Nat) (H5:Hp):Prop where
 x:∃us,H5 p1=some (.lst us)/\us.length=m/\(∀u∈us,oG K H5 p1 u)/\aI H H5
section
variable {P:Program}{w:World}{K:PySem.W.Frag}{mg:Str->Option Value}{base:Heap}{gF gT gS gP gN gR:Addr}{ffd tfd sfd pfd nfd rfd:FuncData}
theorem eX:Nm ["_law_script","_law_asked","_law_k","_law_feed_here","_law_scene_here","_law_drawn"] (ak kh):=by decide +kernel
theorem nU:Lm ["_law_script","_law_asked","_law_k","_law_feed_here","_law_scene_here","_law_drawn"] (ak kh):=by decide +kernel
theorem lC:aN ["_law_script","_law_asked","_law_k","_law_feed_here","_law_scene_here","_law_drawn"] ["_law_script"] (ak kh):=⟨rfl,rfl,rfl,by decide +kernel,rfl,by decide +kernel,by decide +kernel⟩
theorem Bm{f:Addr}{fd:FuncData}{j js jn jr:Nat}(hj:1<=j)(h1:js<=j)(h2:jn<=j)(h3:jr<=j)(F:fJ K "law" "law" kh f fd)(FD:bS P w K mg base "_law_feed" 1 ["_law_script","_law_k"] (xn K) gF ffd)(TK:bS P w K mg base "_law_take" 1 ["_law_feed_here","_law_many"] dD gT tfd)(SN:bS P w K mg base "_law_scene" js ["_law_feed_here","_law_most_gaps"] (uH K) gS sfd)(PO:bS P w K mg base "_law_program_of" j ["_law_feed_here","_law_scene_here","_law_room","_law_hides"] (lK K) gP pfd)(NB:bS P w K mg base "_law_numbered" jn ["_law_feed_here","_law_program"] (nS K) gN nfd)(RI:bS P w K mg base "_law_right" jr ["_law_program","_law_opens"] (uS K) gR rfd)(z_range:mg "range"=none)(z_max:mg "max"=none)(z_len:mg "len"=none)(z_all:mg "all"=none):bT P w K mg base fk (j+1) f fd ["_law_script"] (uT K):=by
 refine F.ok lC (fun vs H Q E h=>?_) (fun cdv A outer s H vs Q E hr h=>?_)
 ·obtain⟨a,ns,rfl,_⟩:=h
  rfl
 obtain⟨a,ns,rfl,hS,hn,k⟩:=h
 refine⟨_,(Z5 (sa lC.nd nU 1 (bf ao)) (Z5 (Zi (Zo (Z1 (Z2 (jA rfl) z_max PyProof.Rows.boot_max (Z1 aj (Z1 (Z2 aB z_len PySem.boot_len (Z1 (cO fQ (va eX 0) dH (cf aj)) ao)) ao))) ao)) (ga lC.nd nU 2) (Z5 (Z4 lC.nd nU 3 (Z0 FD (Z1 (va eX 0) (Zb (va eX 2))))) (Z5 (Z4 lC.nd nU 4 (Z0 SN (Z1 (va eX 3) (Z1 (Z0 TK (cV (va eX 3) (Zb aj))) ao)))) (Z5 (Z4 lC.nd nU 5 (Zm aD (Z0 PO (Z1 (va eX 3) (Z1 (va eX 4) (Z1 (Zm bg (@bf _ _ _ _ (cV aj (Zb aj))) (Z0 TK (cV (va eX 3) (Zb aj)))) (Zb aj))))) aj)) (Zd (Zp (Z7 PySem.F.slot_list_append PySem.F.type_list_append bG (va eX 1) (Z1 (Z0 NB (Z1 (va eX 3) (Zb (va eX 5)))) ao)))))))) (Zd (Zq (Z2 (wU rfl) z_all PyProof.Rows.boot_all (Z1 (Z8 (ak kh) ["_law_script","_law_asked","_law_k","_law_feed_here","_law_scene_here","_law_drawn"] ["_law_program","_law_opens"] [] (@dw _ _ _ _ (Zn mU (va eX 1) (cO fQ (va eX 1) dH (cf aj)))) (fun _ _ _ _=>(Ze (2) (Zj (Z3 (i:=0) (show(["_law_program","_law_opens"]:List Str).Nodup by decide +kernel)) (aR (Z3 (i:=1) (show(["_law_program","_law_opens"]:List Str).Nodup by decide +kernel)) bz)))) (fun _ _ _ _=>(Z0 RI (Z1 (va (show Nm ["_law_program","_law_opens"] _ by show _=_;kernel_rfl) 0) (Zb (va (show Nm ["_law_program","_law_opens"] _ by show _=_;kernel_rfl) 1)))))) ao)))))),?_⟩
 try dsimp only[bU]
 try dsimp only[bU]
 fail "R"
 intro p1 hp1
 have s1:=ae hp1 (.lst [])
 have h1:upd H p1 (.lst []) p1=some (.lst []):=af
 generalize upd H p1 (.lst [])=H1 at s1 h1⊢
 have hS1:=s1.seq hS
 fail "R"
 intro p2 hp2
 rw[show(some (4:Int))=some ((4:Nat):Int)from rfl,iJ]
 have s2:=ae hp2 (.lst ((ns.map V.int).take 4))
 have h2:upd H1 p2 (.lst ((ns.map V.int).take 4)) p2=some (.lst ((ns.map V.int).take 4)):=af
 generalize upd H1 p2 (.lst ((ns.map V.int).take 4))=H2 at s2 h2⊢
 have h2':cy K H2 p2 ((ns.map V.int).take 4)\/bx K H2 p2 ((ns.map V.int).take 4):=.inl (cy.of h2)
 have l2:((ns.map V.int).take 4).length<=4:=by rw[List.length_take];omega
 generalize(ns.map V.int).take 4=ys at h2' l2 h2
 have hm:∃mx:Int,(if(ys.length:Int)>1 then(ys.length:Int)else 1)=mx/\0<=mx/\mx<=4:=by
  refine⟨_,rfl,?_⟩
  split<;>omega
 obtain⟨mx,emx,mx0,mx3⟩:=hm
 have s12:=s1.trans s2
 have h12:=s2 _ _ h1
 fail "R"
 rw[emx]
 fail "R"
 refine iz (n:=mx.toNat) (fun i σ H5=>(∃x2 x3 x4 x5,σ=[some (.ref a),some (.ref p1),x2,x3,x4,x5])/\LI K H p1 i H5) ⟨⟨_,_,_,_,rfl⟩,⟨[],h12,rfl,(fun u hu=>nomatch hu),s12⟩⟩ ?_ ?_
 ·rintro i σ H5 hi ⟨⟨x2,x3,x4,x5,rfl⟩,⟨us,h5,l5,d5,s5⟩⟩
  have hS5:=s5.seq hS
  have hi3:i<4:=by omega
  fail "R"
  intro r H6 s6 nr hf6
  fail "R"
  intro mo H7 mo0 mo1 x7
  have hf7:=x7.2
  have mo5:mo<=5:=by omega
  fail "R"
  intro d H8 S xs kl x8 emo sc8 nlg nla nld
  have hf8:=x8.2
  fail "R"
  intro lq hlq
  have s9:=ae hlq (.lst [.int 12,.int 40])
  have h9:upd H8 lq (.lst [.int 12,.int 40]) lq=some (.lst [.int 12,.int 40]):=af
  have nlq:lq≠r:=aY hf8 hlq
  generalize upd H8 lq (.lst [.int 12,.int 40])=H9 at s9 h9⊢
  have sc9:=sc8.same s9
  have hf9:=sc9.ff
  fail "R"
  intro q H10 q0 q1 x10
  have sc10:=sc9.ext x10
  have h10:=x10.1 _ _ nlq h9
  have hroom:∃room:Int,jC [V.int 12,.int 40] q=some (.int room)/\0<=room/\room<=1000:=by
   obtain e|e:q=0\/q=1:=by omega
   ·rw[e];exact⟨12,cF (j:=0) rfl,by decide,by decide⟩
   ·rw[e];exact⟨40,cF (j:=1) rfl,by decide,by decide⟩
  obtain⟨room,hat,rm0,rm1⟩:=hroom
  fail "R"
  intro p11 vp wv gv H11 ds f11 h11 r11 l1 l3 dok kg3
  have a0:=vF vp [wv,gv]
  have hf11:=f11.ff
  have sq11:bx K H11 p11 [vp,wv,gv]:=bx.of h11
  have x68:Ext r H6 H8:=x7.trans x8
  have x610:Ext r H6 H10:=(x68.same s9).trans x10
  have s511:aI H5 H11:=fun b o e=>by
   have nb:b≠r:=au e nr
   have e6:=s6 _ _ e
   have e7:=x7.1 _ _ nb e6
   have e10:=x610.1 _ _ nb e6
   refine f11.oth _ _ (fun z=>?_) nb e10
   simp only[List.mem_cons,List.not_mem_nil,or_false]at z
   rcases z with z|z|z
   ·rw[z,nlg]at e7;cases e7
   ·rw[z,nla]at e7;cases e7
   ·rw[z,nld]at e7;cases e7
  have h511:=s511 _ _ h5
  fail "R"
  intro p12 lo vq H12 es x12 hlo h12p r12 h12o l12 eok ebd
  have s512:aI H5 H12:=fun b o e=>x12.1 _ _ (au e nr) (s511 _ _ e)
  have h512:=s512 _ _ h5
  have nlo:lo≠p1:=(au h511 hlo).symm
  have lus:us.length<sizeLine:=aZ (by omega)
  fail "R"
  refine⟨us++[.ref p12],af,by rw[List.length_append,l5];rfl,fun u hu=>?_,(s5.trans s512).ow hp1 _⟩
  rcases List.mem_append.mp hu with h|h
  ·exact((d5 u h).same s512).upd h512 _
  ·rw[List.mem_singleton.mp h]
   exact oG.upd ⟨p12,lo,vq,_,es,rfl,bx.of h12p,r12,h12o,nlo,l12,eok,ebd⟩ h512 _
 ·rintro σ H5 ⟨⟨x2,x3,x4,x5,rfl⟩,⟨us,h5,l5,d5,s5⟩⟩
  have l5':us.length<=4:=by omega
  clear h2 h2' h12 s12 s2 hS1 s1 h1
  fail "R"
  intro p6 hp6
  rw[show(some (1:Int))=some ((1:Nat):Int)from rfl,iJ]
  have s6:=ae hp6 (.lst (us.take 1))
  have e6:=s6 _ _ h5
  have e6':upd H5 p6 (.lst (us.take 1)) p6=some (.lst (us.take 1)):=af
  have d6:∀u∈us,oG K (upd H5 p6 (.lst (us.take 1))) p1 u:=fun u h=>(d5 u h).same s6
  generalize upd H5 p6 (.lst (us.take 1))=H6 at s6 e6 e6' d6⊢
  have ll:us.length+(us.take 1).length<=sizeLine:=Nat.le_of_lt (aZ (by rw[List.length_take];omega))
  fail "R"
  intro p7 hp7
  have e7:upd H6 p7 (.lst (us++us.take 1)) p7=some (.lst (us++us.take 1)):=af
  have d7:∀u∈us++us.take 1,oG K (upd H6 p7 (.lst (us++us.take 1))) p1 u:=fun u h=>by
   have:u∈us:=by
    rcases List.mem_append.mp h with h|h
    ·exact h
    ·exact List.mem_of_mem_take h
   exact(d6 u this).same (ae hp7 _)
  have l7:(us++us.take 1).length<=8:=by rw[List.length_append,List.length_take];omega
  generalize upd H6 p7 (.lst (us++us.take 1))=H7 at e7 d7⊢
  generalize us++us.take 1=ws at e7 d7 l7
  clear s6 e6 e6' d6 ll hp6 hp7 h5 d5
  fail "R"
  refine dX (K:=K) (xs:=ws) (fun i σ vs H8=>(∃x y,σ=[x,y])/\aI H7 H8/\vs=(List.replicate i true).map V.bl) ⟨⟨_,_,rfl⟩,aI.refl _,rfl⟩ ?_ (Nat.le_of_lt (aZ (by omega))) ?_ ?_ ?_
  ·rintro i σ vs H8 h ⟨_,_,rfl⟩
   rw[List.length_map,List.length_replicate];exact Nat.le_refl _
  ·rintro i σ vs H8 h ⟨_,s8,_⟩
   exact cy.of (s8 _ _ e7)
  ·rintro i x σ vs H8 hx ⟨⟨_,_,rfl⟩,s8,rfl⟩
   obtain⟨p,lo,vp,kt,es,rfl,sq,r,hlo,nlo,l3,eok,ebd⟩:=((d7 x (List.mem_of_getElem? hx)).same s8).ex
   fail "R"
   intro H9 s9
   fail "R"
   ·exact s8.trans s9
   rw[List.replicate_succ',List.map_append]
   rfl
  ·rintro σ vs H8 ⟨_,s8,rfl⟩ p9 hp9
   have h9:upd H8 p9 (.lst ((List.replicate ws.length true).map V.bl)) p9=some (.lst ((List.replicate ws.length true).map V.bl)):=af
   generalize upd H8 p9 (.lst ((List.replicate ws.length true).map V.bl))=H9 at h9⊢
   fail "R"
   rw[show(List.replicate ws.length true).all id=true by rw[List.all_eq_true];intro x hx;rw[(List.mem_replicate.mp hx).2];rfl]
   exact k _
end
section
variable {P:Program}{w:World}{K:PySem.W.Frag}{mg:Str->Option Value}{base:Heap}{gT gE gG gN gL gA:Addr}{tfd efd gfd nfd lfd afd:FuncData}
theorem aq:Nm ["_law_feed_here","_law_scene_here","_law_around","_law_kind","_law_room","_law_down","_law_half","_law_goal","_law_one","_law_form","_law_many","_law_share","_law_tags","_law_t","_law_inner"] (ak eG):=by decide +kernel
theorem cU:Lm ["_law_feed_here","_law_scene_here","_law_around","_law_kind","_law_room","_law_down","_law_half","_law_goal","_law_one","_law_form","_law_many","_law_share","_law_tags","_law_t","_law_inner"] (ak eG):=by decide +kernel
theorem cM:aN ["_law_feed_here","_law_scene_here","_law_around","_law_kind","_law_room","_law_down","_law_half","_law_goal","_law_one","_law_form","_law_many","_law_share","_law_tags","_law_t","_law_inner"] ["_law_feed_here","_law_scene_here","_law_around","_law_kind","_law_room","_law_down"] (ak eG):=⟨rfl,rfl,rfl,by decide +kernel,rfl,by decide +kernel,by decide +kernel⟩
theorem zR{f:Addr}{fd:FuncData}{n j jg jl jk je:Nat}(hn:n<=10)(hj:1<=j)(h1:jg<=j)(h2:jl<=j)(h3:jk<=j)(h4:je<=j)(F:fJ K "_law_term" "_law_term" eG f fd)(TK:bS P w K mg base "_law_take" 1 ["_law_feed_here","_law_many"] dD gT tfd)(AK:bS P w K mg base "_law_any_kind" jk ["_law_feed_here","_law_known","_law_down"] (ee K 3) gA afd)(TG:bS P w K mg base "_law_tags_of" 1 ["_law_scene_here","_law_kind"] (iK K) gG gfd)(TE:bS P w K mg base "_law_term" je ["_law_feed_here","_law_scene_here","_law_around","_law_kind","_law_room","_law_down"] (lB K n) gE efd)(GN:bS P w K mg base "_law_generic" jg ["_law_feed_here","_law_scene_here","_law_around","_law_kind","_law_room","_law_down"] (pO K (n+1)) gN nfd)(LF:bS P w K mg base "_law_leaf" jl ["_law_feed_here","_law_scene_here","_law_around","_law_kind"] (qJ K) gL lfd)(z_len:mg "len"=none)(z_tuple:mg "tuple"=none)(z_max:mg "max"=none)(z_range:mg "range"=none):bT P w K mg base fk (j+1) f fd ["_law_feed_here","_law_scene_here","_law_around","_law_kind","_law_room","_law_down"] (lB K (n+1)):=by
 refine F.ok cM (fun vs H Q E h=>?_) (fun cdv A outer s H vs Q E hr h=>?_)
 ·obtain⟨_,_,_,_,_,_,_,_,_,_,_,_,_,rfl,_⟩:=h
  rfl
 obtain⟨fe,d,ar,vk,room,down,S,xs,kl,dl,gs,ps,kk,rfl,sc,ai,rk,ok,kdp,dn0,dn1,rm0,rm1,hpl,k⟩:=h
 refine⟨_,(Z5 (Zf (PW.pt (@qR _ _ _ _ _ _ _ (aM j0 (va aq 4) aj (bF _)) (@qR _ _ _ _ _ _ _ (aM j0 (va aq 5) aj (bF _)) (@pZ _ _ _ _ (Zc bJ (Z0 TK (cV (va aq 0) (Zb aj))) aj))))) (Zd (Zq (Z0 LF (Z1 (va aq 0) (Z1 (va aq 1) (Z1 (va aq 2) (Zb (va aq 3))))))))) (Z5 (Zf (Zc bJ (Z0 TK (cV (va aq 0) (Zb aj))) aj) (Zd (Zq (Z0 GN (Z1 (va aq 0) (Z1 (va aq 1) (Z1 (va aq 2) (Z1 (va aq 3) (Z1 (va aq 4) (Zb (va aq 5))))))))))) (Z5 (Z4 cM.nd cU 6 (Zn gM (aJ bu (va aq 4) aj) aj)) (Z5 (Zf (aM (tq hr.oi) (va aq 3) az (bF _)) (Z5 (Zf (Zc bJ (Z0 TK (cV (va aq 0) (Zb aj))) aj) (Z5 (Z4 cM.nd cU 7 (Z0 AK (Z1 (va aq 0) (Z1 (Z8 (ak eG) ["_law_feed_here","_law_scene_here","_law_around","_law_kind","_law_room","_law_down","_law_half","_law_goal","_law_one","_law_form","_law_many","_law_share","_law_tags","_law_t","_law_inner"] ["_law_name","_law_tags"] [] (@bX _ _ _ _ (Zg (va aq 1))) (fun _ _ _ _=>(Ze (2) (Zj (Z3 (i:=0) (show(["_law_name","_law_tags"]:List Str).Nodup by decide +kernel)) (aR (Z3 (i:=1) (show(["_law_name","_law_tags"]:List Str).Nodup by decide +kernel)) bz)))) (fun _ _ _ _=>(va (show Nm ["_law_name","_law_tags"] _ by show _=_;kernel_rfl) 0))) (Zb aj))))) (Zd (Zq (Zk (Z1 az (Z1 (Z0 TE (Z1 (va aq 0) (Z1 (va aq 1) (Z1 (va aq 2) (Z1 (Zk (Z1 az (Zb (va aq 7)))) (Z1 (aJ bu (va aq 4) aj) (Z1 (aJ bu (va aq 5) aj) ao))))))) ao))))))) (Z5 (Z4 cM.nd cU 8 (Z0 TE (Z1 (va aq 0) (Z1 (va aq 1) (Z1 (va aq 2) (Z1 az (Z1 (va aq 6) (Z1 (aJ bu (va aq 5) aj) ao)))))))) (Zd (Zq (Zk (Z1 az (Z1 (Zm qh az (Z0 TK (cV (va aq 0) (Zb aj)))) (Z1 (va aq 8) (Z1 (Z0 TE (Z1 (va aq 0) (Z1 (va aq 1) (Z1 (va aq 2) (Z1 az (Z1 (va aq 6) (Z1 (aJ bu (va aq 5) aj) ao))))))) ao)))))))))) (Z5 (Zf (Zc bJ (Za aD (va aq 3)) az) (Z5 (Z4 cM.nd cU 9 (Z0 TK (cV (va aq 0) (Zb aj)))) (Z5 (Zf (aM bJ (va aq 9) aj (bF _)) (Zd (Zq (Zk (Z1 az (Z1 (Z0 TE (Z1 (va aq 0) (Z1 (va aq 1) (Z1 (va aq 2) (Z1 (va aq 3) (Z1 (aJ bu (va aq 4) aj) (Z1 (aJ bu (va aq 5) aj) ao))))))) ao)))))) (Z5 (Zf (aM bJ (va aq 9) aj (bF _)) (Z5 (Z4 cM.nd cU 8 (Z0 TE (Z1 (va aq 0) (Z1 (va aq 1) (Z1 (va aq 2) (Z1 (Za (fg K rfl) (va aq 3)) (Z1 (va aq 6) (Z1 (aJ bu (va aq 5) aj) ao)))))))) (Zd (Zq (Zk (Z1 az (Z1 (va aq 8) (Z1 (Z0 TE (Z1 (va aq 0) (Z1 (va aq 1) (Z1 (va aq 2) (Z1 (va aq 3) (Z1 (va aq 6) (Z1 (aJ bu (va aq 5) aj) ao))))))) ao)))))))) (Z5 (Z4 cM.nd cU 10 (Z0 TK (cV (va aq 0) (Zb aj)))) (Z5 (Z4 cM.nd cU 11 (Zn gM (aJ bu (va aq 4) aj) (Z2 (jA rfl) z_max PyProof.Rows.boot_max (Z1 aj (Zb (va aq 10)))))) (Zd (Zq (Zk (Z1 az (Z1 (Z6 aL z_tuple PyProof.Rows.boot_tuple (Z1 (Z8 (ak eG) ["_law_feed_here","_law_scene_here","_law_around","_law_kind","_law_room","_law_down","_law_half","_law_goal","_law_one","_law_form","_law_many","_law_share","_law_tags","_law_t","_law_inner"] ["_law_k"] [0,1,2,3,5,11] (Zo (Zb (va aq 10))) (fun _ _ _ _=>(Z3 (i:=0) (show(["_law_k","_law_feed_here","_law_scene_here","_law_around","_law_kind","_law_down","_law_share"]:List Str).Nodup by decide +kernel))) (fun _ _ _ _=>(Z0 TE (Z1 (va (show Nm ["_law_k","_law_feed_here","_law_scene_here","_law_around","_law_kind","_law_down","_law_share"] _ by show _=_;kernel_rfl) 1) (Z1 (va (show Nm ["_law_k","_law_feed_here","_law_scene_here","_law_around","_law_kind","_law_down","_law_share"] _ by show _=_;kernel_rfl) 2) (Z1 (va (show Nm ["_law_k","_law_feed_here","_law_scene_here","_law_around","_law_kind","_law_down","_law_share"] _ by show _=_;kernel_rfl) 3) (Z1 (Za (fg K rfl) (va (show Nm ["_law_k","_law_feed_here","_law_scene_here","_law_around","_law_kind","_law_down","_law_share"] _ by show _=_;kernel_rfl) 4)) (Z1 (va (show Nm ["_law_k","_law_feed_here","_law_scene_here","_law_around","_law_kind","_law_down","_law_share"] _ by show _=_;kernel_rfl) 6) (Z1 (aJ bu (va (show Nm ["_law_k","_law_feed_here","_law_scene_here","_law_around","_law_kind","_law_down","_law_share"] _ by show _=_;kernel_rfl) 5) aj) ao))))))))) ao)) ao))))))))))) (Z5 (Z4 cM.nd cU 12 (Z0 TG (Z1 (va aq 1) (Zb (va aq 3))))) (Z5 (@jN _ _ _ _ _ _ (Zm aD (va aq 12) (Z0 TK (Z1 (va aq 0) (Z1 (Z2 aB z_len PySem.boot_len (Zb (va aq 12))) ao)))) (Ze (2) (Zj (ga cM.nd cU 13) (aR (ga cM.nd cU 14) bz))) (by rfl) (by rfl) (by rfl)) (Z5 (Z4 cM.nd cU 11 (Zn gM (aJ bu (va aq 4) aj) (Z2 (jA rfl) z_max PyProof.Rows.boot_max (Z1 aj (Z1 (Z2 aB z_len PySem.boot_len (Zb (va aq 14))) ao))))) (Zd (Zq (Zk (Z1 az (Z1 (va aq 13) (Z1 (Z6 aL z_tuple PyProof.Rows.boot_tuple (Z1 (Z8 (ak eG) ["_law_feed_here","_law_scene_here","_law_around","_law_kind","_law_room","_law_down","_law_half","_law_goal","_law_one","_law_form","_law_many","_law_share","_law_tags","_law_t","_law_inner"] ["_law_one"] [0,1,2,5,11] (bX (va aq 14)) (fun _ _ _ _=>(Z3 (i:=0) (show(["_law_one","_law_feed_here","_law_scene_here","_law_around","_law_down","_law_share"]:List Str).Nodup by decide +kernel))) (fun _ _ _ _=>(Z0 TE (Z1 (va (show Nm ["_law_one","_law_feed_here","_law_scene_here","_law_around","_law_down","_law_share"] _ by show _=_;kernel_rfl) 1) (Z1 (va (show Nm ["_law_one","_law_feed_here","_law_scene_here","_law_around","_law_down","_law_share"] _ by show _=_;kernel_rfl) 2) (Z1 (va (show Nm ["_law_one","_law_feed_here","_law_scene_here","_law_around","_law_down","_law_share"] _ by show _=_;kernel_rfl) 3) (Z1 (va (show Nm ["_law_one","_law_feed_here","_law_scene_here","_law_around","_law_down","_law_share"] _ by show _=_;kernel_rfl) 0) (Z1 (va (show Nm ["_law_one","_law_feed_here","_law_scene_here","_law_around","_law_down","_law_share"] _ by show _=_;kernel_rfl) 5) (Z1 (aJ bu (va (show Nm ["_law_one","_law_feed_here","_law_scene_here","_law_around","_law_down","_law_share"] _ by show _=_;kernel_rfl) 4) aj) ao))))))))) ao)) ao)))))))))))))),?_⟩
 try dsimp only[bU]
 try dsimp only[bU]
 have hpl2:ps.length+2*n<=40:=by omega
 have hff:=sc.ff
 have kdp1:kk.dep+n<=20:=by omega
 have kd6:kk.dep<=60:=by omega
 have kdp2:(dz kk).dep<=150:=Nat.le_trans (ic kk) (by omega)
 have Br:=sc.Br
 refine xq ?_
 intro N1 N2 N3 N4 N5 N6 N7 c1 c2 c3 c4 c5 c6 c7
 refine qv (fun b H1=>Ext fe H H1/\(b=false->4<=room/\1<=down)) (fun C hC=>?_) (fun H1 h1=>?_) (fun H1 h1=>?_)
 ·clear c1 c2 c3 c4 c5 c6 c7
  fail "R"
  refine ck (fun c=>?_) (fun c=>?_)
  ·exact hC true H ⟨Ext.refl hff,fun z=>nomatch z⟩
  fail "R"
  refine ck (fun c'=>?_) (fun c'=>?_)
  ·exact hC true H ⟨Ext.refl hff,fun z=>nomatch z⟩
  fail "R"
  intro r H1 r0 r1 x1
  fail "R"
  refine hC _ H1 ⟨x1,fun _=>?_⟩
  have e1:¬room<4:=fun z=>c (decide_eq_true z)
  have e2:¬down<1:=fun z=>c' (decide_eq_true z)
  omega
 ·clear c1 c2 c3 c4 c5 c6 c7
  have w1:Wk K fe d S xs kl dl H (n+3) [] [] gs H1:=(Wk.nil sc).ext h1.1
  have sc1:=w1.sc
  have ai1:=w1.mG ai
  have rk1:=w1.rp rk
  fail "R"
  intro v5 H5 tm5 g5 f5 sc5 r5 tk5 d5
  exact k v5 H5 tm5 g5 (w1.fr.trans f5) sc5 r5 tk5 (by omega)
 obtain⟨x1,h1⟩:=h1
 obtain⟨rm4,dn4⟩:=h1 rfl
 have w1:Wk K fe d S xs kl dl H (n+3) [] [] gs H1:=(Wk.nil sc).ext x1
 have hf1:=w1.sc.ff
 fail "R"
 intro r2 H2 r20 r21 x2
 have w2:=w1.ext x2
 have sc2:=w2.sc
 have ai2:=w2.mG ai
 have rk2:=w2.rp rk
 have hf2:=sc2.ff
 fail "R"
 refine ck (fun c=>?_) (fun c=>?_)
 ·clear c1 c2 c3 c4 c5 c6 c7
  fail "R"
  intro v5 H5 tm5 g5 f5 sc5 r5 tk5 d5
  exact k v5 H5 tm5 g5 (w2.fr.trans f5) sc5 r5 tk5 d5
 have ha0:-1<=(room-1) / 2:=by omega
 have ha1:(room-1) / 2<=1000:=by omega
 have dd0:0<=down-1:=by omega
 have dd1:down-1<n:=by omega
 have rr0:-1<=room-1:=by omega
 have rr1:room-1<=1000:=by omega
 have cont:∀(h:Hd) (v:V) (H':Hp) (ts:List Tm) (us:List V) (g':List Int),Wk K fe d S xs kl dl H (n+3) ts us g' H'->cD h ts.length=true/\A4 h->ts.length<=9->Rp K H' (eT h (ts.map enc)) v->Q v H':=fun h v H' ts us g' w' ar' l' r' =>
  k v H' (.mk h ts) g' w'.fr w'.sc (by rw[cZ];exact r') (w'.tok ar' l').1 (w'.tok ar' l').2
 have rN:Rp K H2 (T.s "num") (.str "num"):=.s
 have rN':Rp K H2 (dz .num) (.str "num"):=.s
 have oN:Kk.ok (kn kl) .num:=True.intro
 have dN:Kk.dep .num+n<=20:=by show 0+n<=20;omega
 have hgk:=sc2.get (iS S)
 obtain⟨ka,kvs,ek,ksq2,rks2⟩:=sc2.kd.aC
 cases ek
 fail "R"
 refine ck (fun c=>?_) (fun c=>?_)
 ·clear c1 c2 c3 c4 c5 c6 c7
  fail "R"
  intro r3 H3 r30 r31 x3
  have w3:=w2.ext x3
  have sc3:=w3.sc
  have hf3:=sc3.ff
  have ai3:=w3.mG ai
  have hgk3:=sc3.get (iS S)
  have ksq3:=ksq2.kt (x3.kt hf2)
  have rN3:Rp K H3 (dz .num) (.str "num"):=.s
  have knl3:(kn kl).length<=100:=by omega
  fail "R"
  refine ck (fun c2=>?_) (fun c2=>?_)
  ·fail "R"
   refine mH sc3 fun l4 H4 s4 hl4 h4=>?_
   have w4:=w3.same s4
   have hf4:=w4.sc.ff
   fail "R"
   intro v5 H5 k5 x5 r5 o5 d5
   have w5:=w4.ext x5
   fail "R"
   intro p6 hp6
   have s6:=ae hp6 (.tup [.str "row",v5])
   have r6:Rp K (upd H5 p6 (.tup [.str "row",v5])) (dz (.row k5)) (.ref p6):=Rp.new (K:=K) hp6 (.cons .s (.one r5))
   generalize upd H5 p6 (.tup [.str "row",v5])=H6 at s6 r6⊢
   have w6:=w5.same s6
   have fM:=w6.sc
   have ai6:=w6.mG ai
   have oR:Kk.ok (kn kl) (.row k5):=o5
   have dR:Kk.dep (.row k5)+n<=20:=by have:(0:Int).toNat=0:=rfl;show k5.dep+1+n<=20;omega
   fail "R"
   intro v7 H7 tm7 g7 f7 sc7 r7 tk7 d7
   have w7:=w6.snoc f7 sc7 r7 tk7 d7
   fail "R"
   intro p8 hp8
   have s8:=ae hp8 (.tup [.str "long",v7])
   exact cont .long _ _ _ _ _ (w7.same s8) ⟨rfl,True.intro⟩ (by show 1<=9;decide) (Rp.new (K:=K) hp8 (.cons .s w7.r))
  ·fail "R"
   intro v4 H4 tm4 g4 f4 sc4 r4 tk4 d4
   have w4:=w3.snoc f4 sc4 r4 tk4 d4
   have hf4:=sc4.ff
   fail "R"
   intro r5 H5 r50 r51 x5
   have w5:=w4.ext x5
   have sc5:=w5.sc
   have ai5:=w5.mG ai
   have rN5:Rp K H5 (dz .num) (.str "num"):=.s
   have l6:(Str.ofString "+-*:<=").length=6:=by decide +kernel
   obtain⟨cc,hc,_⟩:=atS (z:="+-*:<=") r50 (by rw[show(Str.length "+-*:<=")=6 from l6];exact r51)
   fail "R"
   intro v6 H6 tm6 g6 f6 fM r6 tk6 d6
   have w6:=w5.snoc f6 fM r6 tk6 d6
   fail "R"
   intro p8 hp8
   have s8:=ae hp8 (.tup [.str "op",.str ⟨#[cc]⟩,v4,v6])
   exact cont (.op ⟨#[cc]⟩) _ _ _ _ _ (w6.same s8) ⟨rfl,True.intro⟩ (by show 2<=9;decide) (Rp.new (K:=K) hp8 (.cons .s (.cons .s w6.r)))
 refine c4 _ _ ?_
 cases kk with
 |num=>exact absurd (decide_eq_true rfl) c
 |op n=>exact absurd ok id
 |row k2 =>
  obtain⟨va,v1,v2,rfl,vsq,g1,g2⟩:=(show Rp K H2 (.t [.s "row",dz k2]) vk from rk2).t2
  obtain rfl:=g1.aF
  obtain⟨_,_,ez,vsq0,g10⟩:=rk.aC
  cases ez
  have o2:k2.ok (kn kl):=ok
  have dk2:k2.dep+n<=20:=by have:Kk.dep (.row k2)=k2.dep+1:=rfl;omega
  clear c4 c5 c6 c7 c3 c2 c1
  fail "R"
  intro r3 H3 r30 r31 x3
  have w3:=w2.ext x3
  have sc3:=w3.sc
  have hf3:=sc3.ff
  have ai3:=w3.mG ai
  have rk3:=w3.rp rk
  have vsq3:=vsq.kt (x3.kt hf2)
  have g23:=g2.kt (x3.kt hf2)
  fail "R"
  refine ck (fun c2=>?_) (fun c2=>?_)
  ·fail "R"
   intro v7 H7 tm7 g7 f7 sc7 r7 tk7 d7
   have w7:=w3.snoc f7 sc7 r7 tk7 d7
   fail "R"
   intro p8 hp8
   have s8:=ae hp8 (.tup [.str "others",v7])
   exact cont .others _ _ _ _ _ (w7.same s8) ⟨rfl,True.intro⟩ (by show 1<=9;decide) (Rp.new (K:=K) hp8 (.cons .s w7.r))
  fail "R"
  refine ck (fun c3=>?_) (fun c3=>?_)
  ·fail "R"
   intro v7 H7 tm7 g7 f7 sc7 r7 tk7 d7
   have w7:=w3.snoc f7 sc7 r7 tk7 d7
   have ai7:=w7.mG ai
   have rk7:=w7.rp rk
   fail "R"
   intro v8 H8 tm8 g8 f8 sc8 r8 tk8 d8
   have w8:=w7.snoc f8 sc8 r8 tk8 d8
   fail "R"
   intro p9 hp9
   have s9:=ae hp9 (.tup [.str "more",v7,v8])
   exact cont .more _ _ _ _ _ (w8.same s9) ⟨rfl,True.intro⟩ (by show 2<=9;decide) (Rp.new (K:=K) hp9 (.cons .s w8.r))
  fail "R"
  intro m4 H4 m40 m41 x4
  have w4:=w3.ext x4
  have rmw:1<=(if m4>1 then m4 else 1):=by split<;>omega
  have rm6:-1<=(room-1) / (if m4>1 then m4 else 1):=by
   have:=Int.ediv_nonneg (a:=room-1) (b:=if m4>1 then m4 else 1) (by omega) (by omega)
   omega
  have rm7:(room-1) / (if m4>1 then m4 else 1)<=1000:=by
   have:=Int.ediv_le_self (a:=room-1) (if m4>1 then m4 else 1) (by omega)
   omega
  have vsq4:=vsq3.kt (x4.kt hf3)
  have g24:=g23.kt (x4.kt hf3)
  fail "R"
  refine gn (n:=m4.toNat) (fun i σ us H5=>(∃y,σ=[y,some (.ref fe),some (.ref d),some (.ref ar),some (.ref va),some (.int down),some (.int ((room-1) / (if m4>1 then m4 else 1)))])/\Kt H4 H5/\CI K fe d S xs kl dl H (n+3) i us H5) ⟨⟨_,rfl⟩,Kt.refl,⟨[],gs,w4,rfl⟩⟩ ?_ (small (by omega)) ?_ ?_
  ·rintro i σ us H5 hi ⟨_,_,⟨ts,g5,w5,e⟩⟩
   rw[w5.r.length,List.length_map,e];exact Nat.le_refl _
  ·rintro i σ us H5 hi ⟨⟨_,rfl⟩,k5,⟨ts,g5,w5,lts⟩⟩
   have vsq5:=vsq4.kt k5
   have g25:=g24.kt k5
   have sc5:=w5.sc
   have ai5:=w5.mG ai
   fail "R"
   intro v7 H7 tm7 g7 f7 sc7 r7 tk7 d7
   fail "R"
   ·exact k5.trans f7.kt
   exact⟨ts++[tm7],g7,w5.snoc f7 sc7 r7 tk7 d7,by rw[List.length_append,lts];rfl⟩
  ·rintro σ us6 H6 ⟨_,_,⟨ts,g6,w6,lts⟩⟩ p7 hp7
   have s7:=ae hp7 (.lst us6)
   have h7:upd H6 p7 (.lst us6) p7=some (.lst us6):=af
   have r7:=w6.r.same s7
   have w7:=w6.same s7
   generalize upd H6 p7 (.lst us6)=H7 at s7 h7 r7 w7⊢
   fail "R"
   refine .inl ⟨cy.of h7,fun p8 hp8=>?_⟩
   have s8:=ae hp8 (.tup us6)
   have r8:=Rp.new (K:=K) hp8 r7
   have w8:=w7.same s8
   generalize upd H7 p8 (.tup us6)=H8 at s8 r8 w8⊢
   fail "R"
   intro p9 hp9
   have s9:=ae hp9 (.tup [.str "row",.ref p8])
   exact cont .row _ _ _ _ _ (w8.same s9) ⟨rfl,True.intro⟩ (by omega) (Rp.new (K:=K) hp9 (.cons .s (.one r8)))
 |kd x =>
  obtain⟨va,v1,v2,rfl,vsq,g1,g2⟩:=(show Rp K H2 (.t [.s "kind",.s x]) vk from rk2).t2
  obtain rfl:=g1.aF
  have hx:x∈kn kl:=ok
  fail "R"
  intro v3 H3 k3 s3 hk3 ek3 r3
  obtain⟨i3,hi3⟩:=List.getElem?_of_mem hk3
  obtain⟨hq1,hq3,hqt⟩:=sc.ok.pt i3 k3 hi3
  have hil:i3<kl.length:=(List.getElem?_eq_some_iff.mp hi3).1
  obtain⟨ta,tvs,rfl,tsq,rts⟩:=r3.aC
  have lt3:=rts.length
  rw[List.length_map]at lt3
  have w3:=w2.same s3
  have hf3:=w3.sc.ff
  have tl0:(0:Int)<(tvs.length:Int):=by omega
  have tl1:(tvs.length:Int)<1073741824:=by omega
  have hor:cy K H3 ta tvs\/bx K H3 ta tvs:=.inr tsq
  fail "R"
  intro r4 H4 r40 r41 x4
  have w4:=w3.ext x4
  obtain⟨v4,hv4,_⟩:=iQ (xs:=tvs) r40 r41
  have hv4':tvs[r4.toNat]?=some v4:=by
   have:=cF (xs:=tvs) (j:=r4.toNat) (v:=tvs[r4.toNat]'(by omega)) (List.getElem?_eq_getElem (by omega))
   rw[show((r4.toNat:Nat):Int)=r4 by omega,hv4]at this
   rw[List.getElem?_eq_getElem (by omega)]
   exact this.symm
  obtain⟨t4,ht4,rt4⟩:=rts.get' hv4'
  rw[List.getElem?_map]at ht4
  obtain⟨tg,htg,rfl⟩:=Option.map_eq_some_iff.mp ht4
  obtain⟨ga,w5,w6,rfl,gsq,q1,q2⟩:=(show Rp K H4 (.t [.s tg.1,.t (tg.2.map dz)]) v4 from rt4.kt (x4.kt hf3)).t2
  obtain rfl:=q1.aF
  obtain⟨ia,ivs,rfl,isq,ris⟩:=q2.aC
  obtain⟨tl2,tok⟩:=hqt tg (List.mem_of_getElem? htg)
  have li:=ris.length
  rw[List.length_map]at li
  have tsq4:=tsq.kt (x4.kt hf3)
  have hor4:cy K H4 ia ivs\/bx K H4 ia ivs:=.inr isq
  have rmw:1<=(if(ivs.length:Int)>1 then(ivs.length:Int)else 1):=by split<;>omega
  have rm6:-1<=(room-1) / (if(ivs.length:Int)>1 then(ivs.length:Int)else 1):=by
   have:=Int.ediv_nonneg (a:=room-1) (b:=if(ivs.length:Int)>1 then(ivs.length:Int)else 1) (by omega) (by omega)
   omega
  have rm7:(room-1) / (if(ivs.length:Int)>1 then(ivs.length:Int)else 1)<=1000:=by
   have:=Int.ediv_le_self (a:=room-1) (if(ivs.length:Int)>1 then(ivs.length:Int)else 1) (by omega)
   omega
  fail "R"
  refine fB (K:=K) (xs:=ivs) (fun i σ us H5=>(∃y,σ=[y,some (.ref fe),some (.ref d),some (.ref ar),some (.int down),some (.int ((room-1) / (if(ivs.length:Int)>1 then(ivs.length:Int)else 1)))])/\Kt H4 H5/\CI K fe d S xs kl dl H (n+3) i us H5) ⟨⟨_,rfl⟩,Kt.refl,⟨[],gs,w4,rfl⟩⟩ ?_ (small (by omega)) ?_ ?_ ?_
  ·rintro i σ us H5 hi ⟨_,_,⟨ts,g5,w5,e⟩⟩
   rw[w5.r.length,List.length_map,e];exact Nat.le_refl _
  ·rintro i σ us H5 hi ⟨_,k5,_⟩
   exact isq.kt k5
  ·rintro i y σ us H5 hy ⟨⟨_,rfl⟩,k5,⟨ts,g5,w5,lts⟩⟩
   obtain⟨t6,ht6,rt6⟩:=ris.get' hy
   rw[List.getElem?_map]at ht6
   obtain⟨q6,hq6,rfl⟩:=Option.map_eq_some_iff.mp ht6
   obtain⟨oq1,dq⟩:=tok q6 (List.mem_of_getElem? hq6)
   have oq:q6.ok (kn kl):=Kk.qE (fun z hz=>by
    rw[←sc.ok.qF (Nat.le_of_lt hil)]at hz
    exact List.mem_of_mem_take hz) oq1
   have rt5:=rt6.kt k5
   have dq5:q6.dep+n<=20:=by omega
   have sc5:=w5.sc
   have ai5:=w5.mG ai
   fail "R"
   intro v7 H7 tm7 g7 f7 sc7 r7 tk7 d7
   fail "R"
   ·exact k5.trans f7.kt
   exact⟨ts++[tm7],g7,w5.snoc f7 sc7 r7 tk7 d7,by rw[List.length_append,lts];rfl⟩
  ·rintro σ us6 H6 ⟨_,_,⟨ts,g6,w6,lts⟩⟩ p7 hp7
   have s7:=ae hp7 (.lst us6)
   have h7:upd H6 p7 (.lst us6) p7=some (.lst us6):=af
   have r7:=w6.r.same s7
   have w7:=w6.same s7
   generalize upd H6 p7 (.lst us6)=H7 at s7 h7 r7 w7⊢
   fail "R"
   refine .inl ⟨cy.of h7,fun p8 hp8=>?_⟩
   have s8:=ae hp8 (.tup us6)
   have r8:=Rp.new (K:=K) hp8 r7
   have w8:=w7.same s8
   generalize upd H7 p8 (.tup us6)=H8 at s8 r8 w8⊢
   fail "R"
   intro p9 hp9
   have s9:=ae hp9 (.tup [.str "tag",.str tg.1,.ref p8])
   exact cont (.tag tg.1) _ _ _ _ _ (w8.same s9) ⟨rfl,True.intro⟩ (by omega) (Rp.new (K:=K) hp9 (.cons .s (.cons .s (.one r8))))
end
structure AI(K:PySem.W.Frag) (f d:Addr) (S:i8) (xs:List Str) (kl:Kl) (dl:List (Str×List Kk×Kk)) (H H4:Hp) (dp:Nat) (pa lt:Addr) (tvs:List V) (j:Nat) (H':Hp):Prop where
 x:∃(arms:List (Str×List Str)) (ts:List Tm) (us avs:List V) (gs:List Int),Wk K f d S xs kl dl H dp ts us gs H'/\H' pa=some (.lst avs)/\aO K H' (List.zipWith fq arms (ts.map enc)) avs/\arms.length=j/\ts.length=j/\H' lt=some (.lst tvs)/\Kt H4 H'
section
variable {P:Program}{w:World}{K:PySem.W.Frag}{mg:Str->Option Value}{base:Heap}{gT gB gE gG:Addr}{tfd bfd efd gfd:FuncData}
theorem bq:Nm ["_law_feed_here","_law_scene_here","_law_around","_law_kind","_law_goal","_law_share","_law_down","_law_tags","_law_arms_here","_law_t","_law_inner","_law_turn","_law_names_here","_law_more"] (ak gr):=by decide +kernel
theorem ef:Lm ["_law_feed_here","_law_scene_here","_law_around","_law_kind","_law_goal","_law_share","_law_down","_law_tags","_law_arms_here","_law_t","_law_inner","_law_turn","_law_names_here","_law_more"] (ak gr):=by decide +kernel
theorem dJ:aN ["_law_feed_here","_law_scene_here","_law_around","_law_kind","_law_goal","_law_share","_law_down","_law_tags","_law_arms_here","_law_t","_law_inner","_law_turn","_law_names_here","_law_more"] ["_law_feed_here","_law_scene_here","_law_around","_law_kind","_law_goal","_law_share","_law_down"] (ak gr):=⟨rfl,rfl,rfl,by decide +kernel,rfl,by decide +kernel,by decide +kernel⟩
theorem zS{f:Addr}{fd:FuncData}{n j:Nat}(hj:1<=j)(F:fJ K "_law_arms" "_law_arms" gr f fd)(TK:bS P w K mg base "_law_take" 1 ["_law_feed_here","_law_many"] dD gT tfd)(TG:bS P w K mg base "_law_tags_of" 1 ["_law_scene_here","_law_kind"] (iK K) gG gfd)(BD:bS P w K mg base "_law_bound" 1 ["_law_around","_law_more"] (mz K) gB bfd)(TE:bS P w K mg base "_law_term" j ["_law_feed_here","_law_scene_here","_law_around","_law_kind","_law_room","_law_down"] (lB K n) gE efd)(z_len:mg "len"=none)(z_list:mg "list"=none)(z_tuple:mg "tuple"=none)(z_zip:mg "zip"=none)(z_range:mg "range"=none):bT P w K mg base fk (j+1) f fd ["_law_feed_here","_law_scene_here","_law_around","_law_kind","_law_goal","_law_share","_law_down"] (yg K n):=by
 refine F.ok dJ (fun vs H Q E h=>?_) (fun cdv A outer s H vs Q E hr h=>?_)
 ·obtain⟨_,_,_,_,_,_,_,_,_,_,_,_,_,_,_,rfl,_⟩:=h
  rfl
 obtain⟨fe,d,ar,vk,vg,room,down,S,xs,kl,dl,gs,ps,kk,x,rfl,sc,ai,rk,ok,kdp,rg,hx,dn0,dn1,rm0,rm1,hpl,k⟩:=h
 refine⟨_,(Z5 (Z4 dJ.nd ef 7 (Z6 eA z_list PyProof.Rows.boot_list (Z1 (Z0 TG (Z1 (va bq 1) (Zb (va bq 4)))) ao))) (Z5 (Zf (Zc bJ (Z0 TK (cV (va bq 0) (Zb aj))) aj) (Zd (Z4 dJ.nd ef 7 (@o7 _ _ _ _ _ _ _ _ _ _ _ (va bq 7) dH dH (cf (lD ji aj)))))) (Z5 (sa dJ.nd ef 8 (bf ao)) (Z5 (Zi (dw (va bq 7)) (Ze (2) (Zj (ga dJ.nd ef 9) (aR (ga dJ.nd ef 10) bz))) (Z5 (Z4 dJ.nd ef 11 (Z0 TK (cV (va bq 0) (Zb aj)))) (Z5 (Zl (ak gr) ["_law_feed_here","_law_scene_here","_law_around","_law_kind","_law_goal","_law_share","_law_down","_law_tags","_law_arms_here","_law_t","_law_inner","_law_turn","_law_names_here","_law_more"] ["_law_j"] [1,11] (Zo (Z1 (Z2 aB z_len PySem.boot_len (Zb (va bq 10))) ao)) (fun _ _ _ _=>(Z3 (i:=0) (show(["_law_j","_law_scene_here","_law_turn"]:List Str).Nodup by decide +kernel))) (fun _ _ _ _=>(Zm (wX K rfl) (Zg (va (show Nm ["_law_j","_law_scene_here","_law_turn"] _ by show _=_;kernel_rfl) 1)) (Zn eu (aJ cJ (va (show Nm ["_law_j","_law_scene_here","_law_turn"] _ by show _=_;kernel_rfl) 2) (va (show Nm ["_law_j","_law_scene_here","_law_turn"] _ by show _=_;kernel_rfl) 0)) aj))) (ga dJ.nd ef 12)) (Z5 (Z4 dJ.nd ef 13 (Z0 BD (Z1 (va bq 2) (Z1 (se rfl (by show _=_;kernel_rfl) z_list (by show _=_;kernel_rfl) z_zip (Z1 (va bq 12) (Zb (va bq 10)))) ao)))) (Zd (Zp (Z7 PySem.F.slot_list_append PySem.F.type_list_append bG (va bq 8) (Z1 (Zk (Z1 (va bq 9) (Z1 (Z6 aL z_tuple PyProof.Rows.boot_tuple (Zb (va bq 12))) (Z1 (Z0 TE (Z1 (va bq 0) (Z1 (va bq 1) (Z1 (va bq 13) (Z1 (va bq 3) (Z1 (va bq 5) (Zb (va bq 6)))))))) ao)))) ao)))))))) (Zd (Zq (Z6 aL z_tuple PyProof.Rows.boot_tuple (Zb (va bq 8))))))))),?_⟩
 try dsimp only[bU]
 try dsimp only[bU]
 refine kq ?_
 intro N1 N2 N3 N4 c1 c2 c3 c4
 fail "R"
 intro v1 H1 k1 s1 hk1 ek1 r1
 obtain⟨i1,hi1⟩:=List.getElem?_of_mem hk1
 obtain⟨hq1,hq3,hqt⟩:=sc.ok.pt i1 k1 hi1
 have hil:i1<kl.length:=(List.getElem?_eq_some_iff.mp hi1).1
 have hqt2:∀t∈k1.2,t.2.length<=2/\∀c∈t.2,c.ok (kn kl)/\c.dep<=2:=fun t ht=>⟨(hqt t ht).1,fun c hc=>⟨Kk.qE (fun y hy=>by
  rw[←sc.ok.qF (Nat.le_of_lt hil)]at hy
  exact List.mem_of_mem_take hy) ((hqt t ht).2 c hc).1,((hqt t ht).2 c hc).2⟩⟩
 obtain⟨ta,tvs,rfl,tsq,rts⟩:=r1.aC
 have hor:cy K H1 ta tvs\/bx K H1 ta tvs:=.inr tsq
 have lt1:=rts.length
 rw[List.length_map]at lt1
 have w1:Wk K fe d S xs kl dl H (n+3) [] [] gs H1:=(Wk.nil sc).same s1
 fail "R"
 intro l2 hl2
 have s2:=ae hl2 (.lst tvs)
 have h2:upd H1 l2 (.lst tvs) l2=some (.lst tvs):=af
 generalize upd H1 l2 (.lst tvs)=H2 at s2 h2⊢
 have w2:=w1.same s2
 have n2:=sc.no (w1.new hl2)
 have rest:∀(l3:Addr) (H3:Hp) (tl:List (Str×List Kk)) (t3:List V),Wk K fe d S xs kl dl H (n+3) [] [] gs H3->H l3=none->H3 l3=some (.lst t3)->aO K H3 (tl.map kD) t3->tl.length<=3->(∀t∈tl,t.2.length<=2/\∀c∈t.2,c.ok (kn kl)/\c.dep<=2)->N2 [some (.ref fe),some (.ref d),some (.ref ar),some vk,some vg,some (.int room),some (.int down),some (.ref l3),none,none,none,none,none,none] H3:=by
  intro l3 H3 tl t3 w3 hl3 h3 r3 htl hto
  have lt3:=r3.length
  rw[List.length_map]at lt3
  have n3:=sc.no hl3
  fail "R"
  intro pa hpa
  have s4:=ae hpa (.lst [])
  have h4:upd H3 pa (.lst []) pa=some (.lst []):=af
  generalize upd H3 pa (.lst [])=H4 at s4 h4⊢
  have w4:=w3.same s4
  have hpa0:=w3.new hpa
  have h43:=s4 _ _ h3
  have npl:l3≠pa:=au h3 hpa
  fail "R"
  refine qU (K:=K) (xs:=t3) (fun j σ H5=>(∃a b c e g,σ=[some (.ref fe),some (.ref d),some (.ref ar),some vk,some vg,some (.int room),some (.int down),some (.ref l3),some (.ref pa),a,b,c,e,g])/\AI K fe d S xs kl dl H H4 (n+3) pa l3 t3 j H5) ⟨⟨_,_,_,_,_,rfl⟩,⟨[],[],[],[],gs,w4,h4,.nil,rfl,rfl,h43,Kt.refl⟩⟩ ?_ ?_ ?_
  ·rintro j σ H5 hj ⟨_,⟨_,_,_,_,_,_,_,_,_,_,h,_⟩⟩
   exact cy.of h
  ·rintro j xv σ H5 hxv ⟨⟨_,_,_,_,_,rfl⟩,⟨arms,ts,us,avs,g5,w5,hav,rav,la,lt,h5l,k45⟩⟩
   obtain⟨yv,hyv,ryv⟩:=r3.get' hxv
   rw[List.getElem?_map]at hyv
   obtain⟨o,ho,rfl⟩:=Option.map_eq_some_iff.mp hyv
   obtain⟨ol,ook⟩:=hto o (List.mem_of_getElem? ho)
   have k35:Kt H3 H5:=(Kt.same s4).trans k45
   obtain⟨oa,o1,o2,rfl,osq,ro1,ro2⟩:=(show Rp K H5 (.t [.s o.1,.t (o.2.map dz)]) xv from ryv.kt k35).t2
   obtain rfl:=ro1.aF
   obtain⟨ob,ovs,rfl,bsq,rovs⟩:=ro2.aC
   have lo:=rovs.length
   rw[List.length_map]at lo
   have hf5:=w5.sc.ff
   have jlt:j<t3.length:=(List.getElem?_eq_some_iff.mp hxv).1
   fail "R"
   intro tn H6 tn0 tn1 x6
   have w6:=w5.ext x6
   have k56:=x6.kt hf5
   have bsq6:=bsq.kt k56
   have hlo:cy K H6 ob ovs\/bx K H6 ob ovs:=.inr bsq6
   fail "R"
   refine gn (n:=((ovs.length:Nat):Int).toNat) (fun i7 σ us7 H7=>(∃y,σ=[y,some (.ref d),some (.int tn)])/\H7=H6/\∃L:List Str,us7=L.map V.str/\L.length=i7) ⟨⟨_,rfl⟩,rfl,[],rfl,rfl⟩ ?_ (small (by omega)) ?_ ?_
   ·rintro i7 σ us7 H7 h ⟨_,_,L,rfl,e⟩
    rw[List.length_map,e];exact Nat.le_refl _
   ·rintro i7 σ us7 H7 hi7 ⟨⟨_,rfl⟩,rfl,L,rfl,e⟩
    have hg:=w6.sc.get (mw S)
    have hln:=w6.sc.ln
    obtain⟨y,hy⟩:=w6.sc.name (r:=(tn+(0+(i7:Int))) % 5) (by omega) (by omega)
    fail "R"
    ·exact(show _=(L++[y]).map V.str by rw[List.map_append];rfl)
    rw[List.length_append,e];rfl
   rintro σ us7 H7 ⟨_,rfl,L,rfl,e7⟩ p7 hp7
   have s7:=ae hp7 (.lst (L.map V.str))
   have h7:upd H7 p7 (.lst (L.map V.str)) p7=some (.lst (L.map V.str)):=af
   generalize upd H7 p7 (.lst (L.map V.str))=H8 at s7 h7⊢
   have hb1:nZ K false H8 p7 (L.map V.str):=cy.of h7
   have hb2:nZ K true H8 ob ovs:=bsq6.same s7
   have lns:L.length=o.2.length:=by omega
   have np7:=w6.sc.no hp7
   fail "R"
   intro l8 ts8 H9 z8 hl8 h8
   have s8:aI H8 H9:=z8.1
   have w9:=(w6.same s7).same s8
   have a9:=w9.mG ai
   have aa9:=a9.aa
   have hz9:rV K H9 l8 (L.zip o.2):=⟨_,h8,vQ lns z8 ((rovs.kt k56).same s7)⟩
   have lz:(L.zip o.2).length<=2:=by rw[List.length_zip];omega
   fail "R"
   intro p10 H10 s10 hp10 a10
   have w10:=w9.same s10
   have a11:=a9.near (H6:=H10) w9.sc (fun q hq=>by
    obtain⟨q1,q2⟩:=List.of_mem_zip (show(q.1,q.2)∈L.zip o.2 from hq)
    exact⟨(ook _ q2).1,by have:=(ook _ q2).2;omega⟩) (by omega) hp10 a10
   have rk10:=w10.rp rk
   have h10:=s10 _ _ (s8 _ _ h7)
   have hav10:=s10 _ _ (s8 _ _ (s7 _ _ (x6.1 _ _ (sc.no hpa0).1 hav)))
   have hn10:=kG ps (L.zip o.2)
   fail "R"
   refine .inl ⟨cy.of h10,fun p11 hp11=>?_⟩
   have s11:=ae hp11 (.tup (L.map V.str))
   have r11:=Rp.new (K:=K) hp11 (aO.strs L)
   generalize upd H10 p11 (.tup (L.map V.str))=H11 at s11 r11⊢
   have w11:=w10.same s11
   have a12:=a11.Ae (w10.sc.vN.same s11)
   have rk11:=w11.rp rk
   have hav11:=s11 _ _ hav10
   have sc11:=w11.sc
   have hpl12:(kE ps (L.zip o.2)).length+2*n<=40:=by omega
   fail "R"
   intro v12 H12 tm12 g12 f12 sc12 r12 tk12 d12
   have w12:=w11.snoc f12 sc12 r12 tk12 d12
   have hav12:=f12.gJ (sc.no hpa0).2.1 (sc.no hpa0).2.2 (sc.no hpa0).1 hav11
   fail "R"
   intro p13 hp13
   have s13:=ae hp13 (.tup [.str o.1,.ref p11,v12])
   have r13:=Rp.new (K:=K) (xs:=[.s o.1,.t (L.map .s),enc tm12]) hp13 (.cons .s (.cons (r11.kt f12.kt) (.one r12)))
   generalize upd H12 p13 (.tup [.str o.1,.ref p11,v12])=H13 at s13 r13⊢
   have w13:=w12.same s13
   have hav13:=s13 _ _ hav12
   have k513:Kt H5 H13:=(((((k56.trans (Kt.same s7)).trans (Kt.same s8)).trans (Kt.same s10)).trans (Kt.same s11)).trans f12.kt).trans (Kt.same s13)
   have lav:=rav.length
   rw[List.length_zipWith,List.length_map]at lav
   have lav2:avs.length<sizeLine:=aZ (by omega)
   have k13:Kt H13 (upd H13 pa (.lst (avs++[.ref p13]))):=Kt.lst hav13 _
   have h13l:H13 l3=some (.lst t3):=s13 _ _ (f12.gJ n3.2.1 n3.2.2 n3.1 (s11 _ _ (s10 _ _ (s8 _ _ (s7 _ _ (x6.1 _ _ n3.1 h5l))))))
   fail "R"
   refine⟨arms++[(o.1,L)],ts++[tm12],us++[v12],avs++[.ref p13],g12,w13.put sc hpa0 hav13,af,?_,by rw[List.length_append,la];rfl,by rw[List.length_append,lt];rfl,by rw[ay npl];exact h13l,(k45.trans k513).trans k13⟩
   rw[List.map_append]
   rw[show List.map enc [tm12]=[enc tm12]from rfl,sf _ _ (by rw[List.length_map,la,lt])]
   exact((rav.kt k513).kt k13).snoc (r13.kt k13)
  ·rintro σ H5 ⟨⟨_,_,_,_,_,rfl⟩,⟨arms,ts,us,avs,g5,w5,hav,rav,la,lt,h5l,k45⟩⟩
   fail "R"
   refine .inl ⟨cy.of hav,fun p6 hp6=>?_⟩
   have s6:=ae hp6 (.tup avs)
   have w6:=w5.same s6
   exact k _ _ arms ts g5 w6.fr w6.sc (Rp.new (K:=K) hp6 rav) (by omega) (by omega) w6.ok
 have hf2:=w2.sc.ff
 clear c2 c3 c4
 fail "R"
 intro r3 H3 r30 r31 x3
 have w3:=w2.ext x3
 have h3:=x3.1 _ _ n2.1 h2
 have rt3:=(rts.same s2).kt (x3.kt hf2)
 fail "R"
 refine ck (fun c=>?_) (fun c=>?_)
 ·fail "R"
  ·rw[kc,List.length_reverse];exact small (by omega)
  intro l4 hl4
  rw[kc]
  have s4:=ae hl4 (.lst tvs.reverse)
  have h4:upd H3 l4 (.lst tvs.reverse) l4=some (.lst tvs.reverse):=af
  generalize upd H3 l4 (.lst tvs.reverse)=H4 at s4 h4⊢
  fail "R"
  refine rest l4 H4 k1.2.reverse tvs.reverse (w3.same s4) (w3.new hl4) h4 ?_ (by rw[List.length_reverse];exact hq3) (fun t ht=>hqt2 t (List.mem_reverse.mp ht))
  rw[List.map_reverse]
  exact(rt3.same s4).reverse
 ·fail "R"
  exact rest l2 H3 k1.2 tvs w3 (w1.new hl2) h3 rt3 hq3 hqt2
end
noncomputable def pR:Kk->Prop
 |.row k2=>dz k2≠T.s "num"
 |_=>False
section
variable {P:Program}{w:World}{K:PySem.W.Frag}{mg:Str->Option Value}{base:Heap}{gT gB gE gG gA gL:Addr}{tfd bfd efd gfd afd lfd:FuncData}
theorem ah:Nm ["_law_feed_here","_law_scene_here","_law_around","_law_kind","_law_room","_law_down","_law_form","_law_share","_law_x","_law_goal","_law_one","_law_more","_law_test","_law_y","_law_rows","_law_begin","_law_some","_law_f","_law_wants","_law_terms"] (ak cG):=by decide +kernel
theorem aK:Lm ["_law_feed_here","_law_scene_here","_law_around","_law_kind","_law_room","_law_down","_law_form","_law_share","_law_x","_law_goal","_law_one","_law_more","_law_test","_law_y","_law_rows","_law_begin","_law_some","_law_f","_law_wants","_law_terms"] (ak cG):=by decide +kernel
theorem aH:aN ["_law_feed_here","_law_scene_here","_law_around","_law_kind","_law_room","_law_down","_law_form","_law_share","_law_x","_law_goal","_law_one","_law_more","_law_test","_law_y","_law_rows","_law_begin","_law_some","_law_f","_law_wants","_law_terms"] ["_law_feed_here","_law_scene_here","_law_around","_law_kind","_law_room","_law_down"] (ak cG):=⟨rfl,rfl,rfl,by decide +kernel,rfl,by decide +kernel,by decide +kernel⟩
theorem tW{f:Addr}{fd:FuncData}{n j ja jl jk je:Nat}(hn:n<=10)(hj:1<=j)(h1:ja<=j)(h2:jl<=j)(h3:jk<=j)(h4:je<=j)(F:fJ K "_law_generic" "_law_generic" cG f fd)(TK:bS P w K mg base "_law_take" 1 ["_law_feed_here","_law_many"] dD gT tfd)(AK:bS P w K mg base "_law_any_kind" jk ["_law_feed_here","_law_known","_law_down"] (ee K 3) gG gfd)(BD:bS P w K mg base "_law_bound" 1 ["_law_around","_law_more"] (mz K) gB bfd)(TE:bS P w K mg base "_law_term" je ["_law_feed_here","_law_scene_here","_law_around","_law_kind","_law_room","_law_down"] (lB K n) gE efd)(AR:bS P w K mg base "_law_arms" ja ["_law_feed_here","_law_scene_here","_law_around","_law_kind","_law_goal","_law_share","_law_down"] (yg K n) gA afd)(LF:bS P w K mg base "_law_leaf" jl ["_law_feed_here","_law_scene_here","_law_around","_law_kind"] (qJ K) gL lfd)(z_len:mg "len"=none)(z_tuple:mg "tuple"=none)(z_max:mg "max"=none):bT P w K mg base fk (j+1) f fd ["_law_feed_here","_law_scene_here","_law_around","_law_kind","_law_room","_law_down"] (pO K (n+1)):=by
 refine F.ok aH (fun vs H Q E h=>?_) (fun cdv A outer s H vs Q E hr h=>?_)
 ·obtain⟨_,_,_,_,_,_,_,_,_,_,_,_,_,rfl,_⟩:=h
  rfl
 obtain⟨fe,d,ar,vk,room,down,S,xs,kl,dl,gs,ps,kk,rfl,sc,ai,rk,ok,kdp,dn0,dn1,rm0,rm1,hpl,k⟩:=h
 refine⟨_,(Z5 (Z4 aH.nd aK 6 (Z0 TK (cV (va ah 0) (Zb aj)))) (Z5 (Z4 aH.nd aK 7 (Zn gM (aJ bu (va ah 4) aj) aj)) (Z5 (Z4 aH.nd aK 8 (Zm bg (Zg (va ah 1)) (Z0 TK (cV (va ah 0) (Zb aj))))) (Z5 (Zf (aM bJ (va ah 6) aj (bF _)) (Z5 (Z4 aH.nd aK 9 (Z0 AK (Z1 (va ah 0) (Z1 (Z8 (ak cG) ["_law_feed_here","_law_scene_here","_law_around","_law_kind","_law_room","_law_down","_law_form","_law_share","_law_x","_law_goal","_law_one","_law_more","_law_test","_law_y","_law_rows","_law_begin","_law_some","_law_f","_law_wants","_law_terms"] ["_law_name","_law_tags"] [] (@bX _ _ _ _ (Zg (va ah 1))) (fun _ _ _ _=>(Ze (2) (Zj (Z3 (i:=0) (show(["_law_name","_law_tags"]:List Str).Nodup by decide +kernel)) (aR (Z3 (i:=1) (show(["_law_name","_law_tags"]:List Str).Nodup by decide +kernel)) bz)))) (fun _ _ _ _=>(va (show Nm ["_law_name","_law_tags"] _ by show _=_;kernel_rfl) 0))) (Zb aj))))) (Z5 (Z4 aH.nd aK 10 (Z0 TE (Z1 (va ah 0) (Z1 (va ah 1) (Z1 (va ah 2) (Z1 (va ah 9) (Z1 (va ah 7) (Z1 (aJ bu (va ah 5) aj) ao)))))))) (Z5 (Z4 aH.nd aK 11 (Z0 BD (Z1 (va ah 2) (Z1 (@bf _ _ _ _ (Z1 (Zk (Z1 (va ah 8) (Zb (va ah 9)))) ao)) ao)))) (Zd (Zq (Zk (Z1 az (Z1 (va ah 8) (Z1 (va ah 10) (Z1 (Z0 TE (Z1 (va ah 0) (Z1 (va ah 1) (Z1 (va ah 11) (Z1 (va ah 3) (Z1 (va ah 7) (Z1 (aJ bu (va ah 5) aj) ao))))))) ao))))))))))) (Z5 (Zf (PW.pt (@qR _ _ _ _ _ _ _ (aM bJ (va ah 6) aj (bF _)) (@pZ _ _ _ _ (PW.pt (@bW _ _ _ _ _ _ _ (aM bJ (va ah 6) aj (bF _)) (@cE _ _ _ _ (Zc bJ (Z2 aB z_len PySem.boot_len (Z1 (Zg (va ah 1)) ao)) aj))))))) (Z5 (Z4 aH.nd aK 12 (Z0 TE (Z1 (va ah 0) (Z1 (va ah 1) (Z1 (va ah 2) (Z1 az (Z1 (va ah 7) (Z1 (aJ bu (va ah 5) aj) ao)))))))) (Z5 (Z4 aH.nd aK 10 (Z0 TE (Z1 (va ah 0) (Z1 (va ah 1) (Z1 (va ah 2) (Z1 (va ah 3) (Z1 (va ah 7) (Z1 (aJ bu (va ah 5) aj) ao)))))))) (Zd (Zq (Zk (Z1 az (Z1 (va ah 12) (Z1 (va ah 10) (Z1 (Z0 TE (Z1 (va ah 0) (Z1 (va ah 1) (Z1 (va ah 2) (Z1 (va ah 3) (Z1 (va ah 7) (Z1 (aJ bu (va ah 5) aj) ao))))))) ao)))))))))) (Z5 (Zf (aM bJ (va ah 6) aj (bF _)) (Z5 (Z4 aH.nd aK 9 (Zk (Z1 az (Z1 (Zm aD (Zm aD (Zg (va ah 1)) (Z0 TK (Z1 (va ah 0) (Z1 (Z2 aB z_len PySem.boot_len (Z1 (Zg (va ah 1)) ao)) ao)))) aj) ao)))) (Z5 (Z4 aH.nd aK 10 (Z0 TE (Z1 (va ah 0) (Z1 (va ah 1) (Z1 (va ah 2) (Z1 (va ah 9) (Z1 (va ah 7) (Z1 (aJ bu (va ah 5) aj) ao)))))))) (Zd (Zq (Zk (Z1 az (Z1 (va ah 10) (Z1 (Z0 AR (Z1 (va ah 0) (Z1 (va ah 1) (Z1 (va ah 2) (Z1 (va ah 3) (Z1 (va ah 9) (Z1 (Zn gM (aJ bu (va ah 4) aj) aj) (Z1 (aJ bu (va ah 5) aj) ao)))))))) ao))))))))) (Z5 (Zf (aM bJ (va ah 6) aj (bF _)) (Z5 (Z4 aH.nd aK 9 (Z0 AK (Z1 (va ah 0) (Z1 (Z8 (ak cG) ["_law_feed_here","_law_scene_here","_law_around","_law_kind","_law_room","_law_down","_law_form","_law_share","_law_x","_law_goal","_law_one","_law_more","_law_test","_law_y","_law_rows","_law_begin","_law_some","_law_f","_law_wants","_law_terms"] ["_law_name","_law_tags"] [] (@bX _ _ _ _ (Zg (va ah 1))) (fun _ _ _ _=>(Ze (2) (Zj (Z3 (i:=0) (show(["_law_name","_law_tags"]:List Str).Nodup by decide +kernel)) (aR (Z3 (i:=1) (show(["_law_name","_law_tags"]:List Str).Nodup by decide +kernel)) bz)))) (fun _ _ _ _=>(va (show Nm ["_law_name","_law_tags"] _ by show _=_;kernel_rfl) 0))) (Zb aj))))) (Z5 (Z4 aH.nd aK 13 (Zm bg (Zg (va ah 1)) aj)) (Z5 (Z4 aH.nd aK 14 (Z0 TE (Z1 (va ah 0) (Z1 (va ah 1) (Z1 (va ah 2) (Z1 (Zk (Z1 az (Zb (va ah 9)))) (Z1 (va ah 7) (Z1 (aJ bu (va ah 5) aj) ao)))))))) (Z5 (Z4 aH.nd aK 15 (Z0 TE (Z1 (va ah 0) (Z1 (va ah 1) (Z1 (va ah 2) (Z1 (va ah 3) (Z1 (va ah 7) (Z1 (aJ bu (va ah 5) aj) ao)))))))) (Z5 (Z4 aH.nd aK 11 (Z0 BD (Z1 (va ah 2) (Z1 (@bf _ _ _ _ (Z1 (Zk (Z1 (va ah 8) (Zb (va ah 9)))) (Z1 (Zk (Z1 (va ah 13) (Zb (va ah 3)))) ao))) ao)))) (Zd (Zq (Zk (Z1 az (Z1 (va ah 14) (Z1 (va ah 8) (Z1 (va ah 13) (Z1 (va ah 15) (Z1 (Z0 TE (Z1 (va ah 0) (Z1 (va ah 1) (Z1 (va ah 11) (Z1 (va ah 3) (Z1 (va ah 7) (Z1 (aJ bu (va ah 5) aj) ao))))))) ao))))))))))))))) (Z5 (@ni _ _ _ _ _ _ _ _ _ _ _ _ _ _ _ (ak cG) ["_law_feed_here","_law_scene_here","_law_around","_law_kind","_law_room","_law_down","_law_form","_law_share","_law_x","_law_goal","_law_one","_law_more","_law_test","_law_y","_law_rows","_law_begin","_law_some","_law_f","_law_wants","_law_terms"] ["_law_one"] [3] rfl rfl rfl (by decide +kernel) (@dw _ _ _ _ (Zg (va ah 1))) (fun _ _ _ _=>(Z3 (i:=0) (show(["_law_one","_law_kind"]:List Str).Nodup by decide +kernel))) (fun _ _ _ _=>(@iD _ _ _ (Zc (uB K rfl hr.oi) (Za (fg K rfl) (va (show Nm ["_law_one","_law_kind"] _ by show _=_;kernel_rfl) 0)) (va (show Nm ["_law_one","_law_kind"] _ by show _=_;kernel_rfl) 1)))) (fun _ _ _ _=>(va (show Nm ["_law_one","_law_kind"] _ by show _=_;kernel_rfl) 0)) (ga aH.nd aK 16) (by kernel_rfl) (by intro _;rfl)) (Z5 (Zf (PW.pt (@bW _ _ _ _ _ _ _ (aM bJ (va ah 6) aj (bF _)) (@cE _ _ _ _ (Zc iX (Z2 aB z_len PySem.boot_len (Zb (va ah 16))) aj)))) (Z5 (@jN _ _ _ _ _ _ (Zm bg (va ah 16) (Z0 TK (Z1 (va ah 0) (Z1 (Z2 aB z_len PySem.boot_len (Zb (va ah 16))) ao)))) (Ze (3) (Zj (ga aH.nd aK 17) (Zj (ga aH.nd aK 18) (aR (ga aH.nd aK 9) bz)))) (by rfl) (by rfl) (by rfl)) (Z5 (Zl (ak cG) ["_law_feed_here","_law_scene_here","_law_around","_law_kind","_law_room","_law_down","_law_form","_law_share","_law_x","_law_goal","_law_one","_law_more","_law_test","_law_y","_law_rows","_law_begin","_law_some","_law_f","_law_wants","_law_terms"] ["_law_one"] [0,1,2,4,5,18] (dw (va ah 18)) (fun _ _ _ _=>(Z3 (i:=0) (show(["_law_one","_law_feed_here","_law_scene_here","_law_around","_law_room","_law_down","_law_wants"]:List Str).Nodup by decide +kernel))) (fun _ _ _ _=>(Z0 TE (Z1 (va (show Nm ["_law_one","_law_feed_here","_law_scene_here","_law_around","_law_room","_law_down","_law_wants"] _ by show _=_;kernel_rfl) 1) (Z1 (va (show Nm ["_law_one","_law_feed_here","_law_scene_here","_law_around","_law_room","_law_down","_law_wants"] _ by show _=_;kernel_rfl) 2) (Z1 (va (show Nm ["_law_one","_law_feed_here","_law_scene_here","_law_around","_law_room","_law_down","_law_wants"] _ by show _=_;kernel_rfl) 3) (Z1 (va (show Nm ["_law_one","_law_feed_here","_law_scene_here","_law_around","_law_room","_law_down","_law_wants"] _ by show _=_;kernel_rfl) 0) (Z1 (Zn gM (aJ bu (va (show Nm ["_law_one","_law_feed_here","_law_scene_here","_law_around","_law_room","_law_down","_law_wants"] _ by show _=_;kernel_rfl) 4) aj) (Z2 (jA rfl) z_max PyProof.Rows.boot_max (Z1 aj (Z1 (Z2 (om K rfl) z_len PySem.boot_len (Zb (va (show Nm ["_law_one","_law_feed_here","_law_scene_here","_law_around","_law_room","_law_down","_law_wants"] _ by show _=_;kernel_rfl) 6))) ao)))) (Z1 (aJ bu (va (show Nm ["_law_one","_law_feed_here","_law_scene_here","_law_around","_law_room","_law_down","_law_wants"] _ by show _=_;kernel_rfl) 5) aj) ao)))))))) (ga aH.nd aK 19)) (Zd (Zq (Zk (Z1 az (Z1 (va ah 17) (Z1 (Z6 aL z_tuple PyProof.Rows.boot_tuple (Zb (va ah 19))) ao))))))))) (Z5 (Zf (PW.pt (@bW _ _ _ _ _ _ _ (aM (wW hr.oi) (va ah 3) az (bF _)) (@bW _ _ _ _ _ _ _ (Zc bJ (Za aD (va ah 3)) az) (@cE _ _ _ _ (Zc (wW hr.oi) (Za aD (va ah 3)) az))))) (Zd (Zq (Z0 LF (Z1 (va ah 0) (Z1 (va ah 1) (Z1 (va ah 2) (Zb (va ah 3))))))))) (Zd (Zq (Zk (Z1 az (Z1 (Z0 TE (Z1 (va ah 0) (Z1 (va ah 1) (Z1 (va ah 2) (Z1 (Zk (Z1 az (Zb (va ah 3)))) (Z1 (aJ bu (va ah 4) aj) (Z1 (aJ bu (va ah 5) aj) ao))))))) ao))))))))))))))),?_⟩
 try dsimp only[bU]
 try dsimp only[bU]
 have hpl2:ps.length+2*n<=40:=by omega
 have hff:=sc.ff
 have kdp1:kk.dep+n<=20:=by omega
 have sh0:-1<=(room-1) / 3:=by omega
 have sh1:(room-1) / 3<=1000:=by omega
 have dd0:0<=down-1:=by omega
 have dd1:down-1<n:=by omega
 refine rJ ?_
 intro N1 N2 N3 N4 N5 N6 N7 N8 c1 c2 c3 c4 c5 c6 c7 c8
 fail "R"
 intro fm H1 fm0 fm1 x1
 have w1:Wk K fe d S xs kl dl H (n+3) [] [] gs H1:=(Wk.nil sc).ext x1
 have hg1:=w1.sc.get (mw S)
 have hf1:=w1.sc.ff
 fail "R"
 intro r2 H2 r20 r21 x2
 have w2:=w1.ext x2
 have hln2:=w2.sc.ln
 obtain⟨x,hx⟩:=w2.sc.name r20 (by omega)
 obtain⟨y,hy⟩:=w2.sc.name (r:=5) (by decide) (by decide)
 have sc2:=w2.sc
 have hf2:=sc2.ff
 have ai2:=w2.mG ai
 have rk2:=w2.rp rk
 have hgk:=sc2.get (iS S)
 have Br:=sc2.Br
 obtain⟨ka,kvs,ek,ksq2,rks2⟩:=sc2.kd.aC
 cases ek
 have lk2:=rks2.length
 rw[List.length_map]at lk2
 have k3:=sc2.k3
 fail "R"
 have cont:∀(h:Hd) (v:V) (H':Hp) (ts:List Tm) (us:List V) (g':List Int),Wk K fe d S xs kl dl H (n+3) ts us g' H'->cD h ts.length=true/\A4 h->ts.length<=9->Rp K H' (eT h (ts.map enc)) v->Q v H':=fun h v H' ts us g' w' ar' l' r' =>
  k v H' (.mk h ts) g' w'.fr w'.sc (by rw[cZ];exact r') (w'.tok ar' l').1 (w'.tok ar' l').2
 refine ck (fun c=>?_) (fun c=>?_)
 ·fail "R"
  refine mH sc2 fun l3 H3 s3 hl3 h3=>?_
  have w3:=w2.same s3
  have hf3:=w3.sc.ff
  have knl3:(kn kl).length<=100:=by omega
  fail "R"
  intro v4 H4 k4 x4 r4 o4 d4
  have w4:=w3.ext x4
  have sc4:=w4.sc
  have ai4:=w4.mG ai
  have kd4:k4.dep+n<=20:=by have:(1:Int).toNat=1:=rfl;omega
  fail "R"
  intro v5 H5 tm5 g5 f5 sc5 r5 tk5 d5
  have w5:=w4.snoc f5 sc5 r5 tk5 d5
  have r45:=r4.kt f5.kt
  fail "R"
  intro p6 hp6
  have s6:=ae hp6 (.tup [.str x,v4])
  have h6:=Rp.new (K:=K) (xs:=[.s x,dz k4]) hp6 (.cons .s (.one r45))
  generalize upd H5 p6 (.tup [.str x,v4])=H6 at s6 h6⊢
  have w6:=w5.same s6
  fail "R"
  intro p7 hp7
  have s7:=ae hp7 (.lst [.ref p6])
  have h7:rV K (upd H6 p7 (.lst [.ref p6])) p7 [(x,k4)]:=⟨_,af,.one (h6.same s7)⟩
  generalize upd H6 p7 (.lst [.ref p6])=H7 at s7 h7⊢
  have w7:=w6.same s7
  have ai7:=w7.mG ai
  have aa7:=ai7.aa
  fail "R"
  ·show ps.length+1<=900
   omega
  intro p8 H8 s8 hp8 a8
  have w8:=w7.same s8
  have hn8:=kG ps [(x,k4)]
  have ai8:=ai7.near (H6:=H8) w7.sc (fun q hq=>by rw[List.mem_singleton.mp hq];exact⟨o4,by show k4.dep<=60;omega⟩) (by show ps.length+1<=60;omega) hp8 a8
  have rk8:=w8.rp rk
  have sc8:=w8.sc
  have hpl8:(kE ps [(x,k4)]).length+2*n<=40:=by have:[(x,k4)].length=1:=rfl;omega
  fail "R"
  intro v9 H9 tm9 g9 f9 sc9 r9 tk9 d9
  have w9:=w8.snoc f9 sc9 r9 tk9 d9
  fail "R"
  intro p10 hp10
  have s10:=ae hp10 (.tup [.str "let",.str x,v5,v9])
  exact cont (.lt x) _ _ _ _ _ (w9.same s10) ⟨rfl,True.intro⟩ (by show 2<=9;decide) (Rp.new (K:=K) hp10 (.cons .s (.cons .s w9.r)))
 refine c4 _ _ ?_
 refine xC (fm=1\/fm=2/\kl.length=0) (fun C hA hB=>?_) (fun p1=>?_) (fun p1=>?_)
 ·clear c4 c5 c6 c7 c8
  have hor:cy K H2 S.kd kvs\/bx K H2 S.kd kvs:=.inr ksq2
  fail "R"
  refine ck (fun c1=>?_) (fun c1=>?_)
  ·exact hA (.inl (by injection(of_decide_eq_true c1)))
  ·fail "R"
   refine ck (fun c2=>?_) (fun c2=>?_)
   ·fail "R"
    have e2:fm=2:=by injection(of_decide_eq_true c2)
    generalize hb:decide (V.int (kvs.length:Int)=V.int 0)=b
    cases b with
    |true =>
     have e3:=of_decide_eq_true hb
     injection e3 with e3
     exact hA (.inr ⟨e2,by omega⟩)
    |false =>
     refine hB fun z=>?_
     rcases z with z|z
     ·rw[z]at e2;cases e2
     ·exact absurd (by rw[lk2,z.2];rfl) (of_decide_eq_false hb)
   ·refine hB fun z=>?_
    rcases z with z|z
    ·exact c1 (decide_eq_true (by rw[z]))
    ·exact c2 (decide_eq_true (by rw[z.1]))
 ·clear c4 c5 c6 c7 c8
  have rN:Rp K H2 (dz .num) (.str "num"):=.s
  have oN:Kk.ok (kn kl) .num:=True.intro
  have dN:Kk.dep .num+n<=20:=by show 0+n<=20;omega
  fail "R"
  intro v3 H3 tm3 g3 f3 sc3 r3 tk3 d3
  have w3:=w2.snoc f3 sc3 r3 tk3 d3
  have ai3:=w3.mG ai
  have rk3:=w3.rp rk
  fail "R"
  intro v4 H4 tm4 g4 f4 sc4 r4 tk4 d4
  have w4:=w3.snoc f4 sc4 r4 tk4 d4
  have ai4:=w4.mG ai
  have rk4:=w4.rp rk
  fail "R"
  intro v5 H5 tm5 g5 f5 sc5 r5 tk5 d5
  have w5:=w4.snoc f5 sc5 r5 tk5 d5
  fail "R"
  intro p10 hp10
  have s10:=ae hp10 (.tup [.str "if",v3,v4,v5])
  exact cont .ife _ _ _ _ _ (w5.same s10) ⟨rfl,True.intro⟩ (by show 3<=9;decide) (Rp.new (K:=K) hp10 (.cons .s w5.r))
 clear c4
 fail "R"
 refine ck (fun c=>?_) (fun c=>?_)
 ·have e2:fm=2:=by injection(of_decide_eq_true c)
  have kl0:(0:Int)<(kvs.length:Int):=by
   have:kl.length≠0:=fun z=>p1 (.inr ⟨e2,z⟩)
   omega
  have hor:cy K H2 S.kd kvs\/bx K H2 S.kd kvs:=.inr ksq2
  have kl1:(kvs.length:Int)<1073741824:=by omega
  clear c5 c6 c7 c8
  fail "R"
  intro r3 H3 r30 r31 x3
  have w3:=w2.ext x3
  have sc3:=w3.sc
  have ksq3:=ksq2.kt (x3.kt hf2)
  obtain⟨v3,hv3,_⟩:=iQ (xs:=kvs) r30 r31
  have hv3':kvs[r3.toNat]?=some v3:=by
   have:=cF (xs:=kvs) (j:=r3.toNat) (v:=kvs[r3.toNat]'(by omega)) (List.getElem?_eq_getElem (by omega))
   rw[show((r3.toNat:Nat):Int)=r3 by omega,hv3]at this
   rw[List.getElem?_eq_getElem (by omega)]
   exact this.symm
  obtain⟨t3,ht3,rt3⟩:=rks2.get' hv3'
  rw[List.getElem?_map]at ht3
  obtain⟨q3,hq3,rfl⟩:=Option.map_eq_some_iff.mp ht3
  obtain⟨qa,q1,q2,rfl,qsq,g1,g2⟩:=(show Rp K H3 (.t [.s q3.1,.t (q3.2.map kD)]) v3 from rt3.kt (x3.kt hf2)).t2
  obtain rfl:=g1.aF
  have hq:q3.1∈kn kl:=List.mem_map_of_mem (List.mem_of_getElem? hq3)
  have hg3:=sc3.get (iS S)
  fail "R"
  intro p4 hp4
  have s4:=ae hp4 (.tup [.str "kind",.str q3.1])
  have r4:Rp K (upd H3 p4 (.tup [.str "kind",.str q3.1])) (dz (.kd q3.1)) (.ref p4):=Rp.new (K:=K) hp4 (.cons .s (.one .s))
  generalize upd H3 p4 (.tup [.str "kind",.str q3.1])=H4 at s4 r4⊢
  have w4:=w3.same s4
  have sc4:=w4.sc
  have ai4:=w4.mG ai
  have oK:Kk.ok (kn kl) (.kd q3.1):=hq
  have dK:Kk.dep (.kd q3.1)+n<=20:=by show 0+n<=20;omega
  fail "R"
  intro v5 H5 tm5 g5 f5 sc5 r5 tk5 d5
  have w5:=w4.snoc f5 sc5 r5 tk5 d5
  have ai5:=w5.mG ai
  have rk5:=w5.rp rk
  have r45:=r4.kt f5.kt
  have hpl5:ps.length+2*n+2<=40:=by omega
  have rm5:-1<=(room-1) / 4:=by omega
  have rm6:(room-1) / 4<=1000:=by omega
  fail "R"
  intro v6 H6 arms ts6 g6 f6 fM r6 la6 lt6 ok6
  fail "R"
  intro p7 hp7
  have s7:=ae hp7 (.tup [.str "match",v5,v6])
  refine k _ _ (.mk (.mat arms) (tm5::ts6)) g6 ((w5.fr.trans f6).same s7) (fM.same s7) ?_ (.mk ?_ (by show ts6.length+1<=9;omega) ?_) (Tm.j7 ?_)
  ·rw[cZ]
   exact Rp.new (K:=K) hp7 (.cons .s (.cons (r5.kt f6.kt) (.one r6)))
  ·show(ts6.length+1 == arms.length+1)=true
   rw[la6]
   exact beq_self_eq_true _
  ·intro t ht
   rcases List.mem_cons.mp ht with rfl|h
   ·exact tk5
   ·exact(ok6 t h).1
  ·intro t ht
   rcases List.mem_cons.mp ht with rfl|h
   ·exact d5
   ·exact(ok6 t h).2
 fail "R"
 refine ck (fun c=>?_) (fun c=>?_)
 ·clear c6 c7 c8
  have hgk2:=sc2.get (mw S)
  have knl3:(kn kl).length<=100:=by omega
  fail "R"
  refine mH sc2 fun l3 H3 s3 hl3 h3=>?_
  have w3:=w2.same s3
  have hf3:=w3.sc.ff
  fail "R"
  intro v4 H4 k4 x4 r4 o4 d4
  have w4:=w3.ext x4
  have sc4:=w4.sc
  have ai4:=w4.mG ai
  have hg4:=sc4.get (mw S)
  have hln4:=sc4.ln
  have kd4:Kk.dep (.row k4)+n<=20:=by have:(0:Int).toNat=0:=rfl;show k4.dep+1+n<=20;omega
  have o4':Kk.ok (kn kl) (.row k4):=o4
  fail "R"
  intro p5 hp5
  have s5:=ae hp5 (.tup [.str "row",v4])
  have r5:Rp K (upd H4 p5 (.tup [.str "row",v4])) (dz (.row k4)) (.ref p5):=Rp.new (K:=K) hp5 (.cons .s (.one r4))
  generalize upd H4 p5 (.tup [.str "row",v4])=H5 at s5 r5⊢
  have w5:=w4.same s5
  have sc5:=w5.sc
  have ai5:=w5.mG ai
  fail "R"
  intro v6 H6 tm6 g6 f6 fM r6 tk6 d6
  have w6:=w5.snoc f6 fM r6 tk6 d6
  have ai6:=w6.mG ai
  have rk6:=w6.rp rk
  fail "R"
  intro v7 H7 tm7 g7 f7 sc7 r7 tk7 d7
  have w7:=w6.snoc f7 sc7 r7 tk7 d7
  have r47:=((r4.same s5).kt f6.kt).kt f7.kt
  fail "R"
  intro p8 hp8
  have s8:=ae hp8 (.tup [.str x,v4])
  have h8:=Rp.new (K:=K) (xs:=[.s x,dz k4]) hp8 (.cons .s (.one r47))
  generalize upd H7 p8 (.tup [.str x,v4])=H8 at s8 h8⊢
  have w8:=w7.same s8
  fail "R"
  intro p9 hp9
  have s9:=ae hp9 (.tup [.str y,vk])
  have h9:=Rp.new (K:=K) (xs:=[.s y,dz kk]) hp9 (.cons .s (.one (w8.rp rk)))
  have h89:=h8.same s9
  generalize upd H8 p9 (.tup [.str y,vk])=H9 at s9 h9 h89⊢
  have w9:=w8.same s9
  fail "R"
  intro p10 hp10
  have s10:=ae hp10 (.lst [.ref p8,.ref p9])
  have h10:rV K (upd H9 p10 (.lst [.ref p8,.ref p9])) p10 [(x,k4),(y,kk)]:=⟨_,af,.cons (h89.same s10) (.one (h9.same s10))⟩
  generalize upd H9 p10 (.lst [.ref p8,.ref p9])=H10 at s10 h10⊢
  have w10:=w9.same s10
  have ai10:=w10.mG ai
  have aa10:=ai10.aa
  fail "R"
  ·show ps.length+2<=900
   omega
  intro p11 H11 s11 hp11 a11
  have w11:=w10.same s11
  have ai11:=ai10.near (H6:=H11) w10.sc (fun q hq=>by
   rcases List.mem_cons.mp hq with rfl|hq
   ·exact⟨o4,by show k4.dep<=60;have:(0:Int).toNat=0:=rfl;omega⟩
   ·rw[List.mem_singleton.mp hq];exact⟨ok,by show kk.dep<=60;omega⟩) (by show ps.length+2<=60;omega) hp11 a11
  have rk11:=w11.rp rk
  have sc11:=w11.sc
  have hn11:=kG ps [(x,k4),(y,kk)]
  have hpl11:(kE ps [(x,k4),(y,kk)]).length+2*n<=40:=by have:[(x,k4),(y,kk)].length=2:=rfl;omega
  fail "R"
  intro v12 H12 tm12 g12 f12 sc12 r12 tk12 d12
  have w12:=w11.snoc f12 sc12 r12 tk12 d12
  fail "R"
  intro p13 hp13
  have s13:=ae hp13 (.tup [.str "fold",v6,.str x,.str y,v7,v12])
  refine cont (.fold x y) _ _ _ _ _ (w12.same s13) ⟨rfl,True.intro⟩ (by show 3<=9;decide) ?_
  obtain⟨_,_,ez,q1,q2⟩:=aO.inv (K:=K) (x:=enc tm6) w12.r
  cases ez
  exact Rp.new (K:=K) hp13 (.cons .s (.cons q1 (.cons .s (.cons .s q2))))
 have hgd:=sc2.get (tK S)
 obtain⟨dvs,hdv,dfs⟩:=sc2.ld
 fail "R"
 have kdp2:(dz kk).dep<=150:=Nat.le_trans (ic kk) (by omega)
 have ldv:=dfs.len
 have dl8:=sc2.dl.1
 refine dX (K:=K) (xs:=dvs) (fun i σ us H3=>(∃y,σ=[y,some vk])/\H3=H2/\us.length<=i/\∀v∈us,∃dd∈dl,vK K H2 (S.nn fe) dd v) ⟨⟨_,rfl⟩,rfl,Nat.le_refl _,fun v h=>nomatch h⟩ ?_ (small (by omega)) ?_ ?_ ?_
 ·rintro i σ us H3 hi ⟨_,_,h,_⟩
  exact h
 ·rintro i σ us H3 hi ⟨_,rfl,_⟩
  exact cy.of hdv
 ·rintro i v σ us H3 hv ⟨⟨_,rfl⟩,rfl,hl,hu⟩
  obtain⟨dd,hdd,da⟩:=dfs.get hv
  have da':=da
  obtain⟨a,l,g,ws,rfl,asq,hlw,rws,rg,nnl⟩:=da
  have hdq:(dz dd.2.2).dep<=150:=Nat.le_trans (ic _) (by have:=(sc2.dl.2 dd hdd).2.2.2;omega)
  fail "R"
  refine ck (fun c=>?_) (fun c=>?_)
  ·fail "R"
   ·rw[List.length_append];show us.length+1<=i+1;omega
   ·exact fun v hv=>(List.mem_append.mp hv).elim (hu v) (fun h=>by rw[List.mem_singleton.mp h];exact⟨dd,hdd,da'⟩)
  ·fail "R"
   exact hu
 rintro σ us H3 ⟨_,rfl,hl,hu⟩ ls hls
 have s4:=ae hls (.lst us)
 have h4:upd H3 ls (.lst us) ls=some (.lst us):=af
 generalize upd H3 ls (.lst us)=H4 at s4 h4⊢
 have w4:=w2.same s4
 have n4:=sc2.no hls
 have sc4:=w4.sc
 have ai4:=w4.mG ai
 have rk4:=w4.rp rk
 have hf4:=sc4.ff
 clear c5 c6
 refine c8 _ _ ?_
 refine ki ?_
 intro N9 N10 c9 c10
 clear c7 c8
 refine xC (fm=4/\0<us.length) (fun C hA hB=>?_) (fun p1=>?_) (fun p1=>?_)
 ·clear c9 c10
  fail "R"
  refine ck (fun c1=>?_) (fun c1=>?_)
  ·fail "R"
   have e4:fm=4:=by injection(of_decide_eq_true c1)
   generalize hb:decide ((0:Int)<(us.length:Int))=b
   cases b with
   |true=>exact hA ⟨e4,by have:=of_decide_eq_true hb;omega⟩
   |false=>exact hB fun z=>absurd (by have:=z.2;omega) (of_decide_eq_false hb)
  ·exact hB fun z=>c1 (decide_eq_true (by rw[z.1]))
 ·clear c9 c10
  have ul0:(0:Int)<(us.length:Int):=by have:=p1.2;omega
  have ul1:(us.length:Int)<1073741824:=by omega
  fail "R"
  intro r5 H5 r50 r51 x5
  have w5:=w4.ext x5
  have h5:=x5.1 _ _ n4.1 h4
  obtain⟨v5,hv5,hm5⟩:=iQ (xs:=us) r50 r51
  obtain⟨dd,hdd,a,l,g,ws,rfl,asq,hlw,rws,rg,nnl⟩:=hu v5 hm5
  obtain⟨n1,n2,_⟩:=lI nnl
  obtain⟨dw3,dwk,_⟩:=sc2.dl.2 dd hdd
  have k35:Kt H3 H5:=(Kt.same s4).trans (x5.kt hf4)
  have asq5:=asq.kt k35
  have rws5:=rws.kt k35
  have lws:=rws.length
  rw[List.length_map]at lws
  have hlw5:=x5.1 _ _ n1 (s4 _ _ hlw)
  obtain⟨kva,hva,_⟩:=w5.sc.la
  have nla:l≠S.la:=gj hlw5 hva (fun z=>nomatch z)
  have hsq5:=cy.of (K:=K) hlw5
  fail "R"
  refine dX (K:=K) (xs:=ws) (fun i σ us6 H6=>(∃y,σ=[y,some (.ref fe),some (.ref d),some (.ref ar),some (.int room),some (.int down),some (.ref l)])/\H6 l=some (.lst ws)/\Kt H5 H6/\CI K fe d S xs kl dl H (n+3) i us6 H6) ⟨⟨_,rfl⟩,hlw5,Kt.refl,⟨[],gs,w5,rfl⟩⟩ ?_ (small (by omega)) ?_ ?_ ?_
  ·rintro i σ us6 H6 hi ⟨_,_,_,⟨ts,g6,w6,e⟩⟩
   rw[w6.r.length,List.length_map,e];exact Nat.le_refl _
  ·rintro i σ us6 H6 hi ⟨_,h6,_⟩
   exact cy.of h6
  ·rintro i yv σ us6 H6 hyv ⟨⟨_,rfl⟩,h6,k6,⟨ts,g6,w6,lts⟩⟩
   obtain⟨t6,ht6,rt6⟩:=rws5.get' hyv
   rw[List.getElem?_map]at ht6
   obtain⟨q6,hq6,rfl⟩:=Option.map_eq_some_iff.mp ht6
   obtain⟨oq,dq⟩:=dwk q6 (List.mem_of_getElem? hq6)
   have fM:=w6.sc
   have ai6:=w6.mG ai
   have rt6':=rt6.kt k6
   have dq6:q6.dep+n<=20:=by omega
   have hor:cy K H6 l ws\/bx K H6 l ws:=.inl (cy.of h6)
   have rmw:1<=(if(ws.length:Int)>1 then(ws.length:Int)else 1):=by split<;>omega
   have rm6:-1<=(room-1) / (if(ws.length:Int)>1 then(ws.length:Int)else 1):=by
    have:=Int.ediv_nonneg (a:=room-1) (b:=if(ws.length:Int)>1 then(ws.length:Int)else 1) (by omega) (by omega)
    omega
   have rm7:(room-1) / (if(ws.length:Int)>1 then(ws.length:Int)else 1)<=1000:=by
    have:=Int.ediv_le_self (a:=room-1) (if(ws.length:Int)>1 then(ws.length:Int)else 1) (by omega)
    omega
   fail "R"
   intro v7 H7 tm7 g7 f7 sc7 r7 tk7 d7
   fail "R"
   ·exact f7.gJ n2 nla n1 h6
   ·exact⟨k6.trans f7.kt,⟨ts++[tm7],g7,w6.snoc f7 sc7 r7 tk7 d7,by rw[List.length_append,lts];rfl⟩⟩
  ·rintro σ us6 H6 ⟨_,_,_,⟨ts,g6,w6,lts⟩⟩ p7 hp7
   have s7:=ae hp7 (.lst us6)
   have h7:upd H6 p7 (.lst us6) p7=some (.lst us6):=af
   have r7:=w6.r.same s7
   have w7:=w6.same s7
   generalize upd H6 p7 (.lst us6)=H7 at s7 h7 r7 w7⊢
   fail "R"
   refine .inl ⟨cy.of h7,fun p8 hp8=>?_⟩
   have s8:=ae hp8 (.tup us6)
   have r8:=Rp.new (K:=K) hp8 r7
   have w8:=w7.same s8
   generalize upd H7 p8 (.tup us6)=H8 at s8 r8 w8⊢
   fail "R"
   intro p9 hp9
   have s9:=ae hp9 (.tup [.str "call",.str dd.1,.ref p8])
   exact cont (.call dd.1) _ _ _ _ _ (w8.same s9) ⟨rfl,True.intro⟩ (by omega) (Rp.new (K:=K) hp9 (.cons .s (.cons .s (.one r8))))
 refine c9 _ _ ?_
 clear c9
 have rN:Rp K H4 (T.s "num") (.str "num"):=.s
 refine xC (pR kk) (fun C hA hB=>?_) (fun _=>?_) (fun _=>?_)
 ·clear c10
  fail "R"
  refine ck (fun c1=>?_) (fun c1=>?_)
  ·cases kk with
   |num=>exact absurd c1 (by decide +kernel)
   |op n=>exact absurd ok id
   |kd x1 =>
    obtain⟨va,v1,v2,rfl,vsq,g1,g2⟩:=(show Rp K H4 (.t [.s "kind",.s x1]) vk from rk4).t2
    obtain rfl:=g1.aF
    fail "R"
    exact hB id
   |row k2 =>
    obtain⟨va,v1,v2,rfl,vsq,g1,g2⟩:=(show Rp K H4 (.t [.s "row",dz k2]) vk from rk4).t2
    obtain rfl:=g1.aF
    have dk2:(dz k2).dep<=150:=Nat.le_trans (ic _) (by have:Kk.dep (.row k2)=k2.dep+1:=rfl;omega)
    fail "R"
    generalize hb:decide (dz k2=T.s "num")=b
    cases b with
    |true=>exact hB fun z=>z (of_decide_eq_true hb)
    |false=>exact hA (of_decide_eq_false hb)
  ·refine hB fun z=>?_
   cases kk with
   |row k2=>exact c1 (by rw[show decide (dz (.row k2)=T.s "num")=false from decide_eq_false (fun z=>nomatch z)];rfl)
   |num=>exact z
   |kd _=>exact z
   |op _=>exact z
 ·clear c10
  have kd6:kk.dep<=60:=by omega
  fail "R"
  intro v5 H5 tm5 g5 f5 sc5 r5 tk5 d5
  exact k v5 H5 tm5 g5 (w4.fr.trans f5) sc5 r5 tk5 (by omega)
 ·fail "R"
  intro p5 hp5
  have s5:=ae hp5 (.tup [.str "row",vk])
  have r5:Rp K (upd H4 p5 (.tup [.str "row",vk])) (dz (.row kk)) (.ref p5):=Rp.new (K:=K) hp5 (.cons .s (.one rk4))
  generalize upd H4 p5 (.tup [.str "row",vk])=H5 at s5 r5⊢
  have w5:=w4.same s5
  have sc5:=w5.sc
  have ai5:=w5.mG ai
  have oR:Kk.ok (kn kl) (.row kk):=ok
  have dR:Kk.dep (.row kk)+n<=20:=by show kk.dep+1+n<=20;omega
  fail "R"
  intro v6 H6 tm6 g6 f6 fM r6 tk6 d6
  have w6:=w5.snoc f6 fM r6 tk6 d6
  fail "R"
  intro p10 hp10
  have s10:=ae hp10 (.tup [.str "first",v6])
  exact cont .first _ _ _ _ _ (w6.same s10) ⟨rfl,True.intro⟩ (by show 1<=9;decide) (Rp.new (K:=K) hp10 (.cons .s w6.r))
end
theorem len0{α:Type}{P:List α->Prop}(h:P []):∀us:List α,us.length=0->P us
 | [],_=>h
theorem lW{α:Type}{P:List α->Prop}(h:∀a,P [a]):∀us:List α,us.length=1->P us
 | [a],_=>h a
theorem lX{α:Type}{P:List α->Prop}(h:∀a b,P [a,b]):∀us:List α,us.length=2->P us
 | [a,b],_=>h a b
theorem zT{α:Type}{P:List α->Prop}(h:∀a b c,P [a,b,c]):∀us:List α,us.length=3->P us
 | [a,b,c],_=>h a b c
theorem Bo{α:Type}{P:List α->Prop}(h:∀a b c d,P [a,b,c,d]):∀us:List α,us.length=4->P us
 | [a,b,c,d],_=>h a b c d
theorem Dh{α:Type}{P:List α->Prop}(h:∀a b c d e,P [a,b,c,d,e]):∀us:List α,us.length=5->P us
 | [a,b,c,d,e],_=>h a b c d e
theorem Cs{α:Type}{P:List α->Prop}(h:∀a b c d e f,P [a,b,c,d,e,f]):∀us:List α,us.length=6->P us
 | [a,b,c,d,e,f],_=>h a b c d e f
theorem Di{α:Type}{P:List α->Prop}(h:∀a b c d e f g,P [a,b,c,d,e,f,g]):∀us:List α,us.length=7->P us
 | [a,b,c,d,e,f,g],_=>h a b c d e f g
section
variable {P:Program}{w:World}{K:PySem.W.Frag}{mg:Str->Option Value}{base:Heap}{gA gB gC gW gN gT gS gK gL:Addr}{afd bfd cfd wfd nfd tfd sfd kfd lfd:FuncData}
theorem uU(F:fJ K "_law_any_kind" "_law_any_kind" dI gA afd)(mA:mg "_law_any_kind"=some (.ref gA))(bA:Binds K afd ["_law_feed_here","_law_known","_law_down"] [])(TK:bS P w K mg base "_law_take" 1 ["_law_feed_here","_law_many"] dD gT tfd)(z_len:mg "len"=none):∀n,bT P w K mg base fk (n+1) gA afd ["_law_feed_here","_law_known","_law_down"] (ee K n)
 |0=>fT fun vs H Q E ⟨_,_,d,_,_,_,_,_,h0,h1,_⟩=>by have:d<0:=h1;omega
 |n+1=>rQ (j:=n+1) (by omega) F TK ⟨uU F mA bA TK z_len n,mA,F.kp,bA⟩ z_len
theorem nV(F:fJ K "_law_nought" "_law_nought" dS gA afd)(mA:mg "_law_nought"=some (.ref gA))(bA:Binds K afd ["_law_feed_here","_law_scene_here","_law_kind"] [])(NU:bS P w K mg base "_law_number" 2 ["_law_feed_here"] nC gN nfd)(TG:bS P w K mg base "_law_tags_of" 1 ["_law_scene_here","_law_kind"] (iK K) gT tfd)(z_tuple:mg "tuple"=none):∀n,bT P w K mg base fk (n+2) gA afd ["_law_feed_here","_law_scene_here","_law_kind"] (jw K n)
 |0=>fT fun vs H Q E ⟨_,_,_,_,_,_,_,_,_,_,_,_,_,_,_,h,_⟩=>by omega
 |n+1=>vM (j:=n+2) (by omega) F NU TG ⟨nV F mA bA NU TG z_tuple n,mA,F.kp,bA⟩ z_tuple
theorem sC(FT:fJ K "_law_term" "_law_term" eG gA afd)(FG:fJ K "_law_generic" "_law_generic" cG gB bfd)(FA:fJ K "_law_arms" "_law_arms" gr gC cfd)(mA:mg "_law_term"=some (.ref gA))(bA:Binds K afd ["_law_feed_here","_law_scene_here","_law_around","_law_kind","_law_room","_law_down"] [])(mB:mg "_law_generic"=some (.ref gB))(bB:Binds K bfd ["_law_feed_here","_law_scene_here","_law_around","_law_kind","_law_room","_law_down"] [])(mC:mg "_law_arms"=some (.ref gC))(bC:Binds K cfd ["_law_feed_here","_law_scene_here","_law_around","_law_kind","_law_goal","_law_share","_law_down"] [])(TK:bS P w K mg base "_law_take" 1 ["_law_feed_here","_law_many"] dD gT tfd)(AK:bS P w K mg base "_law_any_kind" 4 ["_law_feed_here","_law_known","_law_down"] (ee K 3) gK kfd)(TG:bS P w K mg base "_law_tags_of" 1 ["_law_scene_here","_law_kind"] (iK K) gS sfd)(BD:bS P w K mg base "_law_bound" 1 ["_law_around","_law_more"] (mz K) gN nfd)(LF:bS P w K mg base "_law_leaf" 7 ["_law_feed_here","_law_scene_here","_law_around","_law_kind"] (qJ K) gL lfd)(z_len:mg "len"=none)(z_list:mg "list"=none)(z_tuple:mg "tuple"=none)(z_zip:mg "zip"=none)(z_range:mg "range"=none)(z_max:mg "max"=none):∀n,n<=10->bT P w K mg base fk (3*n+8) gA afd ["_law_feed_here","_law_scene_here","_law_around","_law_kind","_law_room","_law_down"] (lB K n)
 |0,_=>fT fun vs H Q E ⟨_,_,_,_,_,d,_,_,_,_,_,_,_,_,_,_,_,_,_,h0,h1,_⟩=>by have:d<0:=h1;omega
 |n+1,hn=>by
  have TE:=sC FT FG FA mA bA mB bB mC bC TK AK TG BD LF z_len z_list z_tuple z_zip z_range z_max n (by omega)
  have AR:=zS (j:=3*n+8) (n:=n) (by omega) FA TK TG BD ⟨TE,mA,FT.kp,bA⟩ z_len z_list z_tuple z_zip z_range
  have GN:=tW (j:=3*n+9) (ja:=3*n+9) (jl:=7) (jk:=4) (je:=3*n+8) (n:=n) (by omega) (by omega) (by omega) (by omega) (by omega) (by omega) FG TK AK BD ⟨TE,mA,FT.kp,bA⟩ ⟨AR,mC,FA.kp,bC⟩ LF z_len z_tuple z_max
  exact zR (j:=3*n+10) (n:=n) (jg:=3*n+10) (jl:=7) (jk:=4) (je:=3*n+8) (by omega) (by omega) (by omega) (by omega) (by omega) (by omega) FT TK AK TG ⟨TE,mA,FT.kp,bA⟩ ⟨GN,mB,FG.kp,bB⟩ LF z_len z_tuple z_max z_range
theorem sD(F:fJ K "_law_size" "_law_size" fF gA afd)(mA:mg "_law_size"=some (.ref gA))(bA:Binds K afd ["_law_term_here"] [])(WD:bS P w K mg base "_law_words" 1 [] ik gW wfd)(z_len:mg "len"=none)(z_tuple:mg "tuple"=none)(z_str:mg "str"=none)(z_sum:mg "sum"=none)(z_isinstance:mg "isinstance"=none):∀n,bT P w K mg base fk (n+1) gA afd ["_law_term_here"] (qL K n)
 |0=>fT fun vs H Q E ⟨_,_,_,_,_,h,_⟩=>by omega
 |n+1=>zC (j:=n+1) (by omega) F WD ⟨sD F mA bA WD z_len z_tuple z_str z_sum z_isinstance n,mA,F.kp,bA⟩ z_len z_tuple z_str z_sum z_isinstance
theorem nW(F:fJ K "_law_hidden" "_law_hidden" gu gA afd)(mA:mg "_law_hidden"=some (.ref gA))(bA:Binds K afd ["_law_feed_here","_law_kind","_law_opens","_law_few"] [])(TK:bS P w K mg base "_law_take" 1 ["_law_feed_here","_law_many"] dD gT tfd)(z_len:mg "len"=none):∀n,bT P w K mg base fk (n+1) gA afd ["_law_feed_here","_law_kind","_law_opens","_law_few"] (kH K n)
 |0=>fT fun vs H Q E ⟨_,_,_,_,_,_,_,_,_,h,_⟩=>by omega
 |n+1=>vS (j:=n+1) (by omega) F TK ⟨nW F mA bA TK z_len n,mA,F.kp,bA⟩ z_len
theorem pU(F:fJ K "_law_gaps_in" "_law_gaps_in" dY gA afd)(mA:mg "_law_gaps_in"=some (.ref gA))(bA:Binds K afd ["_law_term_here"] [])(WD:bS P w K mg base "_law_words" 1 [] ik gW wfd)(z_len:mg "len"=none)(z_tuple:mg "tuple"=none)(z_str:mg "str"=none)(z_isinstance:mg "isinstance"=none):∀n,bT P w K mg base fk (n+1) gA afd ["_law_term_here"] (mD K n)
 |0=>fT fun vs H Q E ⟨_,_,_,_,_,h,_⟩=>by omega
 |n+1=>xY (j:=n+1) (by omega) F WD ⟨pU F mA bA WD z_len z_tuple z_str z_isinstance n,mA,F.kp,bA⟩ z_len z_tuple z_str z_isinstance
theorem sE(F:fJ K "_law_put" "_law_put" gZ gA afd)(mA:mg "_law_put"=some (.ref gA))(bA:Binds K afd ["_law_term_here","_law_put_here"] [])(WD:bS P w K mg base "_law_words" 1 [] ik gW wfd)(z_len:mg "len"=none)(z_tuple:mg "tuple"=none)(z_str:mg "str"=none)(z_isinstance:mg "isinstance"=none):∀n,bT P w K mg base fk (n+1) gA afd ["_law_term_here","_law_put_here"] (uP K n)
 |0=>fT fun vs H Q E ⟨_,_,_,_,_,_,_,h,_⟩=>by omega
 |n+1=>Bd (j:=n+1) (by omega) F WD ⟨sE F mA bA WD z_len z_tuple z_str z_isinstance n,mA,F.kp,bA⟩ z_len z_tuple z_str z_isinstance
theorem yp(F:fJ K "_law_other_opens" "_law_other_opens" di gA afd)(mA:mg "_law_other_opens"=some (.ref gA))(bA:Binds K afd ["_law_kind","_law_opens","_law_fresh_here"] [])(z_len:mg "len"=none)(z_tuple:mg "tuple"=none)(z_isinstance:mg "isinstance"=none):∀n,bT P w K mg base fk (n+1) gA afd ["_law_kind","_law_opens","_law_fresh_here"] (zH K n)
 |0=>fT fun vs H Q E ⟨_,_,_,_,_,_,_,_,h,_⟩=>by omega
 |n+1=>nI (j:=n+1) F ⟨yp F mA bA z_len z_tuple z_isinstance n,mA,F.kp,bA⟩ z_len z_tuple z_isinstance
theorem pV(F:fJ K "_law_terms_gaps" "_law_terms_gaps" cS gA afd)(mA:mg "_law_terms_gaps"=some (.ref gA))(bA:Binds K afd ["_law_term_here","_law_found"] [])(WI:bS P w K mg base "_law_within" 1 ["_law_term_here"] (nH K) gW wfd):∀n,bT P w K mg base fk (n+1) gA afd ["_law_term_here","_law_found"] (mE K n)
 |0=>fT fun vs H Q E ⟨_,_,_,_,_,_,_,h,_⟩=>by omega
 |n+1=>oA (j:=n+1) (by omega) F WI ⟨pV F mA bA WI n,mA,F.kp,bA⟩
end
end G03
namespace G03
open PySem L2 PySem.W
structure FnAt(K:Frag) (x qual:Str) (st:Stmt) (f:Addr) (fd:FuncData):Prop where
 ex:∃(od:Option Addr) (kV doc pm:Value) (an:Option Addr) (cdv ct:Value) (osl:Array (Option Value)),
  fd=fnOf x qual (jD st) (bI st) (ak st) .none kV doc pm an cdv ct/\K.lookup f=some ⟨.type "function",od,.func fd,osl⟩/\codeIn K cdv qual=true
 kp:keepIn K (.ref f)=true
theorem FnAt.f{K:Frag}{x qual:Str}{st:Stmt}{f:Addr}{fd:FuncData}(F:FnAt K x qual st f fd):fJ K x qual st f fd:=by
 obtain⟨od,kV,doc,pm,an,cdv,ct,osl,e,l,c⟩:=F.ex
 exact⟨⟨_,od,kV,doc,pm,an,cdv,ct,osl,e,l,c⟩,F.kp⟩
theorem aS{K:Frag}{x qual:Str}{st:Stmt}{f:Addr}{od an:Option Addr}{osl:Array (Option Value)}{kV doc pm cdv ct:Value}(l:K.lookup f=some ⟨.type "function",od,.func (fnOf x qual (jD st) (bI st) (ak st) .none kV doc pm an cdv ct),osl⟩)
  (c:codeIn K cdv qual=true) (k:keepIn K (.ref f)=true):FnAt K x qual st f (fnOf x qual (jD st) (bI st) (ak st) .none kV doc pm an cdv ct):=⟨⟨od,kV,doc,pm,an,cdv,ct,osl,rfl,l,c⟩,k⟩
noncomputable def nX(K:Frag)(a:Addr)(ns:List Nat):Bool:=match K.lookup a with
 |some ⟨.type "tuple",none,.seq its _,_⟩=>its.toList.length == ns.length&&(its.toList.zip ns).all (fun p=>match p.1 with|.int i _=>i == (p.2:Int)|_=>false)
 |_=>false
theorem iW{K:Frag}{a:Addr}{ns:List Nat}(h:nX K a ns=true)(hn:ns.length<=10):∀H,bx K H a (ns.map fun(j:Nat)=>V.int (j:Int)):=by
 intro H
 unfold nX at h
 split at h
 ·rename_i its n sl e
  rw[Bool.and_eq_true]at h
  obtain⟨h1,h2⟩:=h
  replace h1:=eq_of_beq h1
  have hz:its.size<=sizeLine:=by
   have z:its.toList.length=its.size:=by simp
   exact small (by omega)
  refine .inr ⟨_,its,n,e,rfl,rfl,hz,?_,rfl⟩
  clear hz e
  generalize its.toList=l at h1 h2
  clear hn
  induction l generalizing ns with
  |nil=>cases ns with
   |nil=>exact .nil
   |cons _ _=>simp at h1
  |cons v r ih =>
   cases ns with
   |nil=>simp at h1
   |cons m q =>
    rw[List.zip_cons_cons,List.all_cons,Bool.and_eq_true]at h2
    obtain⟨h3,h4⟩:=h2
    refine .cons ?_ (ih (by simpa using h1) h4)
    split at h3
    ·rename_i i t e'
     have:i=(m:Int):=eq_of_beq h3
     subst this
     exact⟨t,e'⟩
    ·cases h3
 ·cases h
theorem all_mk{l:OpenLaw}{w:World}{K:Frag}{h:Heap}{mg:Str->Option Value}{g1 g2 g3 g4 g5 g6 g7 g8 g9 g10 g11 g12 g13 g14 g15 g16 g17 g18 g19 g20 g21 g22 g23 g24 g25 g26 g27 g28 g29 g30 g31 g32 g33 g34 g35 g36 fa dP dM t0 t1 t2 t3 t4 t5 t6 t7 t8:Addr}{e1 e2 e3 e4 e5 e6 e7 e8 e9 e10 e11 e12 e13 e14 e15 e16 e17 e18 e19 e20 e21 e22 e23 e24 e25 e26 e27 e28 e29 e30 e31 e32 e33 e34 e35 e36:FuncData}{esP esM:Array DictEntry}{nP nM:Nat}(X:K.In h)(G:h.Ns mainGlobals mg)(hfa:mg "law"=some (.ref fa))
  (a1:nsIn K mainGlobals "innermost"=some (some (.ref g1)))
  (a2:nsIn K mainGlobals "right_in"=some (some (.ref g2)))
  (a3:nsIn K mainGlobals "inner_terms"=some (some (.ref g3)))
  (a4:nsIn K mainGlobals "parts"=some (some (.ref g4)))
  (a5:nsIn K mainGlobals "gaps_in"=some (some (.ref g5)))
  (a6:nsIn K mainGlobals "gaps"=some (some (.ref g6)))
  (a7:nsIn K mainGlobals "_law_feed"=some (some (.ref g7)))
  (a8:nsIn K mainGlobals "_law_take"=some (some (.ref g8)))
  (a9:nsIn K mainGlobals "_law_names"=some (some (.ref g9)))
  (a10:nsIn K mainGlobals "_law_number"=some (some (.ref g10)))
  (a11:nsIn K mainGlobals "_law_any_kind"=some (some (.ref g11)))
  (a12:nsIn K mainGlobals "_law_kinds"=some (some (.ref g12)))
  (a13:nsIn K mainGlobals "_law_tags_of"=some (some (.ref g13)))
  (a14:nsIn K mainGlobals "_law_nought"=some (some (.ref g14)))
  (a15:nsIn K mainGlobals "_law_leaf"=some (some (.ref g15)))
  (a16:nsIn K mainGlobals "_law_bound"=some (some (.ref g16)))
  (a17:nsIn K mainGlobals "_law_arms"=some (some (.ref g17)))
  (a18:nsIn K mainGlobals "_law_generic"=some (some (.ref g18)))
  (a19:nsIn K mainGlobals "_law_term"=some (some (.ref g19)))
  (a20:nsIn K mainGlobals "_law_scene"=some (some (.ref g20)))
  (a21:nsIn K mainGlobals "_law_size"=some (some (.ref g21)))
  (a22:nsIn K mainGlobals "_law_words"=some (some (.ref g22)))
  (a23:nsIn K mainGlobals "_law_held"=some (some (.ref g23)))
  (a24:nsIn K mainGlobals "_law_hidden"=some (some (.ref g24)))
  (a25:nsIn K mainGlobals "_law_program_of"=some (some (.ref g25)))
  (a26:nsIn K mainGlobals "_law_gaps_of"=some (some (.ref g26)))
  (a27:nsIn K mainGlobals "_law_gaps_in"=some (some (.ref g27)))
  (a28:nsIn K mainGlobals "_law_put"=some (some (.ref g28)))
  (a29:nsIn K mainGlobals "_law_put_in"=some (some (.ref g29)))
  (a30:nsIn K mainGlobals "_law_within"=some (some (.ref g30)))
  (a31:nsIn K mainGlobals "_law_other_opens"=some (some (.ref g31)))
  (a32:nsIn K mainGlobals "_law_fresh"=some (some (.ref g32)))
  (a33:nsIn K mainGlobals "_law_numbered"=some (some (.ref g33)))
  (a34:nsIn K mainGlobals "_law_terms_gaps"=some (some (.ref g34)))
  (a35:nsIn K mainGlobals "_law_right"=some (some (.ref g35)))
  (a36:nsIn K mainGlobals "law"=some (some (.ref g36)))
  (F1:FnAt K "innermost" "innermost" fD g1 e1)
  (F2:FnAt K "right_in" "right_in" eU g2 e2)
  (F3:FnAt K "inner_terms" "inner_terms" fh g3 e3)
  (F4:FnAt K "parts" "parts" qt g4 e4)
  (F5:FnAt K "gaps_in" "gaps_in" jE g5 e5)
  (F6:FnAt K "gaps" "gaps" jR g6 e6)
  (F7:FnAt K "_law_feed" "_law_feed" nj g7 e7)
  (F8:FnAt K "_law_take" "_law_take" nk g8 e8)
  (F9:FnAt K "_law_names" "_law_names" bY g9 e9)
  (F10:FnAt K "_law_number" "_law_number" gq g10 e10)
  (F11:FnAt K "_law_any_kind" "_law_any_kind" dI g11 e11)
  (F12:FnAt K "_law_kinds" "_law_kinds" gb g12 e12)
  (F13:FnAt K "_law_tags_of" "_law_tags_of" fE g13 e13)
  (F14:FnAt K "_law_nought" "_law_nought" dS g14 e14)
  (F15:FnAt K "_law_leaf" "_law_leaf" iE g15 e15)
  (F16:FnAt K "_law_bound" "_law_bound" eV g16 e16)
  (F17:FnAt K "_law_arms" "_law_arms" gr g17 e17)
  (F18:FnAt K "_law_generic" "_law_generic" cG g18 e18)
  (F19:FnAt K "_law_term" "_law_term" eG g19 e19)
  (F20:FnAt K "_law_scene" "_law_scene" iF g20 e20)
  (F21:FnAt K "_law_size" "_law_size" fF g21 e21)
  (F22:FnAt K "_law_words" "_law_words" cA g22 e22)
  (F23:FnAt K "_law_held" "_law_held" jv g23 e23)
  (F24:FnAt K "_law_hidden" "_law_hidden" gu g24 e24)
  (F25:FnAt K "_law_program_of" "_law_program_of" bN g25 e25)
  (F26:FnAt K "_law_gaps_of" "_law_gaps_of" fG g26 e26)
  (F27:FnAt K "_law_gaps_in" "_law_gaps_in" dY g27 e27)
  (F28:FnAt K "_law_put" "_law_put" gZ g28 e28)
  (F29:FnAt K "_law_put_in" "_law_put_in" gw g29 e29)
  (F30:FnAt K "_law_within" "_law_within" gx g30 e30)
  (F31:FnAt K "_law_other_opens" "_law_other_opens" di g31 e31)
  (F32:FnAt K "_law_fresh" "_law_fresh" gc g32 e32)
  (F33:FnAt K "_law_numbered" "_law_numbered" dc g33 e33)
  (F34:FnAt K "_law_terms_gaps" "_law_terms_gaps" cS g34 e34)
  (F35:FnAt K "_law_right" "_law_right" iG g35 e35)
  (F36:FnAt K "law" "law" kh g36 e36)
  (pP:nsIn K mainGlobals "PLACES"=some (some (.ref dP)))
  (lP:K.lookup dP=some {cls:=.type "dict",dict:=none,data:=.dict esP nP,slots:=#[]})
  (kP:Ac w esP.toList [("num",V.ref t0),("name",V.ref t1),("gap",V.ref t2),("op",V.ref t3),("more",V.ref t4),("first",V.ref t5),("others",V.ref t6),("long",V.ref t7),("if",V.ref t8)])
  (sP:(dP == sysModules)=false)
  (pM:nsIn K mainGlobals "PLACE_OF_MANY"=some (some (.ref dM)))
  (lM:K.lookup dM=some {cls:=.type "dict",dict:=none,data:=.dict esM nM,slots:=#[]})
  (kM:Ac w esM.toList nu)
  (sM:(dM == sysModules)=false)
  (q0:nX K t0 []=true)
  (q1:nX K t1 []=true)
  (q2:nX K t2 []=true)
  (q3:nX K t3 [2,3]=true)
  (q4:nX K t4 [1,2]=true)
  (q5:nX K t5 [1]=true)
  (q6:nX K t6 [1]=true)
  (q7:nX K t7 [1]=true)
  (q8:nX K t8 [1,2,3]=true)
  (z0:nsIn K mainGlobals "len"=some none)
  (z1:nsIn K mainGlobals "range"=some none)
  (z2:nsIn K mainGlobals "int"=some none)
  (z3:nsIn K mainGlobals "tuple"=some none)
  (z4:nsIn K mainGlobals "list"=some none)
  (z5:nsIn K mainGlobals "zip"=some none)
  (z6:nsIn K mainGlobals "dict"=some none)
  (z7:nsIn K mainGlobals "repr"=some none)
  (z8:nsIn K mainGlobals "all"=some none)
  (z9:nsIn K mainGlobals "max"=some none)
  (z10:nsIn K mainGlobals "sum"=some none)
  (z11:nsIn K mainGlobals "isinstance"=some none)
  (z12:nsIn K mainGlobals "str"=some none) :
  ∃fd:FuncData,(∀(s:Shared) (v:Value),BindsTo s fd ⟨[v],[]⟩ [("_law_script",v)])/\∀base:Heap,K.In base->base.Ns mainGlobals mg->bT l.prog w K mg base fk 29 fa fd ["_law_script"] (uT K):=by
 have e:=hfa.symm.trans (mg_of X G a36)
 cases e
 have B1:=F1.f.binds (ps:=["kind"]) fun _ _ _ _ _ _=>lW fun _=>rfl
 have u1:=mg_of X G a1
 have B2:=F2.f.binds (ps:=["term"]) fun _ _ _ _ _ _=>lW fun _=>rfl
 have u2:=mg_of X G a2
 have B3:=F3.f.binds (ps:=["term"]) fun _ _ _ _ _ _=>lW fun _=>rfl
 have u3:=mg_of X G a3
 have B4:=F4.f.binds (ps:=["term"]) fun _ _ _ _ _ _=>lW fun _=>rfl
 have u4:=mg_of X G a4
 have B5:=F5.f.binds (ps:=["term"]) fun _ _ _ _ _ _=>lW fun _=>rfl
 have u5:=mg_of X G a5
 have B6:=F6.f.binds (ps:=["program"]) fun _ _ _ _ _ _=>lW fun _=>rfl
 have u6:=mg_of X G a6
 have B7:=F7.f.binds (ps:=["_law_script","_law_k"]) fun _ _ _ _ _ _=>lX fun _ _=>rfl
 have u7:=mg_of X G a7
 have B8:=F8.f.binds (ps:=["_law_feed_here","_law_many"]) fun _ _ _ _ _ _=>lX fun _ _=>rfl
 have u8:=mg_of X G a8
 have B9:=F9.f.binds (ps:=["_law_feed_here","_law_many"]) fun _ _ _ _ _ _=>lX fun _ _=>rfl
 have u9:=mg_of X G a9
 have B10:=F10.f.binds (ps:=["_law_feed_here"]) fun _ _ _ _ _ _=>lW fun _=>rfl
 have u10:=mg_of X G a10
 have B11:=F11.f.binds (ps:=["_law_feed_here","_law_known","_law_down"]) fun _ _ _ _ _ _=>zT fun _ _ _=>rfl
 have u11:=mg_of X G a11
 have B12:=F12.f.binds (ps:=["_law_feed_here","_law_names_here","_law_tags"]) fun _ _ _ _ _ _=>zT fun _ _ _=>rfl
 have u12:=mg_of X G a12
 have B13:=F13.f.binds (ps:=["_law_scene_here","_law_kind"]) fun _ _ _ _ _ _=>lX fun _ _=>rfl
 have u13:=mg_of X G a13
 have B14:=F14.f.binds (ps:=["_law_feed_here","_law_scene_here","_law_kind"]) fun _ _ _ _ _ _=>zT fun _ _ _=>rfl
 have u14:=mg_of X G a14
 have B15:=F15.f.binds (ps:=["_law_feed_here","_law_scene_here","_law_around","_law_kind"]) fun _ _ _ _ _ _=>Bo fun _ _ _ _=>rfl
 have u15:=mg_of X G a15
 have B16:=F16.f.binds (ps:=["_law_around","_law_more"]) fun _ _ _ _ _ _=>lX fun _ _=>rfl
 have u16:=mg_of X G a16
 have B17:=F17.f.binds (ps:=["_law_feed_here","_law_scene_here","_law_around","_law_kind","_law_goal","_law_share","_law_down"]) fun _ _ _ _ _ _=>Di fun _ _ _ _ _ _ _=>rfl
 have u17:=mg_of X G a17
 have B18:=F18.f.binds (ps:=["_law_feed_here","_law_scene_here","_law_around","_law_kind","_law_room","_law_down"]) fun _ _ _ _ _ _=>Cs fun _ _ _ _ _ _=>rfl
 have u18:=mg_of X G a18
 have B19:=F19.f.binds (ps:=["_law_feed_here","_law_scene_here","_law_around","_law_kind","_law_room","_law_down"]) fun _ _ _ _ _ _=>Cs fun _ _ _ _ _ _=>rfl
 have u19:=mg_of X G a19
 have B20:=F20.f.binds (ps:=["_law_feed_here","_law_most_gaps"]) fun _ _ _ _ _ _=>lX fun _ _=>rfl
 have u20:=mg_of X G a20
 have B21:=F21.f.binds (ps:=["_law_term_here"]) fun _ _ _ _ _ _=>lW fun _=>rfl
 have u21:=mg_of X G a21
 have B22:=F22.f.binds (ps:=[]) fun _ _ _ _ _ _=>len0 rfl
 have u22:=mg_of X G a22
 have B23:=F23.f.binds (ps:=["_law_feed_here","_law_scene_here","_law_around","_law_kind","_law_room"]) fun _ _ _ _ _ _=>Dh fun _ _ _ _ _=>rfl
 have u23:=mg_of X G a23
 have B24:=F24.f.binds (ps:=["_law_feed_here","_law_kind","_law_opens","_law_few"]) fun _ _ _ _ _ _=>Bo fun _ _ _ _=>rfl
 have u24:=mg_of X G a24
 have B25:=F25.f.binds (ps:=["_law_feed_here","_law_scene_here","_law_room","_law_hides"]) fun _ _ _ _ _ _=>Bo fun _ _ _ _=>rfl
 have u25:=mg_of X G a25
 have B26:=F26.f.binds (ps:=["_law_program"]) fun _ _ _ _ _ _=>lW fun _=>rfl
 have u26:=mg_of X G a26
 have B27:=F27.f.binds (ps:=["_law_term_here"]) fun _ _ _ _ _ _=>lW fun _=>rfl
 have u27:=mg_of X G a27
 have B28:=F28.f.binds (ps:=["_law_term_here","_law_put_here"]) fun _ _ _ _ _ _=>lX fun _ _=>rfl
 have u28:=mg_of X G a28
 have B29:=F29.f.binds (ps:=["_law_program","_law_put_here"]) fun _ _ _ _ _ _=>lX fun _ _=>rfl
 have u29:=mg_of X G a29
 have B30:=F30.f.binds (ps:=["_law_term_here"]) fun _ _ _ _ _ _=>lW fun _=>rfl
 have u30:=mg_of X G a30
 have B31:=F31.f.binds (ps:=["_law_kind","_law_opens","_law_fresh_here"]) fun _ _ _ _ _ _=>zT fun _ _ _=>rfl
 have u31:=mg_of X G a31
 have B32:=F32.f.binds (ps:=["_law_feed_here","_law_many"]) fun _ _ _ _ _ _=>lX fun _ _=>rfl
 have u32:=mg_of X G a32
 have B33:=F33.f.binds (ps:=["_law_feed_here","_law_program"]) fun _ _ _ _ _ _=>lX fun _ _=>rfl
 have u33:=mg_of X G a33
 have B34:=F34.f.binds (ps:=["_law_term_here","_law_found"]) fun _ _ _ _ _ _=>lX fun _ _=>rfl
 have u34:=mg_of X G a34
 have B35:=F35.f.binds (ps:=["_law_program","_law_opens"]) fun _ _ _ _ _ _=>lX fun _ _=>rfl
 have u35:=mg_of X G a35
 have B36:=F36.f.binds (ps:=["_law_script"]) fun _ _ _ _ _ _=>lW fun _=>rfl
 have u36:=mg_of X G a36
 have z_len:=mg_none_of X G z0
 have z_range:=mg_none_of X G z1
 have z_int:=mg_none_of X G z2
 have z_tuple:=mg_none_of X G z3
 have z_list:=mg_none_of X G z4
 have z_zip:=mg_none_of X G z5
 have z_dict:=mg_none_of X G z6
 have z_repr:=mg_none_of X G z7
 have z_all:=mg_none_of X G z8
 have z_max:=mg_none_of X G z9
 have z_sum:=mg_none_of X G z10
 have z_isinstance:=mg_none_of X G z11
 have z_str:=mg_none_of X G z12
 have TB:Cf K w mg dP dM [("num",V.ref t0),("name",V.ref t1),("gap",V.ref t2),("op",V.ref t3),("more",V.ref t4),("first",V.ref t5),("others",V.ref t6),("long",V.ref t7),("if",V.ref t8)]:={
  mP:=mg_of X G pP,mM:=mg_of X G pM,kP:=⟨esP,nP,lP,kP,(show(["num","name","gap","op","more","first","others","long","if"]:List Str).Nodup by decide +kernel),sP⟩,kM:=⟨esM,nM,lM,kM,by decide +kernel,sM⟩,
  at_:=fun f ps hm=>by
   unfold placesOf at hm
   simp only[List.mem_cons,List.not_mem_nil,or_false,Prod.mk.injEq]at hm
   rcases hm with⟨rfl,rfl⟩|⟨rfl,rfl⟩|⟨rfl,rfl⟩|⟨rfl,rfl⟩|⟨rfl,rfl⟩|⟨rfl,rfl⟩|⟨rfl,rfl⟩|⟨rfl,rfl⟩|⟨rfl,rfl⟩
   ·exact⟨t0,rfl,iW q0 (by decide)⟩
   ·exact⟨t1,rfl,iW q1 (by decide)⟩
   ·exact⟨t2,rfl,iW q2 (by decide)⟩
   ·exact⟨t3,rfl,iW q3 (by decide)⟩
   ·exact⟨t4,rfl,iW q4 (by decide)⟩
   ·exact⟨t5,rfl,iW q5 (by decide)⟩
   ·exact⟨t6,rfl,iW q6 (by decide)⟩
   ·exact⟨t7,rfl,iW q7 (by decide)⟩
   ·exact⟨t8,rfl,iW q8 (by decide)⟩}
 obtain⟨od,kV,doc,pm,an,cdv,ct,osl,rfl,lk,cc⟩:=F36.ex
 refine⟨fnOf "law" "law" (jD kh) (bI kh) (ak kh) .none kV doc pm an cdv ct,fun s v=>.of_eq rfl,fun base _ _=>?_⟩
 have IM:bS l.prog w K mg base "innermost" 1 _ _ g1 e1:=⟨qB F1.f,u1,F1.kp,B1⟩
 have RI0:bS l.prog w K mg base "right_in" 1 _ _ g2 e2:=⟨rL F2.f TB,u2,F2.kp,B2⟩
 have IN:bS l.prog w K mg base "inner_terms" 2 _ _ g3 e3:=⟨xw F3.f RI0,u3,F3.kp,B3⟩
 have PA:bS l.prog w K mg base "parts" 3 _ _ g4 e4:=⟨xx F4.f IN,u4,F4.kp,B4⟩
 have GA:bS l.prog w K mg base "gaps_in" 4 _ _ g5 e5:=⟨tE F5.f PA,u5,F5.kp,B5⟩
 have GS:bS l.prog w K mg base "gaps" 5 _ _ g6 e6:=⟨zl F6.f IM GA,u6,F6.kp,B6⟩
 have FD:bS l.prog w K mg base "_law_feed" 1 _ _ g7 e7:=⟨za F7.f z_len,u7,F7.kp,B7⟩
 have TK:bS l.prog w K mg base "_law_take" 1 _ _ g8 e8:=⟨yZ F8.f,u8,F8.kp,B8⟩
 have NM:bS l.prog w K mg base "_law_names" 2 _ _ g9 e9:=⟨yc F9.f TK z_range z_len z_int,u9,F9.kp,B9⟩
 have NU:bS l.prog w K mg base "_law_number" 2 _ _ g10 e10:=⟨vL F10.f TK,u10,F10.kp,B10⟩
 have AK:bS l.prog w K mg base "_law_any_kind" 4 _ _ g11 e11:=⟨uU F11.f u11 B11 TK z_len 3,u11,F11.kp,B11⟩
 have KI:bS l.prog w K mg base "_law_kinds" 5 _ _ g12 e12:=⟨xK (j:=4) (by decide) F12.f TK AK z_range z_tuple,u12,F12.kp,B12⟩
 have TG:bS l.prog w K mg base "_law_tags_of" 1 _ _ g13 e13:=⟨tL F13.f,u13,F13.kp,B13⟩
 have NO:bS l.prog w K mg base "_law_nought" 6 _ _ g14 e14:=⟨nV F14.f u14 B14 NU TG z_tuple 4,u14,F14.kp,B14⟩
 have LF:bS l.prog w K mg base "_law_leaf" 7 _ _ g15 e15:=⟨zw (j:=6) F15.f (by decide) TK NO z_len z_list,u15,F15.kp,B15⟩
 have BD:bS l.prog w K mg base "_law_bound" 1 _ _ g16 e16:=⟨xO F16.f,u16,F16.kp,B16⟩
 have TE:bS l.prog w K mg base "_law_term" 26 _ _ g19 e19:=⟨sC F19.f F18.f F17.f u19 B19 u18 B18 u17 B17 TK AK TG BD LF z_len z_list z_tuple z_zip z_range z_max 6 (by decide),u19,F19.kp,B19⟩
 have SN:bS l.prog w K mg base "_law_scene" 6 _ _ g20 e20:=⟨xR (j:=5) (by decide) F20.f TK NM KI,u20,F20.kp,B20⟩
 have WD:bS l.prog w K mg base "_law_words" 1 _ _ g22 e22:=⟨xU F22.f,u22,F22.kp,B22⟩
 have SZ:bS l.prog w K mg base "_law_size" 11 _ _ g21 e21:=⟨sD F21.f u21 B21 WD z_len z_tuple z_str z_sum z_isinstance 10,u21,F21.kp,B21⟩
 have HE:bS l.prog w K mg base "_law_held" 27 _ _ g23 e23:=⟨zI (j:=26) (js:=11) (jn:=6) (by decide) (by decide) F23.f SZ TE NO,u23,F23.kp,B23⟩
 have HI:bS l.prog w K mg base "_law_hidden" 4 _ _ g24 e24:=⟨nW F24.f u24 B24 TK z_len 3,u24,F24.kp,B24⟩
 have PO:bS l.prog w K mg base "_law_program_of" 28 _ _ g25 e25:=⟨oF (j:=27) (ja:=4) (jh:=4) (by decide) (by decide) (by decide) F25.f TK AK HE HI z_range z_tuple,u25,F25.kp,B25⟩
 have LG:bS l.prog w K mg base "_law_gaps_in" 11 _ _ g27 e27:=⟨pU F27.f u27 B27 WD z_len z_tuple z_str z_isinstance 10,u27,F27.kp,B27⟩
 have GO:bS l.prog w K mg base "_law_gaps_of" 12 _ _ g26 e26:=⟨sr (j:=11) F26.f LG,u26,F26.kp,B26⟩
 have PU:bS l.prog w K mg base "_law_put" 11 _ _ g28 e28:=⟨sE F28.f u28 B28 WD z_len z_tuple z_str z_isinstance 10,u28,F28.kp,B28⟩
 have PI:bS l.prog w K mg base "_law_put_in" 12 _ _ g29 e29:=⟨vU (j:=11) F29.f PU z_tuple,u29,F29.kp,B29⟩
 have WI:bS l.prog w K mg base "_law_within" 1 _ _ g30 e30:=⟨vO F30.f z_list z_int,u30,F30.kp,B30⟩
 have OO:bS l.prog w K mg base "_law_other_opens" 4 _ _ g31 e31:=⟨yp F31.f u31 B31 z_len z_tuple z_isinstance 3,u31,F31.kp,B31⟩
 have FR:bS l.prog w K mg base "_law_fresh" 2 _ _ g32 e32:=⟨yi F32.f TK z_range,u32,F32.kp,B32⟩
 have NB:bS l.prog w K mg base "_law_numbered" 13 _ _ g33 e33:=⟨sA (j:=12) (jp:=12) (jo:=4) (by decide) (by decide) (by decide) F33.f GO FR PI OO z_len z_dict z_zip z_tuple,u33,F33.kp,B33⟩
 have TS:bS l.prog w K mg base "_law_terms_gaps" 11 _ _ g34 e34:=⟨pV F34.f u34 B34 WI 10,u34,F34.kp,B34⟩
 have RT:bS l.prog w K mg base "_law_right" 12 _ _ g35 e35:=⟨yn (j:=11) (jt:=11) (jg:=5) (by decide) (by decide) F35.f GS TS z_tuple z_isinstance z_repr,u35,F35.kp,B35⟩
 exact Bm (j:=28) (js:=6) (jn:=13) (jr:=12) (by decide) (by decide) (by decide) (by decide) ⟨⟨_,od,kV,doc,pm,an,cdv,ct,osl,rfl,lk,cc⟩,F36.kp⟩ FD TK SN PO NB RT z_range z_max z_len z_all
theorem walk{l:PySem.W.OpenLaw}{q:Program}{loose:List Str}{XP:(Str->Option Value)->Heap->Prop}{YP:World->Heap->Prop}{d:DefRec}{K:Params->PySem.W.Frag}(hn:l.most=some 63)(hdf:d.params.defaults=[])
  (hY:∀(w:World) (h:Heap),YP w h->(K w.params).In h)
  (F:∀(w:World) (mg:Str->Option Value) (fa:Addr) (h:Heap),(K w.params).In h->h.Ns mainGlobals mg->mg d.name=some (.ref fa) ->
   ∃fd:FuncData,(∀(s:Shared) (u:Value),BindsTo s fd ⟨[u],[]⟩ [("_law_script",u)])/\∀base:Heap,(K w.params).In base->base.Ns mainGlobals mg->bT l.prog w (K w.params) mg base fk 29 fa fd ["_law_script"] (uT (K w.params))) :
  PySem.W.WalkO q loose XP YP l.row.toRowW d [] (fun f vs=>PySem.call f vs) :=
 L2.yK (n:=63) (k:=29) (x:="_law_script") (CX:=fun _=>fk) (sp:=fun w=>uT (K w.params)) hn (by decide) hdf ⟨rfl,by decide,by decide,rfl⟩ hY F (fun _ _ a ns hl _ hS=>⟨a,ns,rfl,hS,hl,fun _=>rfl⟩) fun _ _ _ _ _ z=>z
end G03
theorem PySem.W.Fast.tw15073167938456120327:True:=⟨⟩
theorem PySem.W.Fast.tw402934092983284337:True:=⟨⟩
theorem PySem.W.Fast.tw9023148613364833314:True:=⟨⟩
theorem PySem.W.Fast.tw12681551540163052485:True:=⟨⟩
theorem PySem.W.Fast.tw5366958944701682564:True:=⟨⟩
theorem PySem.W.Fast.tw2578043398652289509:True:=⟨⟩
theorem PySem.W.Fast.tw14506400206102894085:True:=⟨⟩
theorem PySem.W.Fast.tw16394611109295984106:True:=⟨⟩
theorem PySem.W.Fast.tw8954651433915873256:True:=⟨⟩
theorem PySem.W.Fast.tw117889748748266804:True:=⟨⟩
theorem PySem.W.Fast.tw10208005996520150413:True:=⟨⟩
theorem PySem.W.Fast.tw6007112933282983561:True:=⟨⟩
theorem PySem.W.Fast.tw2182031233867883401:True:=⟨⟩
theorem PySem.W.Fast.tw2096157718630840549:True:=⟨⟩
theorem PySem.W.Fast.tw2401182676916884383:True:=⟨⟩
theorem PySem.W.Fast.tw6263081190338029247:True:=⟨⟩
theorem PySem.W.Fast.tw14772006820871617518:True:=⟨⟩
theorem PySem.W.Fast.tw10917958880178607120:True:=⟨⟩
theorem PySem.W.Fast.tw6995891193062360170:True:=⟨⟩
theorem PySem.W.Fast.tw5789238802055503428:True:=⟨⟩
theorem PySem.W.Fast.tw9943105999182166470:True:=⟨⟩
theorem PySem.W.Fast.tw8715601862846176764:True:=⟨⟩
theorem PySem.W.Fast.tw2073381238575703359:True:=⟨⟩
theorem PySem.W.Fast.tw9476528456994184817:True:=⟨⟩
theorem PySem.W.Fast.tw14033408289024709746:True:=⟨⟩
theorem PySem.W.Fast.tw3671951135144819567:True:=⟨⟩
theorem PySem.W.Fast.tw7666880848366659281:True:=⟨⟩
theorem PySem.W.Fast.tw4872893246296797335:True:=⟨⟩
theorem PySem.W.Fast.tw14182209518850065170:True:=⟨⟩
theorem PySem.W.Fast.tw10859608732147181587:True:=⟨⟩
theorem PySem.W.Fast.tw8906738312395871995:True:=⟨⟩
theorem PySem.W.Fast.tw5029489464591867020:True:=⟨⟩
theorem PySem.W.Fast.tw7289296408807501937:True:=⟨⟩
theorem PySem.W.Fast.tw17790083429295699666:True:=⟨⟩
open PySem PySem.W PyProof.Rows
set_option maxRecDepth 100000 in
set_option maxHeartbeats 0 in
theorem PySem.Challenge.cw_gapwork_k03_gaps_of_programs_holds : PySem.Challenge.rw_gapwork_k03_gaps_of_programs.Holds := by
  w_on; o_law; k_head; (case hw => w_witness2)
  k_fill
  refine G03.walk (l := PySem.Challenge.rw_gapwork_k03_gaps_of_programs) rfl rfl (fun w h Y => PySem.W.kIn_of Y) ?F
  case F =>
    intro w mg fa h KX G hmg
    refine' G03.all_mk KX G hmg ?a1 ?a2 ?a3 ?a4 ?a5 ?a6 ?a7 ?a8 ?a9 ?a10 ?a11 ?a12 ?a13 ?a14 ?a15 ?a16 ?a17 ?a18 ?a19 ?a20 ?a21 ?a22 ?a23 ?a24 ?a25 ?a26 ?a27 ?a28 ?a29 ?a30 ?a31 ?a32 ?a33 ?a34 ?a35 ?a36 ?F1 ?F2 ?F3 ?F4 ?F5 ?F6 ?F7 ?F8 ?F9 ?F10 ?F11 ?F12 ?F13 ?F14 ?F15 ?F16 ?F17 ?F18 ?F19 ?F20 ?F21 ?F22 ?F23 ?F24 ?F25 ?F26 ?F27 ?F28 ?F29 ?F30 ?F31 ?F32 ?F33 ?F34 ?F35 ?F36 ?pP ?lP ?kP ?sP ?pM ?lM ?kM ?sM ?q0 ?q1 ?q2 ?q3 ?q4 ?q5 ?q6 ?q7 ?q8 ?z0 ?z1 ?z2 ?z3 ?z4 ?z5 ?z6 ?z7 ?z8 ?z9 ?z10 ?z11 ?z12
    (case a1 => k_is)
    (case a2 => k_is)
    (case a3 => k_is)
    (case a4 => k_is)
    (case a5 => k_is)
    (case a6 => k_is)
    (case a7 => k_is)
    (case a8 => k_is)
    (case a9 => k_is)
    (case a10 => k_is)
    (case a11 => k_is)
    (case a12 => k_is)
    (case a13 => k_is)
    (case a14 => k_is)
    (case a15 => k_is)
    (case a16 => k_is)
    (case a17 => k_is)
    (case a18 => k_is)
    (case a19 => k_is)
    (case a20 => k_is)
    (case a21 => k_is)
    (case a22 => k_is)
    (case a23 => k_is)
    (case a24 => k_is)
    (case a25 => k_is)
    (case a26 => k_is)
    (case a27 => k_is)
    (case a28 => k_is)
    (case a29 => k_is)
    (case a30 => k_is)
    (case a31 => k_is)
    (case a32 => k_is)
    (case a33 => k_is)
    (case a34 => k_is)
    (case a35 => k_is)
    (case a36 => k_is)
    (case F1 => exact G03.aS (by k_is) (by k_is) (by k_is))
    (case F2 => exact G03.aS (by k_is) (by k_is) (by k_is))
    (case F3 => exact G03.aS (by k_is) (by k_is) (by k_is))
    (case F4 => exact G03.aS (by k_is) (by k_is) (by k_is))
    (case F5 => exact G03.aS (by k_is) (by k_is) (by k_is))
    (case F6 => exact G03.aS (by k_is) (by k_is) (by k_is))
    (case F7 => exact G03.aS (by k_is) (by k_is) (by k_is))
    (case F8 => exact G03.aS (by k_is) (by k_is) (by k_is))
    (case F9 => exact G03.aS (by k_is) (by k_is) (by k_is))
    (case F10 => exact G03.aS (by k_is) (by k_is) (by k_is))
    (case F11 => exact G03.aS (by k_is) (by k_is) (by k_is))
    (case F12 => exact G03.aS (by k_is) (by k_is) (by k_is))
    (case F13 => exact G03.aS (by k_is) (by k_is) (by k_is))
    (case F14 => exact G03.aS (by k_is) (by k_is) (by k_is))
    (case F15 => exact G03.aS (by k_is) (by k_is) (by k_is))
    (case F16 => exact G03.aS (by k_is) (by k_is) (by k_is))
    (case F17 => exact G03.aS (by k_is) (by k_is) (by k_is))
    (case F18 => exact G03.aS (by k_is) (by k_is) (by k_is))
    (case F19 => exact G03.aS (by k_is) (by k_is) (by k_is))
    (case F20 => exact G03.aS (by k_is) (by k_is) (by k_is))
    (case F21 => exact G03.aS (by k_is) (by k_is) (by k_is))
    (case F22 => exact G03.aS (by k_is) (by k_is) (by k_is))
    (case F23 => exact G03.aS (by k_is) (by k_is) (by k_is))
    (case F24 => exact G03.aS (by k_is) (by k_is) (by k_is))
    (case F25 => exact G03.aS (by k_is) (by k_is) (by k_is))
    (case F26 => exact G03.aS (by k_is) (by k_is) (by k_is))
    (case F27 => exact G03.aS (by k_is) (by k_is) (by k_is))
    (case F28 => exact G03.aS (by k_is) (by k_is) (by k_is))
    (case F29 => exact G03.aS (by k_is) (by k_is) (by k_is))
    (case F30 => exact G03.aS (by k_is) (by k_is) (by k_is))
    (case F31 => exact G03.aS (by k_is) (by k_is) (by k_is))
    (case F32 => exact G03.aS (by k_is) (by k_is) (by k_is))
    (case F33 => exact G03.aS (by k_is) (by k_is) (by k_is))
    (case F34 => exact G03.aS (by k_is) (by k_is) (by k_is))
    (case F35 => exact G03.aS (by k_is) (by k_is) (by k_is))
    (case F36 => exact G03.aS (by k_is) (by k_is) (by k_is))
    (case pP => k_is)
    (case lP => k_is)
    (case kP => exact ⟨_, _, _, rfl, ⟨_, rfl⟩, rfl, rfl, ⟨_, _, _, rfl, ⟨_, rfl⟩, rfl, rfl, ⟨_, _, _, rfl, ⟨_, rfl⟩, rfl, rfl, ⟨_, _, _, rfl, ⟨_, rfl⟩, rfl, rfl, ⟨_, _, _, rfl, ⟨_, rfl⟩, rfl, rfl, ⟨_, _, _, rfl, ⟨_, rfl⟩, rfl, rfl, ⟨_, _, _, rfl, ⟨_, rfl⟩, rfl, rfl, ⟨_, _, _, rfl, ⟨_, rfl⟩, rfl, rfl, ⟨_, _, _, rfl, ⟨_, rfl⟩, rfl, rfl, rfl⟩⟩⟩⟩⟩⟩⟩⟩⟩)
    (case sP => kernel_rfl)
    (case pM => k_is)
    (case lM => k_is)
    (case kM => exact ⟨_, _, _, rfl, ⟨_, rfl⟩, rfl, ⟨_, rfl⟩, ⟨_, _, _, rfl, ⟨_, rfl⟩, rfl, ⟨_, rfl⟩, ⟨_, _, _, rfl, ⟨_, rfl⟩, rfl, ⟨_, rfl⟩, rfl⟩⟩⟩)
    (case sM => kernel_rfl)
    (case q0 => kernel_rfl)
    (case q1 => kernel_rfl)
    (case q2 => kernel_rfl)
    (case q3 => kernel_rfl)
    (case q4 => kernel_rfl)
    (case q5 => kernel_rfl)
    (case q6 => kernel_rfl)
    (case q7 => kernel_rfl)
    (case q8 => kernel_rfl)
    (case z0 => k_is)
    (case z1 => k_is)
    (case z2 => k_is)
    (case z3 => k_is)
    (case z4 => k_is)
    (case z5 => k_is)
    (case z6 => k_is)
    (case z7 => k_is)
    (case z8 => k_is)
    (case z9 => k_is)
    (case z10 => k_is)
    (case z11 => k_is)
    (case z12 => k_is)
#print axioms PySem.Challenge.cw_gapwork_k03_gaps_of_programs_holds
