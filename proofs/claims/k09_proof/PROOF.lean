import PyProof.Rows.All
import Wide.All
import OpenK.AllK
import Wide.FinOn
import PyProof.EqAt
import PyProof.EqKinds
import PyProof.NeKinds
import PyProof.TupleCall
import PyProof.StrLawsRepr
import KE.KIsAll
import KE.KItem
import KE.KDictOf
import KE.KBytesAny
import KE.KDictList
import Lean
import PySem.Challenge.RW_gapwork_k09_whole_programs_written_and_r
set_option Elab.async false
set_option linter.all false
set_option maxRecDepth 100000
namespace L2
open PySem PySem.Spec PyProof.Rows
noncomputable abbrev Key:=Sum Int Str
noncomputable def sr:Key->Value->Bool
 |.inl k,v=>Value.isInt k v
 |.inr x,v=>Value.isStrOf x v
noncomputable def Kz(w:World):Key->Int
 |.inl k=>hashInt k
 |.inr x=>hashStr w x
theorem dc:∀{k:Key}{v:Value},sr k v=true->(∃i t,k=Sum.inl i/\v=Value.int i t)\/(∃x t,k=Sum.inr x/\v=Value.str x t)
 |.inl i,v,h=>by
  obtain⟨t,e⟩:=Value.isInt_shape (k:=i) (v:=v) h
  exact .inl ⟨i,t,rfl,e⟩
 |.inr x,v,h=>by
  obtain⟨t,e⟩:=Value.isStrOf_shape (x:=x) (v:=v) h
  exact .inr ⟨x,t,rfl,e⟩
theorem AD(i:Int)(t:Tok):sr (.inl i) (.int i t)=true:=by simp[sr,Value.isInt]
theorem AE(x:Str)(t:Tok):sr (.inr x) (.str x t)=true:=by simp[sr,Value.isStrOf]
theorem Hh(a b:Int):decide ((Sum.inl a:Key)=Sum.inl b)=(a == b):=by
 by_cases e:a=b
 ·subst e;simp
 ·have h:¬(Sum.inl a:Key)=Sum.inl b:=fun q=>e (Sum.inl.inj q)
  rw[decide_eq_false h]
  exact(beq_eq_false_iff_ne.mpr e).symm
theorem Hi(a b:Str):decide ((Sum.inr a:Key)=Sum.inr b)=decide (a=b):=by
 by_cases e:a=b
 ·subst e;simp
 ·have h:¬(Sum.inr a:Key)=Sum.inr b:=fun q=>e (Sum.inr.inj q)
  rw[decide_eq_false h,decide_eq_false e]
theorem Hj(a:Int)(b:Str):decide ((Sum.inl a:Key)=Sum.inr b)=false:=decide_eq_false (fun q=>nomatch q)
theorem Hl(a:Str)(b:Int):decide ((Sum.inr a:Key)=Sum.inl b)=false:=decide_eq_false (fun q=>nomatch q)
noncomputable def dH(prog:Program)(w:World):PySem.KeyKind prog w Key where
 is:=sr
 hash:=Kz w
 inj:=fun v a b ha hb=>by
  rcases dc ha with⟨i,t,rfl,rfl⟩|⟨x,t,rfl,rfl⟩
  ·rcases dc hb with⟨j,u,rfl,e⟩|⟨y,u,rfl,e⟩
   ·injection e with e1 _;rw[e1]
   ·exact nomatch e
  ·rcases dc hb with⟨j,u,rfl,e⟩|⟨y,u,rfl,e⟩
   ·exact nomatch e
   ·injection e with e1 _;rw[e1]
 byValue:=fun k v h=>by
  rcases dc h with⟨i,t,rfl,rfl⟩|⟨x,t,rfl,rfl⟩<;>rfl
 pyHash:=fun hv h=>by
  rcases dc hv with⟨i,t,rfl,rfl⟩|⟨x,t,rfl,rfl⟩
  ·exact wpAny_pyHash_int h
  ·exact wpAny_pyHash_str h
 eqBool:=fun hu hv h=>by
  rcases dc hu with⟨i,t,rfl,rfl⟩|⟨x,t,rfl,rfl⟩
  ·rcases dc hv with⟨j,u,rfl,rfl⟩|⟨y,u,rfl,rfl⟩
   ·rw[Hh]at h;exact wpAny_eqBool_int h
   ·rw[Hj]at h;exact SeqAt.EqAt.int_str i t y u _ _ _ _ h
  ·rcases dc hv with⟨j,u,rfl,rfl⟩|⟨y,u,rfl,rfl⟩
   ·rw[Hl]at h;exact SeqAt.EqAt.str_int x t j u _ _ _ _ h
   ·rw[Hi]at h;exact wpAny_eqBool_str h
 «strs»:=fun k x t v h=>by
  rcases dc h with⟨i,u,rfl,e⟩|⟨y,u,rfl,e⟩
  ·exact nomatch e
  ·injection e with e1 _
   subst e1
   cases v<;>rfl
theorem vp(prog:Program)(w:World)(i:Int)(t:Tok):(dH prog w).is (.inl i) (.int i t)=true:=AD i t
theorem vq(prog:Program)(w:World)(x:Str)(t:Tok):(dH prog w).is (.inr x) (.str x t)=true:=AE x t
inductive V where
 |ik|bl (b:Bool)|int (i:Int)|str (x:Str)|byt (b:Array UInt8)|flt (b:UInt64)|ref (a:Addr)|ty (n:String)
 deriving DecidableEq
noncomputable def RelV:V->Value->Prop
 |.ik,u=>u=Value.none
 |.bl b,u=>u=Value.bool b
 |.int i,u=>∃t,u=Value.int i t
 |.str x,u=>∃t,u=Value.str x t
 |.byt b,u=>∃t,u=Value.bytes b t
 |.flt b,u=>∃t,u=Value.float b t
 |.ref a,u=>u=Value.ref a
 |.ty n,u=>u=Value.type n
noncomputable abbrev Vals:List V->List Value->Prop:=Paired RelV
theorem Vals.length{xs:List V}{us:List Value}(r:Vals xs us):xs.length=us.length:=Paired.length r
theorem Vals.get:∀{xs:List V}{us:List Value}{i:Nat}{x:V},Vals xs us->xs[i]?=some x->∃u,us[i]?=some u/\RelV x u
 |_,_,_,_,.nil,e=>by simp at e
 |_,_,0,_,.cons r _,e=>by simp at e;subst e;exact⟨_,rfl,r⟩
 |_,_,i+1,x,.cons _ t,e=>by
  obtain⟨u,h1,h2⟩:=Vals.get (i:=i) (x:=x) t (by simpa using e)
  exact⟨u,by simpa using h1,h2⟩
theorem Vals.set{x:V}{u:Value}(r:RelV x u):∀{xs:List V}{us:List Value}(i:Nat),Vals xs us->Vals (xs.set i x) (us.set i u)
 |_,_,_,.nil=>.nil
 |_,_,0,.cons _ t=>.cons r t
 |_,_,i+1,.cons q t=>.cons q (Vals.set r i t)
theorem Vals.append:∀{xs ys:List V}{us ws:List Value},Vals xs us->Vals ys ws->Vals (xs++ys) (us++ws)
 |_,_,_,_,.nil,s=>s
 |_,_,_,_,.cons r t,s=>.cons r (Vals.append t s)
theorem Vals.take:∀{xs:List V}{us:List Value}(n:Nat),Vals xs us->Vals (xs.take n) (us.take n)
 |_,_,0,_=>.nil
 |_,_,_+1,.nil=>.nil
 |_,_,n+1,.cons r t=>.cons r (Vals.take n t)
theorem Vals.drop:∀{xs:List V}{us:List Value}(n:Nat),Vals xs us->Vals (xs.drop n) (us.drop n)
 |_,_,0,r=>r
 |_,_,_+1,.nil=>.nil
 |_,_,n+1,.cons _ t=>Vals.drop n t
theorem Vals.none_of:∀{xs:List V}{us:List Value}{i:Nat},Vals xs us->xs[i]?=none->us[i]?=none:=fun{xs us i} r e=>by
 have h1:=r.length
 have h2:xs.length<=i:=List.getElem?_eq_none_iff.mp e
 exact List.getElem?_eq_none_iff.mpr (by omega)
noncomputable def mE:Option V->Option Value->Prop
 |some v,some u=>RelV v u
 |none,none=>True
 |_,_=>False
noncomputable def KV{κ:Type}:List (κ×V)->List (κ×Value)->Prop:=Paired fun(p:κ×V) (q:κ×Value)=>p.1=q.1/\RelV p.2 q.2
noncomputable def kV:Key->V
 |.inl i=>.int i
 |.inr x=>.str x
inductive HO where
 /-- a list -/
 |lst (xs:List V)
 /-- a tuple (never changes) -/
 |tup (xs:List V)
 /-- a dict whose keys are ints and texts;one whose keys are tuples of ints and texts (the empty one is both) -/
 |dK (kvs:List (Key×V))|dT (kvs:List (List Key×V))
 /-- a set of ints: its members,its size -/
 |set (S:Int->Bool) (n:Nat)
 /-- an instance of the class at C,its dict at dx,its attributes -/
 |ins (C dx:Addr) (fs:List (Str×V))
 /-- the dict of the instance at x -/
 |own (x:Addr)
 /-- the dict of an exception -/
 |xd (fs:List (Str×V))
 /-- a bound method,f of x -/
 |met (f x:Addr)
 /-- a range object lo,lo+1,.. below hi -/
 |rng (lo hi:Int)
 /-- a thing that is known to the object (the script;a dict while a loop walks it): read,never written while it is so -/
 |frz (o:Obj) (u:HO)
 /-- a code object's table -/
 |tbl (ps:Array Value)
 /-- any other thing,by what is true of its one object (a def of one's own: SetO a S n:=HO.ext fun h=>..) -/
 |ext (φ:Heap->Prop)
noncomputable abbrev Hp:=Addr->Option HO
noncomputable def upd(H:Hp)(a:Addr)(o:HO):Hp:=fun b=>if b=a then some o else H b
theorem aa{H:Hp}{a:Addr}{o:HO}:upd H a o a=some o:=by unfold upd;rw[if_pos rfl]
theorem ay{H:Hp}{a b:Addr}{o:HO}(h:b≠a):upd H a o b=H b:=by unfold upd;rw[if_neg h]
theorem yW{H:Hp}{a:Addr}{o u:HO}:upd (upd H a o) a u=upd H a u:=by
 funext b;unfold upd;split<;>rfl
theorem su{H:Hp}{a b:Addr}{o u:HO}(h:H a=some o)(h':H b=some u)(d:o≠u):a≠b:=by
 intro e;subst e;rw[h]at h';exact d (Option.some.inj h')
theorem bG{H:Hp}{a b:Addr}{o:HO}(h:H a=some o)(h':H b=none):a≠b:=by
 intro e;subst e;rw[h]at h';cases h'
section
variable (P:Program) (w:World)
noncomputable def LV(h:Heap)(a:Addr):Prop:=∃o,h.get? a=some o/\o.dict=none
noncomputable def eS(H:Hp)(h:Heap)(a:Addr):HO->Prop
 |.lst xs=>xs.length<=sizeLine/\∃(its:List Value) (n:Nat),Vals xs its/\h.get? a=some {cls:=.type "list",data:=.seq its.toArray n}
 |.tup xs=>xs.length<=sizeLine/\∃its:List Value,Vals xs its/\IsTup h a its.toArray/\LV h a
 |.dK kvs=>kvs.length<=sizeLine/\(a == sysModules)=false/\∃vs,KV kvs vs/\h.DictOf (dH P w) a vs
 |.dT kvs=>kvs.length<=sizeLine/\(a == sysModules)=false/\∃xs:List (List Key×Addr×Value),
   Paired (fun(p:List Key×V) (q:List Key×Addr×Value)=>p.1=q.1/\H q.2.1=some (.tup (p.1.map kV))/\RelV p.2 q.2.2) kvs xs /\
   ∃o es ep,h.get? a=some o/\o.ExactDict/\o.data=.dict es ep/\es.toList=xs.map (entryOfKey (tupleKind (dH P w)))/\(xs.map (·.1)).Nodup
 |.set S n=>h.SetOf (intKind P w) a S n
 |.ins C dx fs=>H dx=some (.own a)/\fs.length<=1000/\dx≠a/\h.get? a=some (PySem.W.instObj C dx) /\
   ∃mA,h.Ns1 dx mA/\(∀f,mE (fs.lookup f) (mA f))/\PySem.Within mA (fs.map (·.1))
 |.own _=>∃o,h.get? a=some o
 |.xd fs=>∃mA,h.Ns1 a mA/\∀f,mE (fs.lookup f) (mA f)
 |.rng lo hi=>∃t u v,h.get? a=some {cls:=.type "range",data:=.fields #[.int lo t,.int hi u,.int 1 v]}
 |.frz o u=>h.get? a=some o/\eS H h a u
 |.tbl ps=>h.get? a=some {cls:=.none,data:=.fields ps}
 |.met f x=>h.get? a=some (PySem.W.methodObj (.ref f) (.ref x))
 |.ext φ=>φ h/\(∃o,h.get? a=some o)/\∀h1 h2:Heap,φ h1->(∀o,h1.get? a=some o->h2.get? a=some o)->φ h2
noncomputable def ng(H:Hp)(h:Heap):Prop:=∀a o,H a=some o->eS P w H h a o
end
section
variable {P:Program}{w:World}{H H':Hp}{h h':Heap}{a:Addr}{o:HO}
theorem eS.lt(x:eS P w H h a o):a<h.objs.size:=by
 cases o with
 |lst xs=>obtain⟨_,_,_,_,e⟩:=x;exact Heap.lt_size e
 |tup xs=>obtain⟨_,_,_,p,_⟩:=x;exact p.lt
 |dK kvs=>obtain⟨_,_,_,_,o,_,_,e,_⟩:=x;exact Heap.lt_size e
 |dT kvs=>obtain⟨_,_,_,_,o,_,_,e,_⟩:=x;exact Heap.lt_size e
 |set S n=>obtain⟨o,_,_,_,e,_⟩:=x;exact Heap.lt_size e
 |ins C dx fs=>obtain⟨_,_,_,e,_⟩:=x;exact Heap.lt_size e
 |own y=>obtain⟨_,e⟩:=x;exact Heap.lt_size e
 |xd fs=>obtain⟨_,⟨_,_,_,e,_⟩,_⟩:=x;exact Heap.lt_size e
 |rng lo hi=>obtain⟨_,_,_,e⟩:=x;exact Heap.lt_size e
 |frz ob u=>obtain⟨e,_⟩:=x;exact Heap.lt_size e
 |tbl ps=>exact Heap.lt_size (show h.get? a=some _ from x)
 |met f y=>exact Heap.lt_size (show h.get? a=some _ from x)
 |ext φ=>obtain⟨_,⟨_,e⟩,_⟩:=x;exact Heap.lt_size e
theorem Paired.Ho{α β:Type}{F G:α->β->Prop}:∀{l₁:List α}{l₂:List β},Paired F l₁ l₂->(∀a b,F a b->G a b)->Paired G l₁ l₂
 |_,_,.nil,_=>.nil
 |_,_,.cons r t,f=>.cons (f _ _ r) (Paired.Ho t f)
theorem eS.stay(x:eS P w H h a o)(k:∀b u,(b=a\/H b=some (.own a))->h.get? b=some u->h'.get? b=some u)
  (ho:∀b,H b=some (.own a)->H' b=some (.own a)) (ht:∀b xs,H b=some (.tup xs)->H' b=some (.tup xs)):eS P w H' h' a o:=by
 induction o with
 |lst xs=>obtain⟨z,its,n,r,e⟩:=x;exact⟨z,its,n,r,k _ _ (.inl rfl) e⟩
 |tup xs=>obtain⟨z,its,r,⟨ob,e,c⟩,o2,e2,d2⟩:=x;exact⟨z,its,r,⟨ob,k _ _ (.inl rfl) e,c⟩,o2,k _ _ (.inl rfl) e2,d2⟩
 |dK kvs=>obtain⟨z,y,vs,r,ob,es,ep,e,c⟩:=x;exact⟨z,y,vs,r,ob,es,ep,k _ _ (.inl rfl) e,c⟩
 |dT kvs =>
  obtain⟨z,y,xs,r,ob,es,ep,e,c⟩:=x
  exact⟨z,y,xs,Paired.Ho r fun p q z=>⟨z.1,ht _ _ z.2.1,z.2.2⟩,ob,es,ep,k _ _ (.inl rfl) e,c⟩
 |set S n=>obtain⟨ob,es,ep,t,e,c⟩:=x;exact⟨ob,es,ep,t,k _ _ (.inl rfl) e,c⟩
 |ins C dx fs =>
  obtain⟨d,z,ne,e,mA,⟨od,es,ep,e2,c⟩,r⟩:=x
  exact⟨ho _ d,z,ne,k _ _ (.inl rfl) e,mA,⟨od,es,ep,k _ _ (.inr d) e2,c⟩,r⟩
 |own y=>obtain⟨ob,e⟩:=x;exact⟨ob,k _ _ (.inl rfl) e⟩
 |xd fs=>obtain⟨mA,⟨od,es,ep,e,c⟩,r⟩:=x;exact⟨mA,⟨od,es,ep,k _ _ (.inl rfl) e,c⟩,r⟩
 |rng lo hi=>obtain⟨t,u,v,e⟩:=x;exact⟨t,u,v,k _ _ (.inl rfl) e⟩
 |frz ob u ih=>obtain⟨e,q⟩:=x;exact⟨k _ _ (.inl rfl) e,ih q⟩
 |tbl ps =>
  have e:h.get? a=some {cls:=.none,data:=.fields ps}:=x
  show h'.get? a=some {cls:=.none,data:=.fields ps}
  exact k a _ (.inl rfl) e
 |met f y =>
  have e:h.get? a=some (PySem.W.methodObj (.ref f) (.ref y)):=x
  show h'.get? a=some (PySem.W.methodObj (.ref f) (.ref y))
  exact k a _ (.inl rfl) e
 |ext φ=>obtain⟨p,⟨o,e⟩,st⟩:=x;exact⟨st _ _ p fun o q=>k _ _ (.inl rfl) q,⟨o,k _ _ (.inl rfl) e⟩,st⟩
theorem ng.lt(x:ng P w H h)(e:H a=some o):a<h.objs.size:=(x a o e).lt
theorem ng.fresh(x:ng P w H h)(e:h.objs.size<=a):H a=none:=by
 cases q:H a with
 |none=>rfl
 |some u=>exact absurd (Nat.lt_of_lt_of_le (x.lt q) e) (Nat.lt_irrefl _)
theorem ng.kept(x:ng P w H h)(k:∀b u,h.get? b=some u->h'.get? b=some u):ng P w H h':=fun a o e =>
 (x a o e).stay (fun b u _ q=>k b u q) (fun _ q=>q) fun _ _ q=>q
theorem ng.laid(x:ng P w H h)(k:∀b u,h.get? b=some u->h'.get? b=some u)(hp:h.objs.size<=a)(new:eS P w (upd H a o) h' a o):ng P w (upd H a o) h':=fun b u e=>by
 have hn:=x.fresh hp
 by_cases hb:b=a
 ·subst hb;rw[aa]at e;cases e;exact new
 ·rw[ay hb]at e
  exact(x b u e).stay (fun c v _ q=>k c v q) (fun c q=>by rw[ay (bG q hn)];exact q) fun c xs q=>by rw[ay (bG q hn)];exact q
end
noncomputable def Rd(H:Hp)(a:Addr)(u:HO):Prop:=H a=some u\/∃o,H a=some (.frz o u)
theorem Rd.ok{P:Program}{w:World}{H:Hp}{h:Heap}{a:Addr}{u:HO}(r:Rd H a u)(x:ng P w H h):eS P w H h a u:=by
 rcases r with r|⟨o,r⟩
 ·exact x a u r
 ·obtain⟨_,q⟩:=x a _ r
  exact q
noncomputable def Jg:Option HO->Prop
 |some (.lst _)=>True
 |some (.dK _)=>True
 |some (.dT _)=>True
 |some (.set _ _)=>True
 |some (.ins _ _ _)=>True
 |some (.ext _)=>True
 |_=>False
section
variable {P:Program}{w:World}{H:Hp}{h h':Heap}{x e:Addr}{o':HO}
theorem ng.write(ok:ng P w H h)(mu:Jg (H x))(he:e=x\/H e=some (.own x))(k:∀b u,b≠e->h.get? b=some u->h'.get? b=some u)(heo:∃u,h'.get? e=some u)
  (new:eS P w (upd H x o') h' x o'):ng P w (upd H x o') h':=fun b u q=>by
 have nown:∀c y,H c=some (.own y)->c≠x:=fun c y r z=>by subst z;rw[r]at mu;exact mu
 have ntup:∀c xs,H c=some (.tup xs)->c≠x:=fun c xs r z=>by subst z;rw[r]at mu;exact mu
 by_cases hb:b=x
 ·subst hb;rw[aa]at q;cases q;exact new
 ·rw[ay hb]at q
  by_cases hbe:b=e
  ·have q':H b=some (.own x):=by
    rcases he with z|z
    ·exact absurd (hbe.trans z) hb
    ·rw[hbe];exact z
   rw[q]at q';cases q'
   obtain⟨v,hv⟩:=heo
   exact⟨v,by rw[hbe];exact hv⟩
  ·refine(ok b u q).stay (fun c v hc r=>k c v ?_ r) (fun c r=>by rw[ay (nown c b r)];exact r) fun c xs r=>by rw[ay (ntup c xs r)];exact r
   rcases hc with rfl|hc
   ·exact hbe
   ·rintro rfl
    rcases he with z|z
    ·exact nown c b hc z
    ·rw[hc]at z;cases z;exact hb rfl
end
structure Un(fs ex:List Addr) (H H':Hp) (h h':Heap):Prop where
 keep:∀b o,h.get? b=some o->H b=none->b∉fs->b∉ex->h'.get? b=some o
 slot:∀b o,h.get? b=some o->H b=none->b∈fs->b∉ex->∃sl,h'.get? b=some {o with slots:=sl}
 free:∀b o,h.get? b=some o->H b=none->b∉ex->H' b=none
 there:∀b o,h.get? b=some o->b∉ex->∃o',h'.get? b=some o'
 tups:∀b xs,H b=some (.tup xs)->H' b=some (.tup xs)
 frzs:∀b o u,H b=some (.frz o u)->H' b=some (.frz o u)
 tbls:∀b ps,H b=some (.tbl ps)->∃more,H' b=some (.tbl (ps++more))
section
variable {fs fs' ex ex':List Addr}{H H1 H2:Hp}{h h1 h2 h':Heap}{a x e:Addr}{o:HO}
theorem Un.any(u:Un fs ex H H1 h h1){b:Addr}{ob:Obj}(q:h.get? b=some ob)(n:H b=none)(hx:b∉ex):∃sl,h1.get? b=some {ob with slots:=sl}:=by
 by_cases hb:b∈fs
 ·exact u.slot b ob q n hb hx
 ·exact⟨ob.slots,u.keep b ob q n hb hx⟩
theorem Un.trans(a:Un fs ex H H1 h h1)(b:Un fs ex H1 H2 h1 h2):Un fs ex H H2 h h2 where
 keep:=fun c ob q n hc hx=>b.keep c ob (a.keep c ob q n hc hx) (a.free c ob q n hx) hc hx
 slot:=fun c ob q n hc hx=>by
  obtain⟨sl,e1⟩:=a.slot c ob q n hc hx
  obtain⟨sl',e2⟩:=b.slot c _ e1 (a.free c ob q n hx) hc hx
  exact⟨sl',e2⟩
 free:=fun c ob q n hx=>by
  obtain⟨o',e1⟩:=a.there c ob q hx
  exact b.free c o' e1 (a.free c ob q n hx) hx
 there:=fun c ob q hx=>by
  obtain⟨o',e1⟩:=a.there c ob q hx
  exact b.there c o' e1 hx
 tups:=fun c xs q=>b.tups c xs (a.tups c xs q)
 frzs:=fun c ob xs q=>b.frzs c ob xs (a.frzs c ob xs q)
 tbls:=fun c ps q=>by
  obtain⟨m1,e1⟩:=a.tbls c ps q
  obtain⟨m2,e2⟩:=b.tbls c _ e1
  exact⟨m1++m2,by rw[e2,Array.append_assoc]⟩
theorem Un.kept(k:∀b u,h.get? b=some u->h'.get? b=some u):Un fs ex H H h h' :=
 ⟨fun b ob q _ _ _=>k b ob q,fun b ob q _ _ _=>⟨ob.slots,k b ob q⟩,fun _ _ _ n _=>n,fun b ob q _=>⟨ob,k b ob q⟩,fun _ _ q=>q,fun _ _ _ q=>q,fun _ ps q=>⟨#[],by rw[q];simp⟩⟩
theorem Un.refl:Un fs ex H H h h:=Un.kept fun _ _ q=>q
theorem Un.laid(k:∀b u,h.get? b=some u->h'.get? b=some u)(hp:h.objs.size<=a)(hn:H a=none):Un fs ex H (upd H a o) h h' where
 keep:=fun b u q _ _ _=>k b u q
 slot:=fun b u q _ _ _=>⟨u.slots,k b u q⟩
 free:=fun b u q n _=>by rw[ay (Nat.ne_of_lt (Nat.lt_of_lt_of_le (Heap.lt_size q) hp))];exact n
 there:=fun b u q _=>⟨u,k b u q⟩
 tups:=fun b xs q=>by rw[ay (bG q hn)];exact q
 frzs:=fun b u xs q=>by rw[ay (bG q hn)];exact q
 tbls:=fun b ps q=>⟨#[],by rw[ay (bG q hn),q];simp⟩
theorem Un.write(mu:Jg (H x))(he:e=x\/H e=some (.own x))(k:∀b u,b≠e->h.get? b=some u->h'.get? b=some u)(heo:∃u,h'.get? e=some u):Un fs ex H (upd H x o) h h':=by
 have hx:∀b,H b=none->b≠x:=fun b n z=>by subst z;rw[n]at mu;exact mu
 have hb:∀b,H b=none->b≠e:=fun b n z=>by
  subst z
  rcases he with r|r
  ·exact hx b n r
  ·rw[n]at r;cases r
 have hm:∀b u,H b=some u->¬Jg (some u)->b≠x:=fun b u q nm z=>by subst z;rw[q]at mu;exact nm mu
 refine⟨fun b u q n _ _=>k b u (hb b n) q,fun b u q n _ _=>⟨u.slots,k b u (hb b n) q⟩,fun b u q n _=>by rw[ay (hx b n)];exact n,fun b u q _=>?_,
  fun b xs q=>by rw[ay (hm b _ q fun z=>z)];exact q,fun b u xs q=>by rw[ay (hm b _ q fun z=>z)];exact q,fun b ps q=>⟨#[],by rw[ay (hm b _ q fun z=>z),q];simp⟩⟩
 by_cases hbe:b=e
 ·subst hbe;exact heo
 ·exact⟨u,k b u hbe q⟩
end
noncomputable def Kl(h:Heap)(H:Hp):List Addr:=(List.range h.objs.size).filter fun a=>(H a).isSome
noncomputable def tN(h:Heap)(H:Hp):Heap:=PySem.W.hideAll h (Kl h H)
theorem AF(h:Heap)(H:Hp):(tN h H).objs.size=h.objs.size:=PySem.W.hideAll_size _ _
theorem BQ{h:Heap}{H:Hp}{b:Addr}{o:Obj}(e:h.get? b=some o)(n:H b=none):(tN h H).get? b=some o :=
 PySem.W.hideAll_get _ e fun hm=>by
  have q:(H b).isSome=true:=(List.mem_filter.mp hm).2
  rw[n]at q;simp at q
theorem Ew{h:Heap}{H:Hp}{b:Addr}{o:Obj}(e:(tN h H).get? b=some o):h.get? b=some o/\H b=none:=by
 have e':h.get? b=some o:=PySem.W.of_hideAll (Kl h H) e
 refine⟨e',?_⟩
 cases q:H b with
 |none=>rfl
 |some x =>
  have hm:b∈Kl h H:=List.mem_filter.mpr ⟨List.mem_range.mpr (Heap.lt_size e'),by simp[q]⟩
  have z:(tN h H).get? b=none:=PySem.W.hideAll_none (Kl h H) hm
  rw[z]at e;cases e
structure Mod(K:PySem.W.Frag) (mg:Str->Option Value) (base:Heap):Prop where
 kin:K.In base
 glob:base.Ns mainGlobals mg
 blt:∃mb,base.Ns builtinsNs mb/\∀x:Str,x≠"__name__"->mb x=bootBuiltins x
 nolimit:base.NoLimit
structure Cx where
 prog:Program
 w:World
 K:PySem.W.Frag
 mg:Str->Option Value
 base:Heap
 A:Around
 N:List Str
 s₀:Shared
 H₀:Hp
 env:Env
 outer:List Env
 stack:List Env
 ex:List Addr
 fn:Str->Bool
 calm:Bool
 pn:List (Addr×Obj)
 xe:Value->Shared->Prop
noncomputable def frs(l:List Env):List Addr:=l.filterMap (·.frame)
noncomputable abbrev Cx.fs(X:Cx):List Addr:=frs X.outer
noncomputable def Jh(sc:Scope)(x:Str):Prop:=sc.names.lookup x=some .local\/sc.names.lookup x=some .cell\/sc.names.lookup x=some .free
noncomputable def Loc(sc:Scope)(x:Str):Prop:=sc.names.lookup x=some .local\/sc.names.lookup x=some .cell
noncomputable def Look(env:Env)(h:Heap)(m:Str->Option Value)(x:Str)(u:Value):Prop :=
 (env.kindOf x=some .local/\m x=some u)\/((env.kindOf x=some .cell\/env.kindOf x=some .free)/\∃c,env.cells.lookup x=some c/\h.IsCell c (some u))
structure Cx.Ok(X:Cx):Prop where
 mod:Mod X.K X.mg X.base
 kind:X.env.scope.kind=.function
 glob:X.env.globals=mainGlobals
 blt:X.env.builtins=builtinsNs
 above:X.s₀.heap.objs.size<=X.env.locals
 inj:∀x y c,X.env.cells.lookup x=some c->X.env.cells.lookup y=some c->x=y
 has:∀x,(X.env.kindOf x=some .cell\/X.env.kindOf x=some .free)->∃c,X.env.cells.lookup x=some c
 cab:∀x c,X.fn x=true->X.env.cells.lookup x=some c->X.s₀.heap.objs.size<=c
 hd:X.calm=true->X.A.handled=none
 frames:X.A.frames=some X.stack
 stk:X.stack=X.outer\/(X.stack=X.env::X.outer/\X.env.frame=some X.env.locals)
 exf:∀b∈X.ex,b≠X.env.locals/\∀x c,X.env.cells.lookup x=some c->c≠b
 bs:∀b o,X.base.get? b=some o->X.s₀.heap.get? b=some o/\X.H₀ b=none
 bsz:X.base.objs.size<=X.s₀.heap.objs.size
 noex:∀b o,X.base.get? b=some o->b∉X.ex
 exfs:∀b∈X.ex,b∉X.fs
 qj:X.s₀.heap.FunFrames X.base X.outer
 frf:∀b∈X.fs,X.H₀ b=none
structure Inv(X:Cx) (pins:List (Addr×Obj)) (σ:List (Option V)) (H:Hp) (s:Shared):Prop where
 ok:X.Ok
 os:s.os=X.s₀.os
 bare:AllBare s.gens
 base:Un X.fs X.ex X.H₀ H X.s₀.heap s.heap
 loc:∃m,s.heap.Ns X.env.locals m/\∀(i:Nat) (x:Str) (v:V),X.N[i]?=some x->σ[i]?=some (some v)->Jh X.env.scope x->∃u,RelV v u/\Look X.env s.heap m x u
 cell:∀x c,X.env.cells.lookup x=some c->∃v,s.heap.IsCell c v
 free:H X.env.locals=none
 freeC:∀x c,X.env.cells.lookup x=some c->H c=none
 pin:∀p∈X.pn++pins,s.heap.get? p.1=some p.2/\H p.1=none/\p.1≠X.env.locals/\p.1∉X.fs/\∀v,p.2.data≠.cell v
 hok:ng X.prog X.w H s.heap
 len:σ.length=X.N.length
section
variable {X:Cx}{pins:List (Addr×Obj)}{σ:List (Option V)}{H H':Hp}{s:Shared}{h':Heap}
theorem Cx.Ok.KA(ok:X.Ok){b:Addr}{o:Obj}(e:X.base.get? b=some o):b∉X.fs:=fun hb=>by
 have:=(ok.qj.mem hb).1
 rw[e]at this;cases this
theorem Inv.bs(I:Inv X pins σ H s):∀b o,X.base.get? b=some o->s.heap.get? b=some o/\H b=none:=fun b o e =>
 ⟨I.base.keep b o (I.ok.bs b o e).1 (I.ok.bs b o e).2 (I.ok.KA e) (I.ok.noex b o e),I.base.free b o (I.ok.bs b o e).1 (I.ok.bs b o e).2 (I.ok.noex b o e)⟩
theorem Inv.bk(I:Inv X pins σ H s):∀b o,X.base.get? b=some o->s.heap.get? b=some o:=fun b o e=>(I.bs b o e).1
theorem Inv.mod(I:Inv X pins σ H s):Mod X.K X.mg X.base:=I.ok.mod
theorem Inv.Em(I:Inv X pins σ H s):X.K.In s.heap:=I.ok.mod.kin.keeps I.bk
theorem Inv.fr(I:Inv X pins σ H s):∃m,Fr X.base X.env.locals s.heap m :=
 let⟨m,hn,_⟩:=I.loc
 ⟨m,hn,I.bk,Nat.le_trans I.ok.bsz I.ok.above⟩
theorem Inv.lt(I:Inv X pins σ H s):X.env.locals<s.heap.objs.size:=let⟨_,hn,_⟩:=I.loc;hn.lt
theorem Inv.sz(I:Inv X pins σ H s):X.s₀.heap.objs.size<=s.heap.objs.size:=Nat.le_trans I.ok.above (Nat.le_of_lt I.lt)
theorem Inv.Ex(I:Inv X pins σ H s){a:Addr}(h:s.heap.objs.size<=a):a∉X.fs:=fun hb=>by
 obtain⟨_,o,ho,_⟩:=I.ok.qj.mem hb
 exact absurd (Nat.lt_of_lt_of_le (Heap.lt_size ho) (Nat.le_trans I.sz h)) (Nat.lt_irrefl _)
theorem Inv.Ey(I:Inv X pins σ H s):∀x c,X.env.cells.lookup x=some c->c≠X.env.locals:=fun x c e z=>by
 obtain⟨v,o,ho,hd⟩:=I.cell x c e
 obtain⟨m,⟨o',es,ep,ho',hd',_⟩,_⟩:=I.loc
 rw[z,ho']at ho;cases ho;rw[hd']at hd;cases hd
theorem Inv.qj(I:Inv X pins σ H s):s.heap.FunFrames X.base X.outer:=by
 have all:∀(l:List Env),(∀b∈frs l,b∈X.fs)->X.s₀.heap.FunFrames X.base l->s.heap.FunFrames X.base l:=by
  intro l
  induction l with
  |nil=>intro _ _;trivial
  |cons env r ih =>
   intro hs hl
   obtain⟨hk,⟨L,o,hf,hn,ho,hd⟩,hr⟩:=hl
   have hL:L∈X.fs:=hs L (by unfold frs;rw[List.filterMap_cons,hf];exact List.mem_cons_self)
   obtain⟨sl,e⟩:=I.base.slot L o ho (I.ok.frf L hL) hL fun z=>I.ok.exfs L z hL
   exact⟨hk,⟨L,_,hf,hn,e,hd⟩,ih (fun b hb=>hs b (by unfold frs;rw[List.filterMap_cons,hf];exact List.mem_cons_of_mem _ hb)) hr⟩
 exact all X.outer (fun _ hb=>hb) I.ok.qj
theorem Inv.stack(I:Inv X pins σ H s):s.heap.FunFrames X.base X.stack:=by
 rcases I.ok.stk with e|⟨e,hf⟩
 ·rw[e];exact I.qj
 ·rw[e]
  obtain⟨m,hn,_⟩:=I.loc
  refine .cons (by rw[I.ok.kind];decide) hf hn ?_ I.qj
  exact Heap.get?_none_of_le (Nat.le_trans I.ok.bsz I.ok.above)
theorem Inv.qk(I:Inv X pins σ H s):∀b∈frs X.stack,b∈X.env.locals::X.fs:=fun b hb=>by
 rcases I.ok.stk with e|⟨e,hf⟩
 ·rw[e]at hb;exact List.mem_cons_of_mem _ hb
 ·rw[e]at hb
  unfold frs at hb
  rw[List.filterMap_cons,hf]at hb
  exact hb
theorem Inv.yX(I:Inv X pins σ H s):∀b∈frs X.stack,H b=none:=fun b hb=>by
 rcases List.mem_cons.mp (I.qk b hb)with e|hb
 ·rw[e];exact I.free
 ·obtain⟨_,o,ho,_⟩:=I.ok.qj.mem hb
  exact I.base.free b o ho (I.ok.frf b hb) fun z=>I.ok.exfs b z hb
theorem Inv.step{g':Array GenState}{t':Nat}{d':Drawn}{ch:List Addr}(I:Inv X pins σ H s)
  (hch:∀b∈ch,(b∈X.ex\/X.s₀.heap.objs.size<=b)/\b≠X.env.locals/\(∀x c,X.env.cells.lookup x=some c->c≠b)/\∀p∈X.pn++pins,p.1≠b)
  (keep:∀b o,b≠X.env.locals->b∉X.fs->b∉ch->s.heap.get? b=some o->H b=none->h'.get? b=some o)
  (slot:∀b o,b≠X.env.locals->b∈X.fs->b∉ch->s.heap.get? b=some o->H b=none->∃sl,h'.get? b=some {o with slots:=sl}) (free:∀b o,b∉ch->s.heap.get? b=some o->H b=none->H' b=none)
  (there:∀b o,b∉ch->s.heap.get? b=some o->∃o',h'.get? b=some o')
  (tups:∀b xs,H b=some (.tup xs)->H' b=some (.tup xs)) (frzs:∀b o u,H b=some (.frz o u)->H' b=some (.frz o u)) (tbls:∀b ps,H b=some (.tbl ps)->∃more,H' b=some (.tbl (ps++more)))
  (ns:∀m,s.heap.Ns X.env.locals m->h'.Ns X.env.locals m) (hok:ng X.prog X.w H' h') (hg:AllBare g') :
  Inv X pins σ H' {s with heap:=h',gens:=g',drawn:=d',toks:=t'}:=by
 have neL:∀b o,X.s₀.heap.get? b=some o->b≠X.env.locals:=fun b o e=>Nat.ne_of_lt (Nat.lt_of_lt_of_le (Heap.lt_size e) I.ok.above)
 have neC:∀b o,X.s₀.heap.get? b=some o->b∉X.ex->b∉ch:=fun b o e hx hb=>by
  rcases(hch b hb).1 with z|z
  ·exact hx z
  ·exact absurd (Nat.lt_of_lt_of_le (Heap.lt_size e) z) (Nat.lt_irrefl _)
 have cellK:∀x c,X.env.cells.lookup x=some c->∀v,s.heap.IsCell c v->h'.IsCell c v:=fun x c e v ⟨o,ho,hd⟩=>by
  have nch:c∉ch:=fun z=>(hch c z).2.2.1 x c e rfl
  by_cases hc:c∈X.fs
  ·obtain⟨sl,q⟩:=slot c o (I.Ey x c e) hc nch ho (I.freeC x c e)
   exact⟨_,q,hd⟩
  ·exact⟨o,keep c o (I.Ey x c e) hc nch ho (I.freeC x c e),hd⟩
 refine⟨I.ok,I.os,hg,⟨fun b o e n hb hx=>?_,fun b o e n hb hx=>?_,fun b o e n hx=>?_,fun b o e hx=>?_,fun b xs e=>tups b xs (I.base.tups b xs e),fun b o xs e=>frzs b o xs (I.base.frzs b o xs e),fun b ps e=>?_⟩,?_,fun x c e=>?_,?_,fun x c e=>?_,fun p hp=>?_,hok,I.len⟩
 ·exact keep b o (neL b o e) hb (neC b o e hx) (I.base.keep b o e n hb hx) (I.base.free b o e n hx)
 ·obtain⟨sl,e1⟩:=I.base.slot b o e n hb hx
  obtain⟨sl',e2⟩:=slot b _ (neL b o e) hb (neC b o e hx) e1 (I.base.free b o e n hx)
  exact⟨sl',e2⟩
 ·obtain⟨o',e1⟩:=I.base.there b o e hx
  exact free b o' (neC b o e hx) e1 (I.base.free b o e n hx)
 ·obtain⟨o',e1⟩:=I.base.there b o e hx
  exact there b o' (neC b o e hx) e1
 ·obtain⟨m1,e1⟩:=I.base.tbls b ps e
  obtain⟨m2,e2⟩:=tbls b _ e1
  exact⟨m1++m2,by rw[e2,Array.append_assoc]⟩
 ·obtain⟨m,hn,hl⟩:=I.loc
  refine⟨m,ns m hn,fun i x v e1 e2 e3=>?_⟩
  obtain⟨u,r,l⟩:=hl i x v e1 e2 e3
  refine⟨u,r,?_⟩
  rcases l with l|⟨k,c,e,z⟩
  ·exact .inl l
  ·exact .inr ⟨k,c,e,cellK x c e _ z⟩
 ·obtain⟨v,z⟩:=I.cell x c e
  exact⟨v,cellK x c e v z⟩
 ·obtain⟨m,⟨o,_,_,ho,_⟩,_⟩:=I.loc
  exact free _ o (fun z=>(hch _ z).2.1 rfl) ho I.free
 ·obtain⟨v,o,ho,hd⟩:=I.cell x c e
  exact free c o (fun z=>(hch c z).2.2.1 x c e rfl) ho (I.freeC x c e)
 ·obtain⟨e,n,ne,nf,d⟩:=I.pin p hp
  have nch:p.1∉ch:=fun z=>(hch p.1 z).2.2.2 p hp rfl
  exact⟨keep p.1 p.2 ne nf nch e n,free p.1 p.2 nch e n,ne,nf,d⟩
theorem Inv.un{t':Nat}(I:Inv X pins σ H s)(u:Un X.fs [] H H' s.heap h')(hok:ng X.prog X.w H' h'):Inv X pins σ H' {s with heap:=h',toks:=t'}:=by
 obtain⟨m,⟨o,es,ep,ho,r⟩,_⟩:=id I.loc
 obtain⟨sl,hL⟩:=u.any ho I.free (by simp)
 exact I.step (g':=s.gens) (d':=s.drawn) (ch:=[]) (fun _ z=>nomatch z) (fun b o _ hb _ e n=>u.keep b o e n hb (by simp)) (fun b o _ hb _ e n=>u.slot b o e n hb (by simp)) (fun b o _ e n=>u.free b o e n (by simp)) (fun b o _ e=>u.there b o e (by simp)) u.tups u.frzs u.tbls (fun m' hm=>by
  obtain⟨o',es',ep',ho',r'⟩:=hm
  rw[ho]at ho';cases ho'
  exact⟨_,es',ep',hL,r'⟩) hok I.bare
theorem Inv.call{g':Array GenState}{t':Nat}{d':Drawn}{ch:List Addr}(I:Inv X pins σ H s)(u:Un (frs X.stack) ch H H' s.heap h')(hok:ng X.prog X.w H' h')(hg:AllBare g')
  (hch:∀b∈ch,(b∈X.ex\/X.s₀.heap.objs.size<=b)/\b≠X.env.locals/\(∀x c,X.env.cells.lookup x=some c->c≠b)/\∀p∈X.pn++pins,p.1≠b) :
  Inv X pins σ H' {s with heap:=h',gens:=g',drawn:=d',toks:=t'}:=by
 obtain⟨m,⟨o,es,ep,ho,r⟩,_⟩:=id I.loc
 obtain⟨sl,hL⟩:=u.any ho I.free fun z=>(hch _ z).2.1 rfl
 exact I.step (ch:=ch) hch (fun b o hL hb hc e n=>u.keep b o e n (fun z=>(List.mem_cons.mp (I.qk b z)).elim hL hb) hc) (fun b o _ _ hc e n=>u.any e n hc) (fun b o hc e n=>u.free b o e n hc) (fun b o hc e=>u.there b o e hc) u.tups u.frzs u.tbls (fun m' hm=>by
  obtain⟨o',es',ep',ho',r'⟩:=hm
  rw[ho]at ho';cases ho'
  exact⟨_,es',ep',hL,r'⟩) hok hg
theorem Inv.turned{t':Nat}{it:Addr}(I:Inv X pins σ H s)(k:∀b o,b≠it->s.heap.get? b=some o->h'.get? b=some o)(hn:H it=none)(hL:it≠X.env.locals)
  (h1:it∈X.ex\/X.s₀.heap.objs.size<=it) (h2:∀x c,X.env.cells.lookup x=some c->c≠it) (h3:∀p∈X.pn++pins,p.1≠it):Inv X pins σ H {s with heap:=h',toks:=t'}:=by
 have nit:∀b u,H b=some u->b≠it:=fun b u e z=>by rw[z,hn]at e;cases e
 refine I.step (g':=s.gens) (d':=s.drawn) (ch:=[it]) (fun b hb=>?_) (fun b o _ _ hc e _=>k b o (fun z=>hc (by simp[z])) e) (fun b o _ _ hc e _=>⟨o.slots,k b o (fun z=>hc (by simp[z])) e⟩) (fun _ _ _ _ n=>n)
  (fun b o hc e=>⟨o,k b o (fun z=>hc (by simp[z])) e⟩) (fun _ _ e=>e) (fun _ _ _ e=>e) (fun b ps e=>⟨#[],by rw[e];simp⟩) (fun m hm=>?_) (fun b u e=>?_) I.bare
 ·have e:b=it:=by simpa using hb
  subst e
  exact⟨h1,hL,h2,h3⟩
 ·obtain⟨o,es,ep,ho,r⟩:=hm
  exact⟨o,es,ep,k _ o (Ne.symm hL) ho,r⟩
 ·refine(I.hok b u e).stay (fun c v hc q=>k c v ?_ q) (fun _ q=>q) fun _ _ q=>q
  rcases hc with z|z
  ·rw[z];exact nit b u e
  ·exact nit c _ z
theorem Inv.tok(I:Inv X pins σ H s)(t:Nat):Inv X pins σ H {s with toks:=t}:=I.un (h':=s.heap) (t':=t) Un.refl I.hok
theorem Inv.kept{t':Nat}(I:Inv X pins σ H s)(k:∀b u,s.heap.get? b=some u->h'.get? b=some u):Inv X pins σ H {s with heap:=h',toks:=t'}:=I.un (Un.kept k) (I.hok.kept k)
theorem Inv.laid{a:Addr}{o:HO}{t':Nat}(I:Inv X pins σ H s)(k:∀b u,s.heap.get? b=some u->h'.get? b=some u)(hp:s.heap.objs.size<=a)(new:eS X.prog X.w (upd H a o) h' a o) :
  Inv X pins σ (upd H a o) {s with heap:=h',toks:=t'}:=I.un (Un.laid k hp (I.hok.fresh hp)) (I.hok.laid k hp new)
theorem Inv.write{x e:Addr}{o:HO}{t':Nat}(I:Inv X pins σ H s)(mu:Jg (H x))(he:e=x\/H e=some (.own x))(k:∀b u,b≠e->s.heap.get? b=some u->h'.get? b=some u)(heo:∃u,h'.get? e=some u)
  (new:eS X.prog X.w (upd H x o) h' x o):Inv X pins σ (upd H x o) {s with heap:=h',toks:=t'}:=I.un (Un.write mu he k heo) (I.hok.write mu he k heo new)
theorem Inv.weak{σ':List (Option V)}(I:Inv X pins σ H s)(hl:σ'.length=σ.length)(w:∀(i:Nat) v,σ'[i]?=some (some v)->σ[i]?=some (some v)):Inv X pins σ' H s :=
 ⟨I.ok,I.os,I.bare,I.base,let⟨m,hn,hl'⟩:=I.loc;⟨m,hn,fun i x v e1 e2 e3=>hl' i x v e1 (w i v e2) e3⟩,I.cell,I.free,I.freeC,I.pin,I.hok,hl.trans I.len⟩
theorem Inv.gn{pins':List (Addr×Obj)}(I:Inv X pins σ H s)(h:∀p∈pins',s.heap.get? p.1=some p.2/\H p.1=none/\p.1≠X.env.locals/\p.1∉X.fs/\∀v,p.2.data≠.cell v):Inv X pins' σ H s :=
 ⟨I.ok,I.os,I.bare,I.base,I.loc,I.cell,I.free,I.freeC,fun p hp=>(List.mem_append.mp hp).elim (fun z=>I.pin p (List.mem_append_left _ z)) (h p),I.hok,I.len⟩
theorem qm{N:List Str}(hN:N.Nodup){i j:Nat}{x:Str}(a:N[i]?=some x)(b:N[j]?=some x):i=j:=by
 obtain⟨h1,e1⟩:=List.getElem?_eq_some_iff.mp a
 obtain⟨h2,e2⟩:=List.getElem?_eq_some_iff.mp b
 exact(List.getElem_inj hN).mp (e1.trans e2.symm)
theorem AG{M:Model}{A:Around}{E:Value->Shared->Prop}{i:Nat}{x:Str}{v:V}{u:Value}{Q:Unit->Shared->Prop}(I:Inv X pins σ H s)(hN:X.N.Nodup)(hi:X.N[i]?=some x)(hx:Loc X.env.scope x)(r:RelV v u)
  (h:∀s',Inv X pins (σ.set i (some v)) H s'->(∃a,Heap.SameBut a s.heap s'.heap/\(a=X.env.locals\/X.env.cells.lookup x=some a))->Q () s') (hf:X.fn x=true\/X.env.scope.names.lookup x=some .local:=by first|exact .inl rfl|exact .inr rfl|assumption):wpAny M A (storeName X.env x u) Q E s:=by
 obtain⟨m,hn,hl⟩:=id I.loc
 have hcls:(X.env.scope.kind == .class||(X.env.scope.kind == .module&&X.env.locals != X.env.globals))=false:=by rw[I.ok.kind];rfl
 have hiσ:i<σ.length:=by rw[I.len];exact(List.getElem?_eq_some_iff.mp hi).1
 have Ey:=I.Ey
 have tracked:∀{a:Addr}{h':Heap},(∃o,s.heap.get? a=some o/\H a=none)->Heap.SameBut a s.heap h'->ng X.prog X.w H h':=fun{a h'} ha hs b ob e=>by
  obtain⟨_,_,hfree⟩:=ha
  refine(I.hok b ob e).stay (fun c w' hc q=>(hs.2 c ?_).trans q) (fun _ q=>q) fun _ _ q=>q
  rintro rfl
  rcases hc with rfl|hc
  ·rw[hfree]at e;cases e
  ·rw[hfree]at hc;cases hc
 rcases hx with hk|hk
 ·refine wpAny_storeName_local hk hn (fun h' hn' hs=>?_) hcls
  obtain⟨oL,_,_,hoL,_⟩:=id hn
  refine h _ ⟨I.ok,I.os,I.bare,⟨fun b o e n hb hx=>?_,fun b o e n hb hx=>?_,I.base.free,fun b o e hx=>?_,I.base.tups,I.base.frzs,I.base.tbls⟩,⟨_,hn',fun j y v' e1 e2 e3=>?_⟩,fun y c e=>?_,I.free,I.freeC,fun p hp=>?_,tracked ⟨oL,hoL,I.free⟩ hs,by simpa using I.len⟩ ⟨_,hs,.inl rfl⟩
  ·exact(hs.2 b (Nat.ne_of_lt (Nat.lt_of_lt_of_le (Heap.lt_size e) I.ok.above))).trans (I.base.keep b o e n hb hx)
  ·obtain⟨sl,e1⟩:=I.base.slot b o e n hb hx
   exact⟨sl,(hs.2 b (Nat.ne_of_lt (Nat.lt_of_lt_of_le (Heap.lt_size e) I.ok.above))).trans e1⟩
  ·obtain⟨o',e1⟩:=I.base.there b o e hx
   exact⟨o',(hs.2 b (Nat.ne_of_lt (Nat.lt_of_lt_of_le (Heap.lt_size e) I.ok.above))).trans e1⟩
  ·by_cases hj:j=i
   ·subst hj
    rw[hi]at e1;cases e1
    rw[List.getElem?_set_self hiσ]at e2
    cases e2
    exact⟨u,r,.inl ⟨hk,by simp⟩⟩
   ·rw[List.getElem?_set_ne (Ne.symm hj)]at e2
    obtain⟨u',r',q⟩:=hl j y v' e1 e2 e3
    refine⟨u',r',?_⟩
    rcases q with⟨k,e⟩|⟨k,c,e,z⟩
    ·refine .inl ⟨k,?_⟩
     have:y≠x:=fun e=>hj (qm hN e1 (e▸hi))
     simp[this,e]
    ·exact .inr ⟨k,c,e,z.sameBut hs (Ey y c e)⟩
  ·obtain⟨w',z⟩:=I.cell y c e
   exact⟨w',z.sameBut hs (Ey y c e)⟩
  ·obtain⟨e,n,ne,nf,d⟩:=I.pin p hp
   exact⟨(hs.2 p.1 ne).trans e,n,ne,nf,d⟩
 ·have hfn:X.fn x=true:=by
   rcases hf with z|z
   ·exact z
   ·rw[z]at hk;cases hk
  obtain⟨c,hc⟩:=I.ok.has x (.inl hk)
  obtain⟨w',z⟩:=I.cell x c hc
  refine wpAny_storeName_cell I.ok.kind hk hc z (fun h' hc' hs=>?_)
  obtain⟨oc,hoc,hocd⟩:=id z
  refine h {s with heap:=h'} ⟨I.ok,I.os,I.bare,⟨fun b o e n hb hx=>?_,fun b o e n hb hx=>?_,I.base.free,fun b o e hx=>?_,I.base.tups,I.base.frzs,I.base.tbls⟩,⟨m,hn.sameBut hs (Ne.symm (Ey x c hc)),fun j y v' e1 e2 e3=>?_⟩,fun y c' e=>?_,I.free,I.freeC,fun p hp=>?_,tracked ⟨oc,hoc,I.freeC x c hc⟩ hs,by simpa using I.len⟩ ⟨c,hs,.inr hc⟩
  ·exact(hs.2 b (Nat.ne_of_lt (Nat.lt_of_lt_of_le (Heap.lt_size e) (I.ok.cab x c hfn hc)))).trans (I.base.keep b o e n hb hx)
  ·obtain⟨sl,e1⟩:=I.base.slot b o e n hb hx
   exact⟨sl,(hs.2 b (Nat.ne_of_lt (Nat.lt_of_lt_of_le (Heap.lt_size e) (I.ok.cab x c hfn hc)))).trans e1⟩
  ·obtain⟨o',e1⟩:=I.base.there b o e hx
   exact⟨o',(hs.2 b (Nat.ne_of_lt (Nat.lt_of_lt_of_le (Heap.lt_size e) (I.ok.cab x c hfn hc)))).trans e1⟩
  ·by_cases hj:j=i
   ·subst hj
    rw[hi]at e1;cases e1
    rw[List.getElem?_set_self hiσ]at e2
    cases e2
    exact⟨u,r,.inr ⟨.inl hk,c,hc,hc'⟩⟩
   ·rw[List.getElem?_set_ne (Ne.symm hj)]at e2
    obtain⟨u',r',q⟩:=hl j y v' e1 e2 e3
    refine⟨u',r',?_⟩
    rcases q with q|⟨k,c',e,z'⟩
    ·exact .inl q
    ·refine .inr ⟨k,c',e,z'.sameBut hs ?_⟩
     rintro rfl
     exact hj (qm hN e1 (I.ok.inj _ _ _ e hc▸hi))
  ·by_cases hcc:c'=c
   ·subst hcc;exact⟨_,hc'⟩
   ·obtain⟨w2,z2⟩:=I.cell y c' e
    exact⟨w2,z2.sameBut hs hcc⟩
  ·obtain⟨e,n,ne,nf,d⟩:=I.pin p hp
   refine⟨(hs.2 p.1 ?_).trans e,n,ne,nf,d⟩
   intro q
   rw[q,hoc]at e
   have q':oc=p.2:=Option.some.inj e
   exact d w' (by rw[←q'];exact hocd)
theorem qp{M:Model}{A:Around}{E:Value->Shared->Prop}{i:Nat}{x:Str}{v:V}{u:Value}{Q:Unit->Shared->Prop}(I:Inv X pins σ H s)(hN:X.N.Nodup)(hi:X.N[i]?=some x)(hx:Loc X.env.scope x)(r:RelV v u)
  (h:∀s',Inv X pins (σ.set i (some v)) H s'->Q () s') (hf:X.fn x=true\/X.env.scope.names.lookup x=some .local:=by first|exact .inl rfl|exact .inr rfl|assumption):wpAny M A (storeName X.env x u) Q E s :=
 AG I hN hi hx r (fun s' I' _=>h s' I') hf
theorem Inv.Ji{s':Shared}{ch:List Addr}(I:Inv X pins σ H s)(ho:s'.os=s.os)(u:Un (frs X.stack) ch H H' s.heap s'.heap)(hok:ng X.prog X.w H' s'.heap)(hg:AllBare s'.gens)
  (hch:∀b∈ch,(b∈X.ex\/X.s₀.heap.objs.size<=b)/\b≠X.env.locals/\(∀x c,X.env.cells.lookup x=some c->c≠b)/\∀p∈X.pn++pins,p.1≠b):Inv X pins σ H' s':=by
 obtain⟨h',g',d',t',o'⟩:=s'
 have e:o'=s.os:=ho
 subst e
 exact I.call (g':=g') (t':=t') (d':=d') u hok hg hch
end
noncomputable abbrev XK:=Value->Option Addr->Hp->Prop
noncomputable abbrev St:=List (Option V)
noncomputable abbrev VK:=V->Hp->Prop
noncomputable abbrev TE:=St->Hp->VK->Prop
noncomputable abbrev TT:=St->Hp->(Bool->Hp->Prop)->Prop
noncomputable abbrev TA:=St->Hp->(List V->Hp->Prop)->Prop
structure Ends where
 nx:St->Hp->Prop
 rt:VK
 bk:St->Hp->Prop:=fun _ _=>False
 ct:St->Hp->Prop:=fun _ _=>False
noncomputable abbrev TS:=Ends->St->Hp->Prop
noncomputable def EP(X:Cx)(pins:List (Addr×Obj))(σ:St)(Q:VK)(u:Value)(s':Shared):Prop:=∃v H',Inv X pins σ H' s'/\RelV v u/\Q v H'
noncomputable def TP(X:Cx)(pins:List (Addr×Obj))(σ:St)(Q:Bool->Hp->Prop)(b:Bool)(s':Shared):Prop:=∃H',Inv X pins σ H' s'/\Q b H'
noncomputable def AP(X:Cx)(pins:List (Addr×Obj))(σ:St)(Q:List V->Hp->Prop)(us:List Value)(s':Shared):Prop:=∃vs H',Inv X pins σ H' s'/\Vals vs us/\Q vs H'
noncomputable def SP(X:Cx)(pins:List (Addr×Obj))(D:Ends)(f:Flow)(s':Shared):Prop :=
 match f with
 |.next=>∃σ' H',Inv X pins σ' H' s'/\D.nx σ' H'
 |.brk=>∃σ' H',Inv X pins σ' H' s'/\D.bk σ' H'
 |.cont=>∃σ' H',Inv X pins σ' H' s'/\D.ct σ' H'
 |.ret u=>∃v σ' H',Inv X pins σ' H' s'/\RelV v u/\D.rt v H'
noncomputable def PE(X:Cx)(e:Expr)(t:TE):Prop :=
 ∀(pins:List (Addr×Obj)) (s:Shared) (σ:St) (H:Hp) (Q:VK),Inv X pins σ H s->t σ H Q->wpAny (model X.prog X.w) X.A (eval e X.env) (EP X pins σ Q) X.xe s
noncomputable def PT(X:Cx)(e:Expr)(t:TT):Prop :=
 ∀(pins:List (Addr×Obj)) (s:Shared) (σ:St) (H:Hp) (Q:Bool->Hp->Prop),Inv X pins σ H s->t σ H Q->wpAny (model X.prog X.w) X.A (isTrue e X.env (eval e X.env)) (TP X pins σ Q) X.xe s
noncomputable def PW(X:Cx)(e:Expr)(t:TT):Prop :=
 ∀(whole:Sem Value) (pins:List (Addr×Obj)) (s:Shared) (σ:St) (H:Hp) (Q:Bool->Hp->Prop),Inv X pins σ H s->t σ H Q->wpAny (model X.prog X.w) X.A (isTrue e X.env whole) (TP X pins σ Q) X.xe s
theorem PW.pt{X:Cx}{e:Expr}{t:TT}(h:PW X e t):PT X e t:=h _
noncomputable def PA(X:Cx)(es:List Expr)(t:TA):Prop :=
 ∀(pos:Pos) (pins:List (Addr×Obj)) (s:Shared) (σ:St) (H:Hp) (Q:List V->Hp->Prop),Inv X pins σ H s->t σ H Q->wpAny (model X.prog X.w) X.A (spliced (backTo pos (starEach es X.env))) (AP X pins σ Q) X.xe s
noncomputable def PS(X:Cx)(st:Stmt)(t:TS):Prop :=
 ∀(pins:List (Addr×Obj)) (s:Shared) (σ:St) (H:Hp) (D:Ends),Inv X pins σ H s->t D σ H->wpAny (model X.prog X.w) X.A (exec st X.env) (SP X pins D) X.xe s
noncomputable def vt(X:Cx)(st:List Stmt)(t:TS):Prop :=
 ∀(pins:List (Addr×Obj)) (s:Shared) (σ:St) (H:Hp) (D:Ends),Inv X pins σ H s->t D σ H->wpAny (model X.prog X.w) X.A (execs st X.env) (SP X pins D) X.xe s
theorem cF{α:Type}{t:Sem α}{Q Q':α->Shared->Prop}{M:Model}{A:Around}{E:Value->Shared->Prop}{s:Shared}(h:wpAny M A t Q E s)(hQ:∀a s,Q a s->Q' a s):wpAny M A t Q' E s:=wpAny_mono h hQ fun _ _ x=>x
section
variable {X:Cx}
noncomputable def Hq(i:Nat):TE:=fun σ H Q=>∃v,σ[i]?=some (some v)/\Q v H
noncomputable def tC(v:V):TE:=fun _ H Q=>Q v H
theorem BS{i:Nat}{x:Str}{pos:Pos}(hN:X.N[i]?=some x)(hv:Jh X.env.scope x)(hd:(x == ("__debug__":Str))=false:=by decide)(hcd:(x == ("__classdict__":Str))=false:=by decide):PE X (.Name x pos) (Hq i):=by
 intro pins s σ H Q I h
 obtain⟨v,e,h⟩:=h
 obtain⟨m,hn,hl⟩:=I.loc
 obtain⟨u,r,l⟩:=hl i x v hN e hv
 have fin:EP X pins σ Q u s:=⟨v,H,I,r,h⟩
 rcases l with⟨hk,hm⟩|⟨hk,c,hc,hcell⟩
 ·exact wpAny_Name (wpAny_loadName_local I.ok.kind hk hn hm fin) hd
 ·rcases hk with hk|hk
  ·exact wpAny_Name (wpAny_loadName_cell I.ok.kind hk hc hcell fin) hd
  ·exact wpAny_Name (wpAny_loadName_free I.ok.kind hk hc hcell fin hcd) hd
theorem ao{i j pos}:PE X (.Constant (.int i) j pos) (tC (.int i)):=fun _ _ _ H _ I h=>wpAny_Constant_int ⟨.int i,H,I.tok _,⟨_,rfl⟩,h⟩
theorem yY{b j pos}:PE X (.Constant (.bool b) j pos) (tC (.bl b)):=fun _ _ _ H _ I h=>Constant_bool ⟨.bl b,H,I,rfl,h⟩
theorem BU{j pos}:PE X (.Constant .none j pos) (tC .ik):=fun _ _ _ H _ I h=>Constant_none ⟨.ik,H,I,rfl,h⟩
theorem ak{x j pos}:PE X (.Constant (.str x) j pos) (tC (.str x)):=fun _ _ _ H _ I h=>Calls.Constant_str ⟨.str x,H,I.tok _,⟨_,rfl⟩,h⟩
noncomputable def Gl(X:Cx)(x:Str):Prop:=X.env.kindOf x=some .globalImplicit
theorem tO{E:Value->Shared->Prop}{pins:List (Addr×Obj)}{s:Shared}{σ:St}{H:Hp}{x:Str}{u:Value}{pos:Pos}{Q:Value->Shared->Prop}(I:Inv X pins σ H s)(hg:Gl X x)(hm:X.mg x=some u)(h:Q u s)
  (hd:(x == ("__debug__":Str))=false:=by decide):wpAny (model X.prog X.w) X.A (eval (.Name x pos) X.env) Q E s :=
 Calls.Name_function_global I.ok.kind hg (Calls.loadGlobal_global (by rw[I.ok.glob];exact I.mod.glob.keeps I.bk) hm h) hd
theorem oB{E:Value->Shared->Prop}{pins:List (Addr×Obj)}{s:Shared}{σ:St}{H:Hp}{x:Str}{u:Value}{pos:Pos}{Q:Value->Shared->Prop}(I:Inv X pins σ H s)(hg:Gl X x)(hm:X.mg x=none)(hv:bootBuiltins x=some u)(h:Q u s)
  (hn:x≠"__name__":=by decide) (hd:(x == ("__debug__":Str))=false:=by decide):wpAny (model X.prog X.w) X.A (eval (.Name x pos) X.env) Q E s:=by
 obtain⟨mb,h1,h2⟩:=I.mod.blt
 exact Calls.Name_function_global I.ok.kind hg (Calls.loadGlobal_builtin (by rw[I.ok.glob];exact I.mod.glob.keeps I.bk) hm (by rw[I.ok.blt];exact h1.keeps I.bk) ((h2 x hn).trans hv) h) hd
theorem d7{x:Str}{v:V}{u:Value}{pos:Pos}(hg:Gl X x)(hm:X.mg x=some u)(r:RelV v u)(hd:(x == ("__debug__":Str))=false:=by decide):PE X (.Name x pos) (tC v) :=
 fun _ _ _ H _ I h=>tO I hg hm ⟨v,H,I,r,h⟩ hd
theorem Ez{x:Str}{v:V}{u:Value}{pos:Pos}(hg:Gl X x)(hm:X.mg x=none)(hv:bootBuiltins x=some u)(r:RelV v u)(hn:x≠"__name__":=by decide)(hd:(x == ("__debug__":Str))=false:=by decide):PE X (.Name x pos) (tC v) :=
 fun _ _ _ H _ I h=>oB I hg hm hv ⟨v,H,I,r,h⟩ hn hd
variable {a b:Expr}{ta tb:TE}{pos:Pos}
noncomputable def tB(t:TE):TT:=fun σ H Q=>t σ H fun x H1=>∃c,x=.bl c/\Q c H1
theorem Hr{e:Expr}{t:TE}(h:PE X e t)(he:∀whole,isTrue e X.env whole=(do let v ←whole;standAt e.pos;holding [v] (truthy v)):=by intro _;rfl):PT X e (tB t):=by
 intro pins s σ H Q I hw
 refine isTrue_plain (cF (h pins s σ H _ I hw) fun v s1 ⟨x,H1,I1,r1,q1⟩=>?_) (he _)
 obtain⟨d,rfl,q⟩:=q1
 cases r1
 exact wpAny_truthy_bool ⟨H1,I1,q⟩
variable {tA tB':TT}{rest:List Expr}
noncomputable def KC(t u:TT):TT:=fun σ H Q=>t σ H fun c H1=>if c=true then u σ H1 Q else Q false H1
noncomputable def LW(t u:TT):TT:=fun σ H Q=>t σ H fun c H1=>if c=true then Q true H1 else u σ H1 Q
noncomputable def KG(t:TT):TT:=fun σ H Q=>t σ H fun c H1=>Q (!c) H1
theorem pV(ha:PT X a tA):PW X (.BoolOp .And [a] pos) tA:=by
 intro wh pins s σ H Q I h
 refine isTrue_and (cF (ha pins s σ H Q I h) fun c s1 e=>?_)
 cases c with
 |true=>exact isTrue_and_nil e
 |false=>exact e
theorem f9(ha:PT X a tA):PW X (.BoolOp .Or [a] pos) tA:=by
 intro wh pins s σ H Q I h
 refine isTrue_or (cF (ha pins s σ H Q I h) fun c s1 e=>?_)
 cases c with
 |false=>exact isTrue_or_nil e
 |true=>exact e
theorem tP(ha:PT X a tA)(hb:PW X (.BoolOp .And (b::rest) pos) tB'):PW X (.BoolOp .And (a::b::rest) pos) (KC tA tB'):=by
 intro wh pins s σ H Q I h
 refine isTrue_and (cF (ha pins s σ H _ I h) fun c s1 ⟨H1,I1,q1⟩=>?_)
 cases c with
 |true=>exact hb wh pins s1 σ H1 Q I1 q1
 |false=>exact⟨H1,I1,q1⟩
theorem iF(ha:PT X a tA)(hb:PW X (.BoolOp .Or (b::rest) pos) tB'):PW X (.BoolOp .Or (a::b::rest) pos) (LW tA tB'):=by
 intro wh pins s σ H Q I h
 refine isTrue_or (cF (ha pins s σ H _ I h) fun c s1 ⟨H1,I1,q1⟩=>?_)
 cases c with
 |true=>exact⟨H1,I1,q1⟩
 |false=>exact hb wh pins s1 σ H1 Q I1 q1
theorem d9(ha:PT X a tA):PT X (.UnaryOp .Not a pos) (KG tA):=by
 intro pins s σ H Q I h
 exact isTrue_not (ha pins s σ H (fun c H1=>Q (!c) H1) I h)
noncomputable def Jj(ta tb:TE):TE:=fun σ H Q=>ta σ H fun x H1=>∃c,x=.bl c/\if c=true then tb σ H1 Q else Q (.bl false) H1
noncomputable def KH(ta tb:TE):TE:=fun σ H Q=>ta σ H fun x H1=>∃c,x=.bl c/\if c=true then Q (.bl true) H1 else tb σ H1 Q
noncomputable def Jk(ta:TE):TE:=fun σ H Q=>ta σ H fun x H1=>∃c,x=.bl c/\Q (.bl (!c)) H1
theorem tQ{op}{t:TE}(h:PE X a t):PE X (.BoolOp op [a] pos) t:=fun pins s σ H Q I hw=>BoolOp_one (h pins s σ H Q I hw)
theorem qq(ha:PE X a ta)(hb:PE X (.BoolOp .And (b::rest) pos) tb):PE X (.BoolOp .And (a::b::rest) pos) (Jj ta tb):=by
 intro pins s σ H Q I h
 refine BoolOp_and (cF (ha pins s σ H _ I h) fun v s1 ⟨x,H1,I1,r1,q1⟩=>?_)
 obtain⟨c,rfl,q1⟩:=q1
 cases r1
 refine wpAny_truthy_bool ?_
 cases c with
 |true=>exact hb pins s1 σ H1 Q I1 q1
 |false=>exact⟨.bl false,H1,I1,rfl,q1⟩
theorem Jl(ha:PE X a ta)(hb:PE X (.BoolOp .Or (b::rest) pos) tb):PE X (.BoolOp .Or (a::b::rest) pos) (KH ta tb):=by
 intro pins s σ H Q I h
 refine BoolOp_or (cF (ha pins s σ H _ I h) fun v s1 ⟨x,H1,I1,r1,q1⟩=>?_)
 obtain⟨c,rfl,q1⟩:=q1
 cases r1
 refine wpAny_truthy_bool ?_
 cases c with
 |false=>exact hb pins s1 σ H1 Q I1 q1
 |true=>exact⟨.bl true,H1,I1,rfl,q1⟩
theorem Hs(ha:PE X a ta):PE X (.UnaryOp .Not a pos) (Jk ta):=by
 intro pins s σ H Q I h
 refine UnaryOp_ (cF (ha pins s σ H _ I h) fun v s1 ⟨x,H1,I1,r1,q1⟩=>?_)
 obtain⟨c,rfl,q1⟩:=q1
 cases r1
 exact not_of (wpAny_truthy_bool ⟨.bl (!c),H1,I1,rfl,q1⟩)
noncomputable def LX(t:TT)(ta tb:TE):TE:=fun σ H Q=>t σ H fun c H1=>if c=true then ta σ H1 Q else tb σ H1 Q
theorem vy{c:Expr}(hc:PT X c tA)(ha:PE X a ta)(hb:PE X b tb):PE X (.IfExp c a b pos) (LX tA ta tb):=by
 intro pins s σ H Q I h
 refine wpAny_IfExp (cF (hc pins s σ H _ I h) fun d s1 ⟨H1,I1,q1⟩=>?_)
 cases d with
 |true=>exact ha pins s1 σ H1 Q I1 q1
 |false=>exact hb pins s1 σ H1 Q I1 q1
end
noncomputable def bB(K:PySem.W.Frag)(H:Hp)(a:Addr)(xs:List V):Prop :=
 Rd H a (.lst xs) \/
  ∃(o:Obj) (its:Array Value) (n:Nat),K.lookup a=some o/\o.cls=.type "list"/\o.dict=none/\o.data=.seq its n/\its.size<=sizeLine/\Vals xs its.toList
noncomputable def bf(K:PySem.W.Frag)(H:Hp)(a:Addr)(xs:List V):Prop :=
 Rd H a (.tup xs) \/
  ∃(o:Obj) (its:Array Value) (n:Nat),K.lookup a=some o/\o.cls=.type "tuple"/\o.data=.seq its n/\its.size<=sizeLine/\Vals xs its.toList/\o.dict=none
noncomputable def KI:Value->Option V
 |.none=>some .ik
 |.bool b=>some (.bl b)
 |.int i _=>some (.int i)
 |.str x _=>some (.str x)
 |.bytes b _=>some (.byt b)
 |.float b _=>some (.flt b)
 |.ref a=>some (.ref a)
 |.type n=>some (.ty n)
 |_=>none
theorem RelV.abs{x:V}{u:Value}(r:RelV x u):KI u=some x:=by
 cases x with
 |ik=>cases r;rfl
 |bl _=>cases r;rfl
 |int _=>obtain⟨t,rfl⟩:=r;rfl
 |str _=>obtain⟨t,rfl⟩:=r;rfl
 |byt _=>obtain⟨t,rfl⟩:=r;rfl
 |flt _=>obtain⟨t,rfl⟩:=r;rfl
 |ref _=>cases r;rfl
 |ty _=>cases r;rfl
theorem RelV.inj{x y:V}{u:Value}(r:RelV x u)(q:RelV y u):x=y:=Option.some.inj (r.abs.symm.trans q.abs)
theorem Vals.inj:∀{xs ys:List V}{us:List Value},Vals xs us->Vals ys us->xs=ys
 |_,_,_,.nil,.nil=>rfl
 |_,_,_,.cons r t,.cons r' t'=>by rw[r.inj r',Vals.inj t t']
section
variable {X:Cx}{pins:List (Addr×Obj)}{σ:St}{H:Hp}{s:Shared}{a:Addr}{xs ys:List V}
theorem bB.of{K:PySem.W.Frag}(h:H a=some (.lst xs)):bB K H a xs:=.inl (.inl h)
theorem bf.of{K:PySem.W.Frag}(h:H a=some (.tup xs)):bf K H a xs:=.inl (.inl h)
theorem Inv.list(I:Inv X pins σ H s)(h:bB X.K H a xs):∃its:List Value,Vals xs its/\PlainL s.heap a its.toArray/\xs.length<=sizeLine:=by
 rcases h with h|⟨o,its,n,hk,hc,hd,hs,hz,r⟩
 ·obtain⟨z,its,n,r,e⟩:=h.ok I.hok
  exact⟨its,r,⟨_,n,e,rfl,rfl,rfl⟩,z⟩
 ·refine⟨its.toList,r,⟨o,n,I.Em a o hk,hc,hd,by simpa using hs⟩,?_⟩
  have e:=r.length
  simp only[Array.length_toList]at e
  omega
theorem Inv.tuple(I:Inv X pins σ H s)(h:bf X.K H a xs):∃its:List Value,Vals xs its/\IsTup s.heap a its.toArray/\xs.length<=sizeLine:=by
 rcases h with h|⟨o,its,n,hk,hc,hs,hz,r,_⟩
 ·obtain⟨z,its,r,p,_⟩:=h.ok I.hok
  exact⟨its,r,p,z⟩
 ·refine⟨its.toList,r,⟨o,I.Em a o hk,hc,n,by simpa using hs⟩,?_⟩
  have e:=r.length
  simp only[Array.length_toList]at e
  omega
theorem Inv.vz(I:Inv X pins σ H s)(h:bB X.K H a xs)(h':bB X.K H a ys):xs=ys:=by
 obtain⟨its,r,⟨o,n,e,_,_,d⟩,_⟩:=I.list h
 obtain⟨its',r',⟨o',n',e',_,_,d'⟩,_⟩:=I.list h'
 rw[e]at e';cases e'
 rw[d]at d'
 injection d' with d1 _
 have:its=its':=by simpa using congrArg Array.toList d1
 subst this
 exact r.inj r'
theorem Inv.oE(I:Inv X pins σ H s)(h:bf X.K H a xs)(h':bf X.K H a ys):xs=ys:=by
 obtain⟨its,r,⟨o,e,_,n,d⟩,_⟩:=I.tuple h
 obtain⟨its',r',⟨o',e',_,n',d'⟩,_⟩:=I.tuple h'
 rw[e]at e';cases e'
 rw[d]at d'
 injection d' with d1 _
 have:its=its':=by simpa using congrArg Array.toList d1
 subst this
 exact r.inj r'
end
noncomputable abbrev Cx.rO(X:Cx)(E:Value->Shared->Prop):Cx:={X with xe:=E}
noncomputable abbrev Cx.Ht(X:Cx):Cx:=X.rO fun _ _=>False
theorem Cx.Ok.rO{X:Cx}(ok:X.Ok)(E:Value->Shared->Prop):(X.rO E).Ok :=
 ⟨ok.mod,ok.kind,ok.glob,ok.blt,ok.above,ok.inj,ok.has,ok.cab,ok.hd,ok.frames,ok.stk,ok.exf,ok.bs,ok.bsz,ok.noex,ok.exfs,ok.qj,ok.frf⟩
theorem Cx.Ok.j8{X:Cx}{E:Value->Shared->Prop}(ok:(X.rO E).Ok):X.Ok :=
 ⟨ok.mod,ok.kind,ok.glob,ok.blt,ok.above,ok.inj,ok.has,ok.cab,ok.hd,ok.frames,ok.stk,ok.exf,ok.bs,ok.bsz,ok.noex,ok.exfs,ok.qj,ok.frf⟩
section
variable {X:Cx}{pins:List (Addr×Obj)}{σ:St}{H:Hp}{s:Shared}{E:Value->Shared->Prop}
theorem Inv.rO(I:Inv X pins σ H s)(E:Value->Shared->Prop):Inv (X.rO E) pins σ H s:=⟨I.ok.rO E,I.os,I.bare,I.base,I.loc,I.cell,I.free,I.freeC,I.pin,I.hok,I.len⟩
theorem Inv.j8(I:Inv (X.rO E) pins σ H s):Inv X pins σ H s:=⟨I.ok.j8,I.os,I.bare,I.base,I.loc,I.cell,I.free,I.freeC,I.pin,I.hok,I.len⟩
theorem SP.j8{D:Ends}{f:Flow}{s':Shared}(h:SP (X.rO E) pins D f s'):SP X pins D f s':=by
 cases f with
 |next=>obtain⟨σ',H',I,q⟩:=h;exact⟨σ',H',I.j8,q⟩
 |brk=>obtain⟨σ',H',I,q⟩:=h;exact⟨σ',H',I.j8,q⟩
 |cont=>obtain⟨σ',H',I,q⟩:=h;exact⟨σ',H',I.j8,q⟩
 |ret u=>obtain⟨v,σ',H',I,r,q⟩:=h;exact⟨v,σ',H',I.j8,r,q⟩
theorem vt.Ht{st:List Stmt}{t:TS}(h:vt X.Ht st t):vt X st t:=fun pins s σ H D I hw =>
 wpAny_mono (h pins s σ H D (I.rO _) hw) (fun _ _ q=>q.j8) fun _ _ z=>False.elim z
end
section
variable {X:Cx}{st:Stmt}{rest:List Stmt}{t u:TS}{e:Expr}{te:TE}{pos:Pos}
noncomputable def Gk:TS:=fun D σ H=>D.nx σ H
noncomputable def bj(t u:TS):TS:=fun D σ H=>t {D with nx:=u D} σ H
theorem nq:vt X [] Gk:=fun _ _ σ H _ I h=>wpAny_execs_nil ⟨σ,H,I,h⟩
theorem cJ(h1:PS X st t)(h2:vt X rest u):vt X (st::rest) (bj t u):=by
 intro pins s σ H D I h
 refine wpAny_execs_cons (cF (h1 pins s σ H {D with nx:=u D} I h) fun f s1 q=>?_)
 cases f with
 |next =>
  obtain⟨σ',H',I',q⟩:=q
  exact h2 pins s1 σ' H' D I' q
 |ret v=>exact q
 |brk=>exact q
 |cont=>exact q
theorem aV(h1:PS X st t):vt X [st] t:=by
 intro pins s σ H D I h
 refine wpAny_execs_cons (cF (h1 pins s σ H D I h) fun f s1 q=>?_)
 cases f with
 |next=>exact wpAny_execs_nil q
 |ret v=>exact q
 |brk=>exact q
 |cont=>exact q
theorem Inv.quiet{pins:List (Addr×Obj)}{σ:St}{H:Hp}{s:Shared}(I:Inv X pins σ H s):interactive X.env=false:=by simp[interactive,I.ok.kind]
noncomputable def Jm(te:TE):TS:=fun D σ H=>te σ H fun _ H1=>D.nx σ H1
theorem cG(he:PE X e te)(hs:swapsWith e none pos.line X.env=pure false:=by rfl):PS X (.Expr e pos) (Jm te):=by
 intro pins s σ H D I h
 exact wpAny_Expr_any (cF (he pins s σ H _ I h) fun v s1 ⟨x,H1,I1,r1,q1⟩=>⟨σ,H1,I1,q1⟩) I.quiet hs
noncomputable def KJ(te:TE):TS:=fun D σ H=>te σ H D.rt
theorem b7(he:PE X e te):PS X (.Return (some e) pos) (KJ te):=by
 intro pins s σ H D I h
 exact wpAny_Return_some (cF (he pins s σ H _ I h) fun v s1 ⟨x,H1,I1,r1,q1⟩=>⟨x,σ,H1,I1,r1,q1⟩)
noncomputable def Jp(c:TT)(t u:TS):TS:=fun D σ H=>c σ H fun b H1=>if b=true then t D σ H1 else u D σ H1
theorem iG{c:Expr}{a b:List Stmt}{tc:TT}(hc:PT X c tc)(ha:vt X a t)(hb:vt X b u):PS X (.If c a b pos) (Jp tc t u):=by
 intro pins s σ H D I h
 refine wpAny_If (cF (hc pins s σ H _ I h) fun d s1 ⟨H1,I1,q1⟩=>?_)
 cases d with
 |true=>exact ha pins s1 σ H1 D I1 q1
 |false=>exact hb pins s1 σ H1 D I1 q1
noncomputable def Hu:TS:=fun _ _ _=>False
theorem b8:PS X st Hu:=fun _ _ _ _ _ _ h=>h.elim
end
noncomputable abbrev TG:=V->St->Hp->(St->Hp->Prop)->Prop
noncomputable abbrev En:=List V->St->Hp->(St->Hp->Prop)->Prop
noncomputable def PG(X:Cx)(target:Expr)(t:TG):Prop :=
 ∀(pins:List (Addr×Obj)) (s:Shared) (σ:St) (H:Hp) (v:V) (u:Value) (Q:St->Hp->Prop),Inv X pins σ H s->RelV v u->t v σ H Q ->
  wpAny (model X.prog X.w) X.A (assign target X.env u) (fun _ s'=>∃σ' H',Inv X pins σ' H' s'/\Q σ' H') X.xe s
noncomputable def Jd(X:Cx)(ts:List Expr)(t:En):Prop :=
 ∀(pins:List (Addr×Obj)) (s:Shared) (σ:St) (H:Hp) (vs:List V) (us:List Value) (Q:St->Hp->Prop),Inv X pins σ H s->Vals vs us->t vs σ H Q ->
  wpAny (model X.prog X.w) X.A (assignInOrder ((assignEach ts X.env).map (·.2)) us) (fun _ s'=>∃σ' H',Inv X pins σ' H' s'/\Q σ' H') X.xe s
noncomputable abbrev Hv:=V->V->V->Hp->(Hp->Prop)->Prop
noncomputable def Jq(X:Cx)(t:Hv):Prop :=
 ∀(pins:List (Addr×Obj)) (s:Shared) (σ:St) (H:Hp) (o i v:V) (ov iv u:Value) (Q:Hp->Prop),Inv X pins σ H s->RelV o ov->RelV i iv->RelV v u->t o i v H Q ->
  wpAny (model X.prog X.w) X.A (setItem ov iv u) (fun _ s'=>∃H',Inv X pins σ H' s'/\Q H') X.xe s
noncomputable abbrev Km:=V->V->Hp->VK->Prop
noncomputable def Lz(X:Cx)(op:Operator)(t:Km):Prop :=
 ∀(pins:List (Addr×Obj)) (s:Shared) (σ:St) (H:Hp) (x y:V) (v u:Value) (Q:VK),Inv X pins σ H s->RelV x v->RelV y u->t x y H Q ->
  wpAny (model X.prog X.w) X.A (inplaceOp op v u) (EP X pins σ Q) X.xe s
section
variable {X:Cx}{pos:Pos}
noncomputable def vA(i:Nat):TG:=fun v σ H Q=>Q (σ.set i (some v)) H
theorem yZ{i:Nat}{x:Str}(hN:X.N.Nodup)(hi:X.N[i]?=some x)(hx:Loc X.env.scope x)(hf:X.fn x=true\/X.env.scope.names.lookup x=some .local:=by first|exact .inl rfl|exact .inr rfl|assumption):PG X (.Name x pos) (vA i):=by
 intro pins s σ H v u Q I r h
 exact wpAny_assign_Name (qp I hN hi hx r (fun s' I'=>⟨_,H,I',h⟩) hf)
noncomputable def KN:En:=fun vs σ H Q=>vs=[]/\Q σ H
noncomputable def Jr(t:TG)(u:En):En:=fun vs σ H Q=>∃v r,vs=v::r/\t v σ H fun σ' H'=>u r σ' H' Q
theorem cM:Jd X [] KN:=by
 intro pins s σ H vs us Q I r h
 obtain⟨e,h⟩:=h
 subst e
 cases r
 exact assignInOrder_nil ⟨σ,H,I,h⟩
theorem bW{e:Expr}{es:List Expr}{t:TG}{u:En}(h1:PG X e t)(h2:Jd X es u)
  (hs:(assignEach (e::es) X.env).map (·.2)=assign e X.env::(assignEach es X.env).map (·.2):=by rfl):Jd X (e::es) (Jr t u):=by
 intro pins s σ H vs us Q I r h
 obtain⟨v,vr,e1,h⟩:=h
 subst e1
 cases r with
 |cons r rr =>
  rw[hs]
  refine assignInOrder_cons (cF (h1 pins s σ H _ _ _ I r h) fun _ s1 ⟨σ1,H1,I1,q1⟩=>?_)
  exact h2 pins s1 σ1 H1 _ _ Q I1 rr q1
noncomputable def Js(K:PySem.W.Frag)(n:Nat)(t:En):TG:=fun v σ H Q=>∃a xs,v=.ref a/\bf K H a xs/\xs.length=n/\t xs σ H Q
theorem Hw{es:List Expr}{k:Nat}{t:En}{n:Nat}(hc:X.calm=true)(h:Jd X es t)
  (hn:(assignEach es X.env).length=n:=by rfl) (hst:(assignEach es X.env).findIdx? (·.1)=none:=by rfl):PG X (.Tuple es k pos) (Js X.K n t):=by
 intro pins s σ H v u Q I r hw
 obtain⟨a,xs,e1,hq,hl,hw⟩:=hw
 subst e1
 cases r
 obtain⟨its,rv,ht,hz⟩:=I.tuple hq
 refine assign_Tuple_tuple (I.ok.hd hc) ht (by simp[hn,←hl,rv.length]) hst fun h' hx=>?_
 have I1:Inv X pins σ H {s with heap:=h'}:=I.kept (t':=s.toks) fun b o e=>hx b o (Nat.ne_of_lt (Heap.lt_size e)) e
 exact h pins _ σ H xs _ Q I1 (by simpa using rv) hw
noncomputable def KO(to ti:TE)(t:Hv):TG:=fun v σ H Q=>to σ H fun o H1=>ti σ H1 fun i H2=>t o i v H2 fun H3=>Q σ H3
theorem BV{o i:Expr}{to ti:TE}{t:Hv}(ho:PE X o to)(hi:PE X i ti)(hs:Jq X t)
  (ha:∀v,assign (.Subscript o i pos) X.env v=(do
   let ov ←holding [v] (eval o X.env)
   let iv ←holding [v,ov] (eval i X.env)
   standAt pos
   holding [v,ov,iv] (setItem ov iv v)
   release [v,ov,iv] []):=by intro _;rfl):PG X (.Subscript o i pos) (KO to ti t):=by
 intro pins s σ H v u Q I r h
 rw[ha]
 refine wpAny_bind (wpAny_holding (cF (ho pins s σ H _ I h) fun ov s1 ⟨x,H1,I1,r1,q1⟩=>?_))
 refine wpAny_bind (wpAny_holding (cF (hi pins s1 σ H1 _ I1 q1) fun iv s2 ⟨y,H2,I2,r2,q2⟩=>?_))
 refine wpAny_bind (wpAny_standAt (wpAny_bind (wpAny_holding (cF (hs pins s2 σ H2 x y v ov iv u _ I2 r1 r2 r q2) fun _ s3 ⟨H3,I3,q3⟩=>?_))))
 exact wpAny_release ⟨σ,H3,I3,q3⟩
noncomputable def AH(te:TE)(g:TG):TS:=fun D σ H=>te σ H fun x H1=>g x σ H1 D.nx
theorem oF{tg e:Expr}{te:TE}{g:TG}(he:PE X e te)(hg:PG X tg g)(hs:swapsWithSole [tg] e pos.line X.env=pure false:=by rfl)(hw:swappedStores [tg] e X.env=pure none:=by rfl)
  (h1:(assignEach [tg] X.env).map (·.2)=[assign tg X.env]:=by rfl):PS X (.Assign [tg] e pos) (AH te g):=by
 intro pins s σ H D I h
 refine wpAny_Assign_stores (cF (he pins s σ H _ I h) fun v s1 ⟨x,H1,I1,r1,q1⟩=>?_) hs hw
 rw[h1]
 exact cF (hg pins s1 σ H1 x v _ I1 r1 q1) fun _ s2 q=>q
theorem j9{i:Nat}{x:Str}{e:Expr}{te:TE}{pos':Pos}(hN:X.N.Nodup)(hi:X.N[i]?=some x)(hx:Loc X.env.scope x)(he:PE X e te)(hs:swapsWith e (some (.Name x pos')) pos.line X.env=pure false:=by rfl)(hf:X.fn x=true\/X.env.scope.names.lookup x=some .local:=by first|exact .inl rfl|exact .inr rfl|assumption) :
  PS X (.Assign [.Name x pos'] e pos) (AH te (vA i)):=by
 intro pins s σ H D I h
 refine wpAny_Assign_Name (cF (he pins s σ H _ I h) fun v s1 ⟨y,H1,I1,r1,q1⟩=>?_) hs
 exact qp I1 hN hi hx r1 (fun s2 I2=>⟨_,H1,I2,q1⟩) hf
noncomputable def KQ(i:Nat)(te:TE)(ti:Km):TS:=fun D σ H=>∃x,σ[i]?=some (some x)/\te σ H fun y H1=>ti x y H1 fun z H2=>D.nx (σ.set i (some z)) H2
theorem BW{i:Nat}{x:Str}{e:Expr}{te:TE}{op:Operator}{ti:Km}{pos':Pos}(hN:X.N.Nodup)(hi:X.N[i]?=some x)(hx:Loc X.env.scope x)(he:PE X e te)(ho:Lz X op ti)(hf:X.fn x=true\/X.env.scope.names.lookup x=some .local:=by first|exact .inl rfl|exact .inr rfl|assumption) :
  PS X (.AugAssign (.Name x pos') op e pos) (KQ i te ti):=by
 intro pins s σ H D I h
 obtain⟨v,e1,h⟩:=h
 obtain⟨m,hn,hl⟩:=I.loc
 have vis:Jh X.env.scope x:=by rcases hx with k|k;exact .inl k;exact .inr (.inl k)
 obtain⟨u,r,l⟩:=hl i x v hi e1 vis
 refine wpAny_AugAssign_Name ?_
 have go:wpAny (model X.prog X.w) X.A (eval e X.env) (fun w s₂=>wpAny (model X.prog X.w) X.A (inplaceOp op u w) (fun r s₃=>wpAny (model X.prog X.w) X.A (storeName X.env x r) (fun _=>SP X pins D .next) X.xe s₃) X.xe s₂) X.xe s:=by
  refine cF (he pins s σ H _ I h) fun w s1 ⟨y,H1,I1,r1,q1⟩=>?_
  refine cF (ho pins s1 σ H1 v y u w _ I1 r r1 q1) fun z s2 ⟨zv,H2,I2,r2,q2⟩=>?_
  exact qp I2 hN hi hx r2 (fun s3 I3=>⟨_,H2,I3,q2⟩) hf
 rcases l with⟨hk,hm⟩|⟨hk,c,hc,hcell⟩
 ·exact wpAny_loadName_local I.ok.kind hk hn hm go
 ·rcases hk with hk|hk
  ·exact wpAny_loadName_cell I.ok.kind hk hc hcell go
  ·rcases hx with k|k
   ·have:X.env.scope.names.lookup x=some .free:=hk
    rw[k]at this;cases this
   ·have:X.env.scope.names.lookup x=some .free:=hk
    rw[k]at this;cases this
noncomputable def LY(f:Int->Int->Int):Km:=fun x y H Q=>∃i j,x=.int i/\y=.int j/\Q (.int (f i j)) H
theorem BX:Lz X .Add (LY fun i j=>i+j):=by
 intro pins s σ H x y v u Q I r1 r2 h
 obtain⟨i,j,e1,e2,q⟩:=h
 subst e1;subst e2
 obtain⟨t,rfl⟩:=r1
 obtain⟨t',rfl⟩:=r2
 exact iadd_int ⟨.int _,H,I.tok _,⟨_,rfl⟩,q⟩
end
section
variable {X:Cx}{pos:Pos}
noncomputable def Hx(c:TT)(tb:TS):TS:=fun D σ H=>∃W:Nat->St->Hp->Prop,(∃m,W m σ H)/\∀m σ H,W m σ H ->
 c σ H fun b H1=>if b=true then ∃N:St->Hp->Prop,(∀σ' H',N σ' H'->∃m',m' < m/\W m' σ' H')/\tb {D with nx:=N,ct:=N,bk:=D.nx} σ H1 else D.nx σ H1
theorem nu{c:Expr}{body:List Stmt}{tc:TT}{tb:TS}(hp:PassesOwn (model X.prog X.w) X.A X.env X.xe)(hc:PT X c tc)(hb:vt X body tb):PS X (.While c body [] pos) (Hx tc tb):=by
 intro pins s σ H D I h
 obtain⟨W,⟨m0,w0⟩,turn⟩:=h
 refine wpAny_While (codeAny_whileLoop (fun n s'=>∃σ' H',Inv X pins σ' H' s'/\W n σ' H') ?_ m0 ⟨σ,H,I,w0⟩)
 rintro n s1 ⟨σ1,H1,I1,w1⟩
 refine wpAny_passesOwn hp (cF (hc pins s1 σ1 H1 _ I1 (turn n σ1 H1 w1)) fun b s2 ⟨H2,I2,q2⟩=>?_)
 cases b with
 |true =>
  obtain⟨N,hN,q2⟩:=q2
  rw[if_pos rfl]
  refine wpAny_passesOwn hp (cF (hb pins s2 σ1 H2 _ I2 q2) fun f s3 q3=>?_)
  cases f with
  |next =>
   obtain⟨σ3,H3,I3,n3⟩:=q3
   obtain⟨m',hm,w3⟩:=hN σ3 H3 n3
   exact⟨m',hm,σ3,H3,I3,w3⟩
  |cont =>
   obtain⟨σ3,H3,I3,n3⟩:=q3
   obtain⟨m',hm,w3⟩:=hN σ3 H3 n3
   exact⟨m',hm,σ3,H3,I3,w3⟩
  |brk=>exact q3
  |ret v=>exact q3
 |false =>
  rw[if_neg Bool.false_ne_true]
  exact wpAny_execs_nil ⟨σ1,H2,I2,q2⟩
end
structure It where
 go:Nat->Hp->Prop
 yld:Nat->Hp->V->Hp->Prop
 stop:Nat->Hp->Prop
noncomputable def nv(X:Cx)(pins:List (Addr×Obj))(H:Hp)(b:Addr):Prop :=
 H b=none/\b≠X.env.locals/\b∉X.fs/\(b∈X.ex\/X.s₀.heap.objs.size<=b)/\(∀x c,X.env.cells.lookup x=some c->c≠b)/\∀p∈X.pn++pins,p.1≠b
theorem Inv.xP{X:Cx}{pins:List (Addr×Obj)}{σ:St}{H H':Hp}{s:Shared}{b:Addr}(I:Inv X pins σ H s)(hb:s.heap.objs.size<=b)(hn:H' b=none):nv X pins H' b:=by
 refine⟨hn,Nat.ne_of_gt (Nat.lt_of_lt_of_le I.lt hb),I.Ex hb,.inr (Nat.le_trans I.sz hb),fun x c e z=>?_,fun p hp z=>?_⟩
 ·obtain⟨v,q⟩:=I.cell x c e
  exact absurd (Nat.lt_of_lt_of_le q.lt (by rw[z];exact hb)) (Nat.lt_irrefl _)
 ·exact absurd (Nat.lt_of_lt_of_le (Heap.lt_size (I.pin p hp).1) (by rw[z];exact hb)) (Nat.lt_irrefl _)
structure Turn(P:Program) (w:World) (K:PySem.W.Frag) (tg:Expr) (J:It) (fp:List Addr) (it:Addr) (tn:Nat->Heap->Prop):Prop where
 mem:it∈fp
 obj:∀i h,tn i h->∀b∈fp,∃o,h.get? b=some o/\∀v,o.data≠.cell v
 keep:∀i h h',tn i h->(∀b∈fp,∀o,h.get? b=some o->h'.get? b=some o)->tn i h'
 item:∀(X:Cx),X.prog=P->X.w=w->X.K=K->X.calm=true->∀(i:Nat) (pins:List (Addr×Obj)) (s:Shared) (σ:St) (H:Hp) (E:Value->Shared->Prop),Inv X pins σ H s->(∀b∈fp,nv X pins H b)->tn i s.heap->J.go i H ->
  wpAny (model P w) X.A (pyNext (.ref it)) (fun r s1=>∃u,r=some u /\
   wpAny (model P w) X.A (letOwnedTupleGo tg (.ref it) u) (fun _ s2=>∃x H',Inv X pins σ H' s2/\RelV x u/\J.yld i H x H'/\tn (i+1) s2.heap/\∀b∈fp,H' b=none) E s1) E s
 done:∀(X:Cx),X.prog=P->X.w=w->X.K=K->X.calm=true->∀(i:Nat) (pins:List (Addr×Obj)) (s:Shared) (σ:St) (H:Hp) (E:Value->Shared->Prop),Inv X pins σ H s->(∀b∈fp,nv X pins H b)->tn i s.heap->J.stop i H ->
  wpAny (model P w) X.A (pyNext (.ref it)) (fun r s1=>r=none/\Inv X pins σ H s1) E s
 self:∀(A:Around) (i:Nat) (s:Shared) (Q:Value->Shared->Prop) (E:Value->Shared->Prop),tn i s.heap->Q (.ref it) s->wpAny (model P w) A (pyIter (.ref it)) Q E s
noncomputable abbrev TI:=St->Hp->(It->Hp->Prop)->Prop
noncomputable def LB(X:Cx)(pins:List (Addr×Obj))(σ:St)(tg:Expr)(R:It->Hp->Prop)(itv:Value)(s2:Shared):Prop :=
 ∃(it:Addr) (fp:List Addr) (tn:Nat->Heap->Prop) (J:It) (H':Hp),itv=.ref it/\Inv X pins σ H' s2/\Turn X.prog X.w X.K tg J fp it tn/\tn 0 s2.heap/\(∀b∈fp,nv X pins H' b)/\R J H'
noncomputable def PI(X:Cx)(tg iter:Expr)(wi:TI):Prop :=
 ∀(pins:List (Addr×Obj)) (s:Shared) (σ:St) (H:Hp) (R:It->Hp->Prop),Inv X pins σ H s->wi σ H R ->
  wpAny (model X.prog X.w) X.A (eval iter X.env) (fun v s1=>wpAny (model X.prog X.w) X.A (pyIter v) (LB X pins σ tg R) X.xe s1) X.xe s
theorem vB {M : Model} {A : Around} {E : Value → Shared → Prop} {s : Shared} {tg : Expr} {it : Addr} {u : Value} {o : Obj} {n : String} {vs : Array Value} {Q : Unit → Shared → Prop} (ho : s.heap.get? it = some o) (hc : o.cls = .type n) (hd : o.data = .fields vs)
    (hn : ["enumerate", "zip", "dict_itemiterator", "dict_reverseitemiterator", "odict_iterator", "itertools.zip_longest", "itertools.pairwise"].contains n = false) (hQ : Q () s) : wpAny M A (letOwnedTupleGo tg (.ref it) u) Q E s := by
  unfold letOwnedTupleGo
  cases tg <;> first
    | exact wpAny_pure hQ
    | (cases u <;> first
        | exact wpAny_pure hQ
        | (refine wpAny_bind (wpAny_load ho ?_)
           rw [hc, hd]
           show wpAny M A (if (["enumerate", "zip", "dict_itemiterator", "dict_reverseitemiterator", "odict_iterator", "itertools.zip_longest", "itertools.pairwise"].contains n && vs[0]? == some (rawInt _)) = true then _ else _) Q E s
           rw [if_neg (by intro h; rw [hn, Bool.false_and] at h; cases h)]
           exact wpAny_pure hQ))
noncomputable def Gm(K:PySem.W.Frag)(a:Addr):It :=
 ⟨fun i H=>∃xs x,bB K H a xs/\xs[i]?=some x,fun i H x H'=>H'=H/\∀xs,bB K H a xs->xs[i]?=some x,fun i H=>∃xs,bB K H a xs/\xs.length<=i⟩
noncomputable def Hy(K:PySem.W.Frag)(a:Addr):It :=
 ⟨fun i H=>∃xs x,bf K H a xs/\xs[i]?=some x,fun i H x H'=>H'=H/\∀xs,bf K H a xs->xs[i]?=some x,fun i H=>∃xs,bf K H a xs/\xs.length<=i⟩
noncomputable def Hz(lo:Int)(n:Nat):It:=⟨fun i _=>i<n,fun i H x H'=>H'=H/\x=.int (lo+i),fun i _=>n<=i⟩
theorem AI{P:Program}{w:World}{K:PySem.W.Frag}{tg:Expr}(a it:Addr):Turn P w K tg (Gm K a) [it] it (fun i h=>h.IsListIter it a i) where
 mem:=by simp
 obj:=fun i h st b hb=>by
  have e:b=it:=by simpa using hb
  subst e
  obtain⟨o,e,c,d⟩:=st
  exact⟨o,e,fun v z=>by rw[d]at z;cases z⟩
 keep:=fun i h h' st k=>st.at fun o e=>k it (by simp) o e
 item:=by
  intro X hP hw hK hc i pins s σ H E I hf st hg
  subst hP hw hK
  obtain⟨xs,x,hq,hx⟩:=hg
  obtain⟨its,rv,p,hz⟩:=I.list hq
  obtain⟨u,hu,ru⟩:=rv.get hx
  obtain⟨f0,f1,f2,f3,f4,f5⟩:=hf it (by simp)
  refine wpAny_pyNext_list_item st p.isList (x:=u) (by simpa using hu) fun h' st' sb=>?_
  have I1:Inv X pins σ H {s with heap:=h'}:=I.turned (t':=s.toks) (fun b o hb e=>(sb.2 b hb).trans e) f0 f1 f3 f4 f5
  obtain⟨o,e,c,d⟩:=id st'
  exact⟨u,rfl,vB (s:={s with heap:=h'}) e c d (by decide) ⟨x,H,I1,ru,⟨rfl,fun ys hy=>by rw[I.vz hy hq];exact hx⟩,st',fun b hb=>(hf b hb).1⟩⟩
 done:=by
  intro X hP hw hK hc i pins s σ H E I hf st hg
  subst hP hw hK
  obtain⟨xs,hq,hx⟩:=hg
  obtain⟨its,rv,p,hz⟩:=I.list hq
  obtain⟨f0,f1,f2,f3,f4,f5⟩:=hf it (by simp)
  have hl:=rv.length
  exact wpAny_pyNext_list_end (I.ok.hd hc) st p.isList (by simp;omega) fun h' eb=>⟨rfl,I.turned (t':=s.toks) (fun b o hb e=>eb b o hb e) f0 f1 f3 f4 f5⟩
 self:=fun _ _ _ _ _ st h=>wpAny_pyIter_listiter st h
theorem xQ{P:Program}{w:World}{K:PySem.W.Frag}{tg:Expr}(a it:Addr):Turn P w K tg (Hy K a) [it] it (fun i h=>h.IsTupleIter it a i) where
 mem:=by simp
 obj:=fun i h st b hb=>by
  have e:b=it:=by simpa using hb
  subst e
  obtain⟨o,e,c,d⟩:=st
  exact⟨o,e,fun v z=>by rw[d]at z;cases z⟩
 keep:=fun i h h' st k=>st.at fun o e=>k it (by simp) o e
 item:=by
  intro X hP hw hK hc i pins s σ H E I hf st hg
  subst hP hw hK
  obtain⟨xs,x,hq,hx⟩:=hg
  obtain⟨its,rv,p,hz⟩:=I.tuple hq
  obtain⟨u,hu,ru⟩:=rv.get hx
  obtain⟨f0,f1,f2,f3,f4,f5⟩:=hf it (by simp)
  refine wpAny_pyNext_tuple_item st (show s.heap.IsTuple a its.toArray from p) (x:=u) (by simpa using hu) fun h' st' sb=>?_
  have I1:Inv X pins σ H {s with heap:=h'}:=I.turned (t':=s.toks) (fun b o hb e=>(sb.2 b hb).trans e) f0 f1 f3 f4 f5
  obtain⟨o,e,c,d⟩:=id st'
  exact⟨u,rfl,vB (s:={s with heap:=h'}) e c d (by decide) ⟨x,H,I1,ru,⟨rfl,fun ys hy=>by rw[I.oE hy hq];exact hx⟩,st',fun b hb=>(hf b hb).1⟩⟩
 done:=by
  intro X hP hw hK hc i pins s σ H E I hf st hg
  subst hP hw hK
  obtain⟨xs,hq,hx⟩:=hg
  obtain⟨its,rv,p,hz⟩:=I.tuple hq
  obtain⟨f0,f1,f2,f3,f4,f5⟩:=hf it (by simp)
  have hl:=rv.length
  exact wpAny_pyNext_tuple_end (I.ok.hd hc) st (show s.heap.IsTuple a its.toArray from p) (by simp;omega) fun h' eb=>⟨rfl,I.turned (t':=s.toks) (fun b o hb e=>eb b o hb e) f0 f1 f3 f4 f5⟩
 self:=fun _ _ _ _ _ st h=>wpAny_pyIter_tupleiter st h
theorem xR{P:Program}{w:World}{K:PySem.W.Frag}{tg:Expr}(it:Addr)(lo:Int)(n:Nat):Turn P w K tg (Hz lo n) [it] it (fun i h=>IsRangeIter h it (lo+(i:Nat)*1) ((n:Int) - (i:Nat)) 1) where
 mem:=by simp
 obj:=fun i h st b hb=>by
  have e:b=it:=by simpa using hb
  subst e
  exact⟨_,st,fun v z=>by
   have z':Data.fields _=Data.cell v:=z
   cases z'⟩
 keep:=fun i h h' st k=>k it (by simp) _ st
 item:=by
  intro X hP hw hK hc i pins s σ H E I hf st hg
  subst hP hw hK
  obtain⟨f0,f1,f2,f3,f4,f5⟩:=hf it (by simp)
  have W:=Walks.range (prog:=X.prog) (w:=X.w) (I.ok.hd hc) it lo 1 n
  refine W.item i s _ _ hg st fun v h' tk hv st' kk=>?_
  obtain⟨t,rfl⟩:=hv
  have I1:Inv X pins σ H {s with heap:=h',toks:=tk}:=I.turned (fun b o hb e=>kk b o (by simpa using hb) e) f0 f1 f3 f4 f5
  refine⟨_,rfl,vB (s:={s with heap:=h',toks:=tk}) (n:="range_iterator") st' rfl rfl (by decide) ⟨.int (lo+i),H,I1,⟨t,?_⟩,⟨rfl,rfl⟩,st',fun b hb=>(hf b hb).1⟩⟩
  rw[Int.mul_one]
 done:=by
  intro X hP hw hK hc i pins s σ H E I hf st hg
  subst hP hw hK
  obtain⟨f0,f1,f2,f3,f4,f5⟩:=hf it (by simp)
  exact wpAny_pyNext_range_end (I.ok.hd hc) st (by have:n<=i:=hg;omega) fun h' eb=>⟨rfl,I.turned (t':=s.toks) (fun b o hb e=>eb b o hb e) f0 f1 f3 f4 f5⟩
 self:=fun _ _ _ _ _ st h=>wpAny_pyIter_rangeiter st h
section
variable {X:Cx}{tg:Expr}
noncomputable def Jt(K:PySem.W.Frag)(tl:TE):TI:=fun σ H R=>tl σ H fun x H1=>∃a,x=.ref a/\(∃xs,bB K H1 a xs)/\R (Gm K a) H1
noncomputable def Ju(K:PySem.W.Frag)(tl:TE):TI:=fun σ H R=>tl σ H fun x H1=>∃a,x=.ref a/\(∃xs,bf K H1 a xs)/\R (Hy K a) H1
theorem fJ{l:Expr}{tl:TE}(hl:PE X l tl):PI X tg l (Jt X.K tl):=by
 intro pins s σ H R I h
 refine cF (hl pins s σ H _ I h) fun v s1 ⟨x,H1,I1,r1,q1⟩=>?_
 obtain⟨a,e,⟨xs,hq⟩,q⟩:=q1
 subst e
 cases r1
 obtain⟨its,rv,p,hz⟩:=I1.list hq
 refine wpAny_pyIter_list p.isList ?_
 refine⟨s1.heap.objs.size,[s1.heap.objs.size],_,_,H1,rfl,I1.kept (t':=s1.toks) fun b o e=>Heap.get?_push_of_some _ e,AI a _,⟨_,Heap.get?_push_size _ rfl,rfl,rfl⟩,fun b hb=>?_,q⟩
 have e:b=s1.heap.objs.size:=by simpa using hb
 subst e
 exact I1.xP (Nat.le_refl _) (I1.hok.fresh (Nat.le_refl _))
theorem fK{l:Expr}{tl:TE}(hl:PE X l tl):PI X tg l (Ju X.K tl):=by
 intro pins s σ H R I h
 refine cF (hl pins s σ H _ I h) fun v s1 ⟨x,H1,I1,r1,q1⟩=>?_
 obtain⟨a,e,⟨xs,hq⟩,q⟩:=q1
 subst e
 cases r1
 obtain⟨its,rv,p,hz⟩:=I1.tuple hq
 refine wpAny_pyIter_tuple (show s1.heap.IsTuple a its.toArray from p) ?_
 refine⟨s1.heap.objs.size,[s1.heap.objs.size],_,_,H1,rfl,I1.kept (t':=s1.toks) fun b o e=>Heap.get?_push_of_some _ e,xQ a _,⟨_,Heap.get?_push_size _ rfl,rfl,rfl⟩,fun b hb=>?_,q⟩
 have e:b=s1.heap.objs.size:=by simpa using hb
 subst e
 exact I1.xP (Nat.le_refl _) (I1.hok.fresh (Nat.le_refl _))
theorem BY{pins:List (Addr×Obj)}{σ:St}{H:Hp}{s:Shared}{R:It->Hp->Prop}{E:Value->Shared->Prop}{lo hi:Int}{t u v:Tok}{tk:Nat}(I:Inv X pins σ H s)(h1:-(2 ^ 62)<=lo)(h2:lo<2 ^ 62)(h3:-(2 ^ 62)<=hi)(h4:hi<2 ^ 62)
  (q:R (Hz lo (hi-lo).toNat) H):wpAny (model X.prog X.w) X.A (pyIter (.ref s.heap.objs.size)) (LB X pins σ tg R) E {s with heap:=s.heap.push {cls:=.type "range",data:=.fields #[.int lo t,.int hi u,.int 1 v]},toks:=tk}:=by
 refine wpAny_pyIter_range (IsRange.new ..) (small_one h1 h2 h3 h4) ?_
 have I1:Inv X pins σ H {s with heap:=s.heap.push {cls:=.type "range",data:=.fields #[.int lo t,.int hi u,.int 1 v]},toks:=tk}:=I.kept fun b o e=>Heap.get?_push_of_some _ e
 refine⟨(s.heap.push {cls:=.type "range",data:=.fields #[.int lo t,.int hi u,.int 1 v]}).objs.size,[(s.heap.push {cls:=.type "range",data:=.fields #[.int lo t,.int hi u,.int 1 v]}).objs.size],_,_,H,rfl,
  I1.kept (t':=tk) fun b o e=>Heap.get?_push_of_some _ e,xR _ lo (hi-lo).toNat,?_,fun b hb=>?_,q⟩
 ·have e1:lo+((0:Nat):Int)*1=lo:=by simp
  have e2:(((hi-lo).toNat:Nat):Int) - ((0:Nat):Int)=Builtin.Range.rangeSize lo hi 1:=by rw[rangeSize_one];split<;>omega
  show IsRangeIter _ _ (lo+((0:Nat):Int)*1) ((((hi-lo).toNat:Nat):Int) - ((0:Nat):Int)) 1
  rw[e1,e2]
  exact Heap.get?_push_size _ rfl
 ·have e:b=(s.heap.push {cls:=.type "range",data:=.fields #[.int lo t,.int hi u,.int 1 v]}).objs.size:=by simpa using hb
  subst e
  exact I1.xP (Nat.le_refl _) (I1.hok.fresh (Nat.le_refl _))
noncomputable def Jv(ta:TA):TI:=fun σ H R=>ta σ H fun vs H1=>∃j:Int,vs=[.int j]/\-(2 ^ 62)<=j/\j<2 ^ 62/\R (Hz 0 j.toNat) H1
theorem oG{a:Expr}{ta:TA}{p pos:Pos}(hg:Gl X "range")(hm:X.mg "range"=none)(ha:PA X [a] ta)(hs:starEach [a] X.env=[(false,eval a X.env)]:=by rfl):PI X tg (.Call (.Name "range" p) [a] [] pos) (Jv ta):=by
 intro pins s σ H R I h
 refine Call_ (oB I hg hm boot_range (PyProof.Rows.callWith_type1 (cF (ha pos pins s σ H _ I h) fun us s1 ⟨vs,H1,I1,r1,q1⟩=>?_) hs rfl))
 obtain⟨j,e,q1,q2,q⟩:=q1
 subst e
 cases r1 with
 |cons r rr =>
  cases rr
  obtain⟨t,rfl⟩:=r
  exact call_range_1 (BY I1 (by omega) (by omega) q1 q2 (by simpa using q))
noncomputable def KR(wi:TI)(g:TG)(tb:TS):TS:=fun D σ H=>wi σ H fun J H1=>∃W:Nat->Nat->St->Hp->Prop,(∃m,W 0 m σ H1)/\∀i m σ H,W i m σ H ->
 (J.stop i H/\D.nx σ H)\/(J.go i H/\∃N:St->Hp->Prop,(∀σ' H',N σ' H'->∃m',m' < m/\W (i+1) m' σ' H')/\∀x H',J.yld i H x H'->g x σ H' fun σ2 H2=>tb {D with nx:=N,ct:=N,bk:=D.nx} σ2 H2)
noncomputable def oH(fp:List Addr)(h:Heap):List (Addr×Obj):=fp.filterMap fun b=>(h.get? b).map fun o=>(b,o)
theorem gc{fp:List Addr}{h:Heap}{b:Addr}{o:Obj}(hb:b∈fp)(e:h.get? b=some o):(b,o)∈oH fp h:=List.mem_filterMap.mpr ⟨b,hb,by rw[e];rfl⟩
theorem AJ{fp:List Addr}{h:Heap}{p:Addr×Obj}(hp:p∈oH fp h):p.1∈fp/\h.get? p.1=some p.2:=by
 obtain⟨b,hb,e⟩:=List.mem_filterMap.mp hp
 cases q:h.get? b with
 |none=>rw[q]at e;cases e
 |some o =>
  rw[q]at e
  have e':(b,o)=p:=Option.some.inj e
  subst e'
  exact⟨hb,q⟩
theorem Inv.pinned{pins:List (Addr×Obj)}{σ:St}{H:Hp}{s:Shared}{fp:List Addr}(I:Inv X pins σ H s)(hf:∀b∈fp,nv X pins H b)(ho:∀b∈fp,∃o,s.heap.get? b=some o/\∀v,o.data≠.cell v):Inv X (pins++oH fp s.heap) σ H s :=
 I.gn fun p hp=>(List.mem_append.mp hp).elim (fun z=>I.pin p (List.mem_append_right _ z)) fun z=>by
  obtain⟨hb,e⟩:=AJ z
  obtain⟨f0,f1,f2,_⟩:=hf p.1 hb
  obtain⟨o,e',d⟩:=ho p.1 hb
  rw[e]at e';cases e'
  exact⟨e,f0,f1,f2,d⟩
theorem Inv.qt{pins pl:List (Addr×Obj)}{σ:St}{H:Hp}{s:Shared}(I:Inv X (pins++pl) σ H s):Inv X pins σ H s:=I.gn fun p hp=>I.pin p (List.mem_append_right _ (List.mem_append_left _ hp))
theorem HA{iter:Expr}{body:List Stmt}{wi:TI}{g:TG}{tb:TS}{pos:Pos}(hp:PassesOwn (model X.prog X.w) X.A X.env X.xe)(hc:X.calm=true)(hi:PI X tg iter wi)(hg:PG X tg g)(hb:vt X body tb)
  (hs:∀x,foldedSetIterable iter X.env x=pure x:=by intro _;rfl):PS X (.For tg iter body [] pos) (KR wi g tb):=by
 intro pins s σ H D I h
 refine wpAny_For (cF (hi pins s σ H _ I h) fun v s1 h1=>cF h1 fun itv s2 h2=>?_) hs
 obtain⟨it,fp,tn,J,H2,e,I2,T,st2,f2,W,⟨m0,w0⟩,turn⟩:=h2
 subst e
 -- what stays true of the iterator's objects through the loop
 have stat:∀{H':Hp},(∀b∈fp,H' b=none)->∀b∈fp,nv X pins H' b:=fun hn b hb=>⟨hn b hb,(f2 b hb).2⟩
 refine codeAny_forLoop_any (fun n s'=>∃i σ' H',Inv X pins σ' H' s'/\tn i s'.heap/\(∀b∈fp,H' b=none)/\W i n σ' H') ?_ m0 ⟨0,σ,H2,I2,st2,fun b hb=>(f2 b hb).1,w0⟩
 rintro n s3 ⟨i,σ3,H3,I3,st3,fr3,w3⟩
 rcases turn i n σ3 H3 w3 with⟨stop,qn⟩|⟨go,N,hN,step⟩
 ·refine wpAny_passesOwn hp (cF (T.done X rfl rfl rfl hc i pins s3 σ3 H3 X.xe I3 (stat fr3) st3 stop) fun r s4 ⟨hr,I4⟩=>?_)
  subst hr
  exact wpAny_execs_nil ⟨σ3,H3,I4,qn⟩
 ·refine wpAny_passesOwn hp (cF (T.item X rfl rfl rfl hc i pins s3 σ3 H3 X.xe I3 (stat fr3) st3 go) fun r s4 ⟨u,hr,h4⟩=>?_)
  subst hr
  refine wpAny_passesOwn hp (cF h4 fun _ s5 ⟨x,H5,I5,r5,y5,st5,fr5⟩=>?_)
  have I5':=I5.pinned (stat fr5) (T.obj _ _ st5)
  refine wpAny_passesOwn hp (cF (hg _ s5 σ3 H5 x u _ I5' r5 (step x H5 y5)) fun _ s6 ⟨σ6,H6,I6,q6⟩=>?_)
  refine wpAny_passesOwn hp (cF (hb _ s6 σ6 H6 _ I6 q6) fun f s7 q7=>?_)
  have again:∀{σ7:St}{H7:Hp},Inv X (pins++oH fp s5.heap) σ7 H7 s7->N σ7 H7->∃m,m<n/\∃i σ' H',Inv X pins σ' H' s7/\tn i s7.heap/\(∀b∈fp,H' b=none)/\W i m σ' H':=fun{σ7 H7} I7 n7=>by
   obtain⟨m',hm,w7⟩:=hN σ7 H7 n7
   refine⟨m',hm,i+1,σ7,H7,I7.qt,T.keep _ _ _ st5 fun b hb o e=>(I7.pin (b,o) (List.mem_append_right _ (List.mem_append_right _ (gc hb e)))).1,fun b hb=>?_,w7⟩
   obtain⟨o,e,d⟩:=T.obj _ _ st5 b hb
   exact(I7.pin (b,o) (List.mem_append_right _ (List.mem_append_right _ (gc hb e)))).2.1
  cases f with
  |next=>obtain⟨σ7,H7,I7,n7⟩:=q7;exact again I7 n7
  |cont=>obtain⟨σ7,H7,I7,n7⟩:=q7;exact again I7 n7
  |brk=>obtain⟨σ7,H7,I7,q7⟩:=q7;exact⟨σ7,H7,I7.qt,q7⟩
  |ret v=>obtain⟨x7,σ7,H7,I7,r7,q7⟩:=q7;exact⟨x7,σ7,H7,I7.qt,r7,q7⟩
end
theorem vC{K:PySem.W.Frag}{a:Addr}{xs:List V}{g:TG}{tb:TS}{D:Ends}{σ:St}{H:Hp}(Pv:Nat->St->Hp->Prop)(h0:Pv 0 σ H)(hl:∀i σ H,i<=xs.length->Pv i σ H->bB K H a xs)
  (hs:∀i x σ H,xs[i]?=some x->Pv i σ H->g x σ H fun σ2 H2=>tb {D with nx:=Pv (i+1),ct:=Pv (i+1),bk:=D.nx} σ2 H2) (hd:∀σ H,Pv xs.length σ H->D.nx σ H) :
  ∃W:Nat->Nat->St->Hp->Prop,(∃m,W 0 m σ H)/\∀i m σ H,W i m σ H ->
   ((Gm K a).stop i H/\D.nx σ H)\/((Gm K a).go i H/\∃N:St->Hp->Prop,(∀σ' H',N σ' H'->∃m',m' < m/\W (i+1) m' σ' H')/\∀x H',(Gm K a).yld i H x H'->g x σ H' fun σ2 H2=>tb {D with nx:=N,ct:=N,bk:=D.nx} σ2 H2):=by
 refine⟨fun i m σ H=>m=xs.length-i/\i<=xs.length/\Pv i σ H,⟨xs.length,by simp,Nat.zero_le _,h0⟩,?_⟩
 rintro i m σ H ⟨rfl,hi,p⟩
 have q:=hl i σ H hi p
 by_cases hlt:i<xs.length
 ·refine .inr ⟨⟨xs,xs[i],q,by simp[hlt]⟩,Pv (i+1),fun σ' H' p'=>⟨xs.length - (i+1),by omega,rfl,hlt,p'⟩,fun x H' y=>?_⟩
  obtain⟨e,y⟩:=y
  subst e
  exact hs i x σ _ (y xs q) p
 ·have e:i=xs.length:=by omega
  subst e
  exact .inl ⟨⟨xs,q,Nat.le_refl _⟩,hd σ H p⟩
theorem y9{K:PySem.W.Frag}{a:Addr}{xs:List V}{g:TG}{tb:TS}{D:Ends}{σ:St}{H:Hp}(Pv:Nat->St->Hp->Prop)(h0:Pv 0 σ H)(hl:∀i σ H,i<=xs.length->Pv i σ H->bf K H a xs)
  (hs:∀i x σ H,xs[i]?=some x->Pv i σ H->g x σ H fun σ2 H2=>tb {D with nx:=Pv (i+1),ct:=Pv (i+1),bk:=D.nx} σ2 H2) (hd:∀σ H,Pv xs.length σ H->D.nx σ H) :
  ∃W:Nat->Nat->St->Hp->Prop,(∃m,W 0 m σ H)/\∀i m σ H,W i m σ H ->
   ((Hy K a).stop i H/\D.nx σ H)\/((Hy K a).go i H/\∃N:St->Hp->Prop,(∀σ' H',N σ' H'->∃m',m' < m/\W (i+1) m' σ' H')/\∀x H',(Hy K a).yld i H x H'->g x σ H' fun σ2 H2=>tb {D with nx:=N,ct:=N,bk:=D.nx} σ2 H2):=by
 refine⟨fun i m σ H=>m=xs.length-i/\i<=xs.length/\Pv i σ H,⟨xs.length,by simp,Nat.zero_le _,h0⟩,?_⟩
 rintro i m σ H ⟨rfl,hi,p⟩
 have q:=hl i σ H hi p
 by_cases hlt:i<xs.length
 ·refine .inr ⟨⟨xs,xs[i],q,by simp[hlt]⟩,Pv (i+1),fun σ' H' p'=>⟨xs.length - (i+1),by omega,rfl,hlt,p'⟩,fun x H' y=>?_⟩
  obtain⟨e,y⟩:=y
  subst e
  exact hs i x σ _ (y xs q) p
 ·have e:i=xs.length:=by omega
  subst e
  exact .inl ⟨⟨xs,q,Nat.le_refl _⟩,hd σ H p⟩
theorem iA{lo:Int}{n:Nat}{g:TG}{tb:TS}{D:Ends}{σ:St}{H:Hp}(Pv:Nat->St->Hp->Prop)(h0:Pv 0 σ H)
  (hs:∀i σ H,i<n->Pv i σ H->g (.int (lo+i)) σ H fun σ2 H2=>tb {D with nx:=Pv (i+1),ct:=Pv (i+1),bk:=D.nx} σ2 H2) (hd:∀σ H,Pv n σ H->D.nx σ H) :
  ∃W:Nat->Nat->St->Hp->Prop,(∃m,W 0 m σ H)/\∀i m σ H,W i m σ H ->
   ((Hz lo n).stop i H/\D.nx σ H)\/((Hz lo n).go i H/\∃N:St->Hp->Prop,(∀σ' H',N σ' H'->∃m',m' < m/\W (i+1) m' σ' H')/\∀x H',(Hz lo n).yld i H x H'->g x σ H' fun σ2 H2=>tb {D with nx:=N,ct:=N,bk:=D.nx} σ2 H2):=by
 refine⟨fun i m σ H=>m=n-i/\i<=n/\Pv i σ H,⟨n,by simp,Nat.zero_le _,h0⟩,?_⟩
 rintro i m σ H ⟨rfl,hi,p⟩
 by_cases hlt:i<n
 ·refine .inr ⟨hlt,Pv (i+1),fun σ' H' p'=>⟨n - (i+1),by omega,rfl,hlt,p'⟩,fun x H' y=>?_⟩
  obtain⟨e,y⟩:=y
  subst e y
  exact hs i σ _ hlt p
 ·have e:i=n:=by omega
  subst e
  exact .inl ⟨Nat.le_refl _,hd σ H p⟩
noncomputable abbrev R2:=V->V->Hp->VK->Prop
noncomputable def j3(X:Cx)(f:Value->Value->Sem Value)(r:R2):Prop :=
 ∀(pins:List (Addr×Obj)) (s:Shared) (σ:St) (H:Hp) (x y:V) (v u:Value) (Q:VK),Inv X pins σ H s->RelV x v->RelV y u->r x y H Q ->
  wpAny (model X.prog X.w) X.A (f v u) (EP X pins σ Q) X.xe s
noncomputable def KS(X:Cx)(f:Value->Sem Value)(r:V->Hp->VK->Prop):Prop :=
 ∀(pins:List (Addr×Obj)) (s:Shared) (σ:St) (H:Hp) (x:V) (v:Value) (Q:VK),Inv X pins σ H s->RelV x v->r x H Q ->
  wpAny (model X.prog X.w) X.A (f v) (EP X pins σ Q) X.xe s
noncomputable def gZ(X:Cx)(f:Value)(r:List V->Hp->VK->Prop):Prop :=
 ∀(pins:List (Addr×Obj)) (s:Shared) (σ:St) (H:Hp) (xs:List V) (us:List Value) (Q:VK),Inv X pins σ H s->Vals xs us->r xs H Q ->
  wpAny (model X.prog X.w) X.A (call f us) (EP X pins σ Q) X.xe s
noncomputable def KU(X:Cx)(r:V->Hp->(Bool->Hp->Prop)->Prop):Prop :=
 ∀(pins:List (Addr×Obj)) (s:Shared) (σ:St) (H:Hp) (x:V) (v:Value) (Q:Bool->Hp->Prop),Inv X pins σ H s->RelV x v->r x H Q ->
  wpAny (model X.prog X.w) X.A (truthy v) (TP X pins σ Q) X.xe s
noncomputable def Kn(r:R2)(ta tb:TE):TE:=fun σ H Q=>ta σ H fun x H1=>tb σ H1 fun y H2=>r x y H2 Q
noncomputable def LZ(r:V->Hp->VK->Prop)(ta:TE):TE:=fun σ H Q=>ta σ H fun x H1=>r x H1 Q
noncomputable def rI(C:Int->Int->Prop)(g:Int->Int->V):R2:=fun x y H Q=>∃i j,x=.int i/\y=.int j/\C i j/\Q (g i j) H
noncomputable def Gn(g:Int->Int->V):R2:=fun x y H Q=>∃i j,x=.int i/\y=.int j/\Q (g i j) H
noncomputable def rU(g:Int->V):V->Hp->VK->Prop:=fun x H Q=>∃i,x=.int i/\Q (g i) H
section
variable {X:Cx}{a b c:Expr}{ta tb tc:TE}{pos:Pos}
theorem HB(ha:PE X a ta)(hb:PE X b tb){pins:List (Addr×Obj)}{s:Shared}{σ:St}{H:Hp}{R:V->V->Hp->Prop}(I:Inv X pins σ H s)
  (h:ta σ H fun x H1=>tb σ H1 fun y H2=>R x y H2) {Q:Value->Shared->Prop}{f:Value->Value->Sem Value}
  (hf:∀v u s2 x y H2,Inv X pins σ H2 s2->RelV x v->RelV y u->R x y H2->wpAny (model X.prog X.w) X.A (f v u) Q X.xe s2) :
  wpAny (model X.prog X.w) X.A (eval a X.env) (fun v s₁=>wpAny (model X.prog X.w) X.A (eval b X.env) (fun u s₂=>wpAny (model X.prog X.w) X.A (f v u) Q X.xe s₂) X.xe s₁) X.xe s:=by
 refine cF (ha pins s σ H _ I h) fun v s1 ⟨x,H1,I1,r1,q1⟩=>?_
 refine cF (hb pins s1 σ H1 _ I1 q1) fun u s2 ⟨y,H2,I2,r2,q2⟩=>?_
 exact hf v u s2 x y H2 I2 r1 r2 q2
theorem cy{op:Operator}{r:R2}(ho:j3 X (binaryOp op) r)(ha:PE X a ta)(hb:PE X b tb):PE X (.BinOp a op b pos) (Kn r ta tb):=by
 intro pins s σ H Q I h
 exact wpAny_BinOp (HB ha hb I h fun v u s2 x y H2 I2 rx ry q=>ho pins s2 σ H2 x y v u Q I2 rx ry q)
theorem pg{op:UnaryOp}{r:V->Hp->VK->Prop}(ho:KS X (unaryOp op) r)(ha:PE X a ta):PE X (.UnaryOp op a pos) (LZ r ta):=by
 intro pins s σ H Q I h
 exact UnaryOp_ (cF (ha pins s σ H _ I h) fun v s1 ⟨x,H1,I1,r1,q1⟩=>ho pins s1 σ H1 x v Q I1 r1 q1)
theorem Ko{f:Value->Value->Sem Value}{C:Int->Int->Prop}{g:Int->Int->Int}
  (rule:∀(i j:Int) (t u:Tok) (s:Shared) (Q:Value->Shared->Prop) (E:Value->Shared->Prop),C i j->Q (.int (g i j) s.toks) {s with toks:=s.toks+1}->wpAny (model X.prog X.w) X.A (f (.int i t) (.int j u)) Q E s) :
  j3 X f (rI C fun i j=>.int (g i j)):=by
 intro pins s σ H x y v u Q I rx ry h
 obtain⟨i,j,rfl,rfl,hc,q⟩:=h
 obtain⟨t,rfl⟩:=rx
 obtain⟨t',rfl⟩:=ry
 exact rule i j t t' s _ _ hc ⟨.int (g i j),H,I.tok _,⟨_,rfl⟩,q⟩
theorem Jw{f:Value->Value->Sem Value}{g:Int->Int->Int}
  (rule:∀(i j:Int) (t u:Tok) (s:Shared) (Q:Value->Shared->Prop) (E:Value->Shared->Prop),Q (.int (g i j) s.toks) {s with toks:=s.toks+1}->wpAny (model X.prog X.w) X.A (f (.int i t) (.int j u)) Q E s) :
  j3 X f (Gn fun i j=>.int (g i j)):=by
 intro pins s σ H x y v u Q I rx ry h
 obtain⟨i,j,rfl,rfl,q⟩:=h
 obtain⟨t,rfl⟩:=rx
 obtain⟨t',rfl⟩:=ry
 exact rule i j t t' s _ _ ⟨.int (g i j),H,I.tok _,⟨_,rfl⟩,q⟩
theorem EA{f:Value->Value->Sem Value}{g:Int->Int->Bool}
  (rule:∀(i j:Int) (t u:Tok) (s:Shared) (Q:Value->Shared->Prop) (E:Value->Shared->Prop),Q (.bool (g i j)) s->wpAny (model X.prog X.w) X.A (f (.int i t) (.int j u)) Q E s) :
  j3 X f (Gn fun i j=>.bl (g i j)):=by
 intro pins s σ H x y v u Q I rx ry h
 obtain⟨i,j,rfl,rfl,q⟩:=h
 obtain⟨t,rfl⟩:=rx
 obtain⟨t',rfl⟩:=ry
 exact rule i j t t' s _ _ ⟨.bl (g i j),H,I,rfl,q⟩
noncomputable def Jx(i j:Int):Prop:=0<j/\j<1073741824
noncomputable def Jy(i j:Int):Prop:=0<=j/\j<=1000000/\i.natAbs<2 ^ 64
noncomputable def EB(i j:Int):Prop:=(-(2 ^ 64)<i/\i<2 ^ 64)\/(-(2 ^ 64)<j/\j<2 ^ 64)
theorem EB.ok{i j:Int}(h:EB i j):IntMulOk i j:=by
 rcases h with⟨h1,h2⟩|⟨h1,h2⟩
 ·exact .of_left (intBits_le_64 h1 h2)
 ·exact .of_right (intBits_le_64 h1 h2)
theorem fL:j3 X (binaryOp .Add) (Gn fun i j=>.int (i+j)):=Jw fun _ _ _ _ _ _ _ q=>add_int q
theorem jG:j3 X (binaryOp .Sub) (Gn fun i j=>.int (i-j)):=Jw fun _ _ _ _ _ _ _ q=>sub_int q
theorem kh:j3 X (binaryOp .Mult) (rI EB fun i j=>.int (i*j)):=Ko fun _ _ _ _ _ _ _ hc q=>mul_int q hc.ok
theorem tR:j3 X (binaryOp .FloorDiv) (rI Jx fun i j=>.int (i / j)):=Ko fun i j _ _ _ _ _ hc q=>by
 have h1:(0:Int)<j:=hc.1
 have h2:j<1073741824:=hc.2
 exact floordiv_int (by omega) (by rw[Int.fdiv_eq_ediv_of_nonneg i (by omega)];exact q) (.inl (PyProof.noPylong_small (by omega)))
theorem ki:j3 X (binaryOp .Mod) (rI (fun _ j=>0<j) fun i j=>.int (i % j)):=Ko fun i j _ _ _ _ _ hc q=>by
 have h1:(0:Int)<j:=hc
 exact mod_int' (by omega) (by rw[Int.fmod_eq_emod_of_nonneg i (by omega)];exact q)
theorem HC:j3 X (binaryOp .Pow) (rI Jy fun i j=>.int (i ^ j.toNat)):=Ko fun _ _ _ _ _ _ _ hc q=>pow_int_small hc.1 hc.2.1 hc.2.2 q
theorem L0{f:Value->Sem Value}{g:Int->Int}
  (rule:∀(i:Int) (t:Tok) (s:Shared) (Q:Value->Shared->Prop) (E:Value->Shared->Prop),Q (.int (g i) s.toks) {s with toks:=s.toks+1}->wpAny (model X.prog X.w) X.A (f (.int i t)) Q E s) :
  KS X f (rU fun i=>.int (g i)):=by
 intro pins s σ H x v Q I rx h
 obtain⟨i,rfl,q⟩:=h
 obtain⟨t,rfl⟩:=rx
 exact rule i t s _ _ ⟨.int (g i),H,I.tok _,⟨_,rfl⟩,q⟩
theorem kj:KS X (unaryOp .USub) (rU fun i=>.int (-i)):=L0 fun _ _ _ _ _ q=>neg_int q
end
noncomputable def Jz:V->V->Bool
 |.ik,.ik=>true|.ik,.int _=>true|.int _,.ik=>true|.ik,.bl _=>true|.bl _,.ik=>true|.ik,.str _=>true|.str _,.ik=>true
 |.int _,.int _=>true|.bl _,.bl _=>true|.str _,.str _=>true|.byt _,.byt _=>true
 |.int _,.str _=>true|.str _,.int _=>true|.bl _,.str _=>true|.str _,.bl _=>true
 |_,_=>false
noncomputable def L1:R2:=fun x y H Q=>Jz x y=true/\Q (.bl (decide (x=y))) H
noncomputable def L3:R2:=fun x y H Q=>Jz x y=true/\Q (.bl (!decide (x=y))) H
theorem za{i j:Int}:decide (V.int i=V.int j)=(i == j):=by
 rw[Bool.eq_iff_iff]
 simp
theorem BZ{i j:Bool}:decide (V.bl i=V.bl j)=(i == j):=by
 rw[Bool.eq_iff_iff]
 simp
theorem zb{i j:Str}:decide (V.str i=V.str j)=(i == j):=by
 rw[Bool.eq_iff_iff]
 simp
theorem zf{i j:Array UInt8}:decide (V.byt i=V.byt j)=(i.toList == j.toList):=by
 rw[Bool.eq_iff_iff]
 cases i
 cases j
 simp
section
variable {X:Cx}{a b c:Expr}{ta tb tc:TE}{pos:Pos}
theorem bU{pins:List (Addr×Obj)}{σ:St}{H:Hp}{s:Shared}{Q:VK}{k k':Bool}(I:Inv X pins σ H s)(q:Q (.bl k) H)(e:k=k'):EP X pins σ Q (.bool k') s:=by
 subst e
 exact⟨.bl k,H,I,rfl,q⟩
theorem b9:j3 X (compareOp .Eq) L1:=by
 intro pins s σ H x y v u Q I rx ry h
 obtain⟨hs,q⟩:=h
 cases x with
 |ik =>
  cases rx
  cases y with
  |ik=>cases ry;exact PySem.EqNone.eq_none_none (bU I q (by simp))
  |bl j=>cases ry;exact PySem.EqNone.eq_none_bool (bU I q (by simp))
  |int j=>obtain⟨t',rfl⟩:=ry;exact PySem.EqNone.eq_none_int (bU I q (by simp))
  |str j=>obtain⟨t',rfl⟩:=ry;exact PySem.EqNone.eq_none_str (bU I q (by simp))
  |_=>exact absurd (show false=true from hs) Bool.false_ne_true
 |bl i =>
  cases rx
  cases y with
  |ik=>cases ry;exact PySem.EqNone.eq_bool_none (bU I q (by simp))
  |bl j=>cases ry;exact eq_bool (bU I q BZ)
  |str j=>obtain⟨t',rfl⟩:=ry;exact PySem.EqMixed.eq_bool_str (bU I q (by simp))
  |_=>exact absurd (show false=true from hs) Bool.false_ne_true
 |int i =>
  obtain⟨t,rfl⟩:=rx
  cases y with
  |ik=>cases ry;exact PySem.EqNone.eq_int_none (bU I q (by simp))
  |int j=>obtain⟨t',rfl⟩:=ry;exact eq_int (bU I q za)
  |str j=>obtain⟨t',rfl⟩:=ry;exact PySem.EqMixed.eq_int_str (bU I q (by simp))
  |_=>exact absurd (show false=true from hs) Bool.false_ne_true
 |str i =>
  obtain⟨t,rfl⟩:=rx
  cases y with
  |ik=>cases ry;exact PySem.EqNone.eq_str_none (bU I q (by simp))
  |bl j=>cases ry;exact PySem.EqMixed.eq_str_bool (bU I q (by simp))
  |int j=>obtain⟨t',rfl⟩:=ry;exact PySem.EqMixed.eq_str_int (bU I q (by simp))
  |str j=>obtain⟨t',rfl⟩:=ry;exact eq_str (bU I q zb)
  |_=>exact absurd (show false=true from hs) Bool.false_ne_true
 |byt i =>
  obtain⟨t,rfl⟩:=rx
  cases y with
  |byt j=>obtain⟨t',rfl⟩:=ry;exact PySem.W.eq_bytes (bU I q zf)
  |_=>exact absurd (show false=true from hs) Bool.false_ne_true
 |_=>cases y<;>exact absurd (show false=true from hs) Bool.false_ne_true
theorem ji:j3 X (compareOp .NotEq) L3:=by
 intro pins s σ H x y v u Q I rx ry h
 obtain⟨hs,q⟩:=h
 cases x with
 |ik =>
  cases rx
  cases y with
  |ik=>cases ry;exact PySem.EqNone.ne_none_none (bU I q (by simp))
  |bl j=>cases ry;exact PySem.EqNone.ne_none_bool (bU I q (by simp))
  |int j=>obtain⟨t',rfl⟩:=ry;exact PySem.EqNone.ne_none_int (bU I q (by simp))
  |str j=>obtain⟨t',rfl⟩:=ry;exact PySem.EqNone.ne_none_str (bU I q (by simp))
  |_=>exact absurd (show false=true from hs) Bool.false_ne_true
 |bl i =>
  cases rx
  cases y with
  |ik=>cases ry;exact PySem.EqNone.ne_bool_none (bU I q (by simp))
  |bl j=>cases ry;exact ne_bool (bU I q (congrArg not BZ))
  |str j=>obtain⟨t',rfl⟩:=ry;exact PySem.EqMixed.ne_bool_str (bU I q (by simp))
  |_=>exact absurd (show false=true from hs) Bool.false_ne_true
 |int i =>
  obtain⟨t,rfl⟩:=rx
  cases y with
  |ik=>cases ry;exact PySem.EqNone.ne_int_none (bU I q (by simp))
  |int j=>obtain⟨t',rfl⟩:=ry;exact ne_int (bU I q (congrArg not za))
  |str j=>obtain⟨t',rfl⟩:=ry;exact PySem.EqMixed.ne_int_str (bU I q (by simp))
  |_=>exact absurd (show false=true from hs) Bool.false_ne_true
 |str i =>
  obtain⟨t,rfl⟩:=rx
  cases y with
  |ik=>cases ry;exact PySem.EqNone.ne_str_none (bU I q (by simp))
  |bl j=>cases ry;exact PySem.EqMixed.ne_str_bool (bU I q (by simp))
  |int j=>obtain⟨t',rfl⟩:=ry;exact PySem.EqMixed.ne_str_int (bU I q (by simp))
  |str j=>obtain⟨t',rfl⟩:=ry;exact ne_str (bU I q (congrArg not zb))
  |_=>exact absurd (show false=true from hs) Bool.false_ne_true
 |byt i =>
  obtain⟨t,rfl⟩:=rx
  cases y with
  |byt j=>obtain⟨t',rfl⟩:=ry;exact PySem.W.ne_bytes (bU I q (congrArg not zf))
  |_=>exact absurd (show false=true from hs) Bool.false_ne_true
 |_=>cases y<;>exact absurd (show false=true from hs) Bool.false_ne_true
theorem ny:j3 X (compareOp .Lt) (Gn fun i j=>.bl (decide (i<j))):=EA fun _ _ _ _ _ _ _ q=>lt_int q
theorem zg:j3 X (compareOp .LtE) (Gn fun i j=>.bl (decide (i<=j))):=EA fun _ _ _ _ _ _ _ q=>le_int q
theorem sy:j3 X (compareOp .Gt) (Gn fun i j=>.bl (decide (j<i))):=EA fun _ _ _ _ _ _ _ q=>gt_int q
theorem JA:j3 X (compareOp .GtE) (Gn fun i j=>.bl (decide (j<=i))):=EA fun _ _ _ _ _ _ _ q=>ge_int q
theorem AL:j3 X (compareOp .In) (fun x y H Q=>∃i j,x=.str i/\y=.str j/\Q (.bl (!(Builtin.Str.occurrences j i 0 j.length 1).isEmpty)) H):=by
 intro pins s σ H x y v u Q I rx ry h
 obtain⟨i,j,rfl,rfl,q⟩:=h
 obtain⟨t,rfl⟩:=rx
 obtain⟨t',rfl⟩:=ry
 exact in_str (bU I q rfl)
theorem EC:j3 X (compareOp .IsNot) (fun x y H Q=>y=.ik/\Q (.bl (!decide (x=.ik))) H):=by
 intro pins s σ H x y v u Q I rx ry h
 obtain⟨rfl,q⟩:=h
 cases ry
 refine isnot_none_gen (bU I q ?_)
 cases x<;>first
  |(cases rx;rfl)
  |(obtain⟨t,rfl⟩:=rx;rfl)
theorem mG(b:Expr){op:CmpOp}(h:op≠.In:=by decide)(h2:op≠.NotIn:=by decide):behindInMarks op b=false:=by
 have e1:(op == CmpOp.In)=false:=by cases op<;>first|rfl|exact absurd rfl h
 have e2:(op == CmpOp.NotIn)=false:=by cases op<;>first|rfl|exact absurd rfl h2
 cases b<;>simp[behindInMarks,e1,e2]
theorem fM{op:CmpOp}{r:R2}(ho:j3 X (compareOp op) r)(ha:PE X a ta)(hb:PE X b tb)(hm:behindInMarks op b=false):PE X (.Compare a [op] [b] pos) (Kn r ta tb):=by
 intro pins s σ H Q I h
 exact wpAny_Compare1 (HB ha hb I h fun v u s2 x y H2 I2 rx ry q=>ho pins s2 σ H2 x y v u Q I2 rx ry q) hm
noncomputable def Gp(t:TE):TT:=fun σ H Q=>t σ H fun x H'=>∃k,x=.bl k/\Q k H'
theorem fN{op:CmpOp}{r:R2}(ho:j3 X (compareOp op) r)(ha:PE X a ta)(hb:PE X b tb)(hm:behindInMarks op b=false):PT X (.Compare a [op] [b] pos) (Gp (Kn r ta tb)):=by
 intro pins s σ H Q I h
 refine wpAny_isTrue_Compare1 (cF (ha pins s σ H _ I h) fun v s1 ⟨x,H1,I1,r1,q1⟩=>cF (hb pins s1 σ H1 _ I1 q1) fun u s2 ⟨y,H2,I2,r2,q2⟩ =>
  cF (ho pins s2 σ H2 x y v u _ I2 r1 r2 q2) fun c s3 ⟨z,H3,I3,r3,k,e,q3⟩=>?_) hm
 subst e
 cases r3
 exact wpAny_truthy_bool ⟨H3,I3,q3⟩
noncomputable def B0(r r':R2)(ta tb tc:TE):TE:=fun σ H Q=>ta σ H fun x H1=>tb σ H1 fun y H2=>r x y H2 fun z H3=>∃k,z=.bl k /\
 (if k=true then tc σ H3 fun w' H4=>r' y w' H4 Q else Q (.bl false) H3)
theorem Ca{op op':CmpOp}{r r':R2}(ho:j3 X (compareOp op) r)(ho':j3 X (compareOp op') r')(ha:PE X a ta)(hb:PE X b tb)(hc:PE X c tc)
  (hm:lastMarks [op,op'] [b,c]=false:=by with_unfolding_all rfl):PE X (.Compare a [op,op'] [b,c] pos) (B0 r r' ta tb tc):=by
 intro pins s σ H Q I h
 refine Compare_chain (cF (ha pins s σ H _ I h) fun v s1 ⟨x,H1,I1,r1,q1⟩=>chain_link (cF (hb pins s1 σ H1 _ I1 q1) fun u s2 ⟨y,H2,I2,r2,q2⟩ =>
  cF (ho pins s2 σ H2 x y v u _ I2 r1 r2 q2) fun d s3 ⟨z,H3,I3,r3,k,e,q3⟩=>?_)) hm
 subst e
 cases r3
 refine wpAny_truthy_bool ?_
 cases k with
 |false=>exact ite_ff ⟨.bl false,H3,I3,rfl,q3⟩
 |true=>exact ite_tt (chain_last (cF (hc pins s3 σ H3 _ I3 q3) fun w' s4 ⟨z',H4,I4,r4,q4⟩=>ho' pins s4 σ H4 y z' u w' Q I4 r2 r4 q4))
theorem Cb{op op':CmpOp}{r r':R2}(ho:j3 X (compareOp op) r)(ho':j3 X (compareOp op') r')(ha:PE X a ta)(hb:PE X b tb)(hc:PE X c tc)
  (hm:lastMarks [op,op'] [b,c]=false:=by with_unfolding_all rfl):PT X (.Compare a [op,op'] [b,c] pos) (Gp (B0 r r' ta tb tc)):=by
 intro pins s σ H Q I h
 refine isTrue_chain (cF (ha pins s σ H _ I h) fun v s1 ⟨x,H1,I1,r1,q1⟩=>test_link (cF (hb pins s1 σ H1 _ I1 q1) fun u s2 ⟨y,H2,I2,r2,q2⟩ =>
  cF (ho pins s2 σ H2 x y v u _ I2 r1 r2 q2) fun d s3 ⟨z,H3,I3,r3,k,e,q3⟩=>?_)) hm
 subst e
 cases r3
 refine wpAny_truthy_bool ?_
 cases k with
 |false =>
  obtain⟨k',e',q'⟩:=q3
  cases e'
  exact ite_ff ⟨H3,I3,q'⟩
 |true =>
  refine ite_tt (test_last (cF (hc pins s3 σ H3 _ I3 q3) fun w' s4 ⟨z',H4,I4,r4,q4⟩=>cF (ho' pins s4 σ H4 y z' u w' _ I4 r2 r4 q4) fun d' s5 ⟨z2,H5,I5,r5,k2,e2,q5⟩=>?_))
  subst e2
  cases r5
  exact wpAny_truthy_bool ⟨H5,I5,q5⟩
noncomputable def xS(K:PySem.W.Frag)(x:V)(H:Hp)(k:Bool):Prop :=
 match x with
 |.ik=>k=false
 |.bl b=>k=b
 |.int i=>k=(i != 0)
 |.str y=>y.length<=sizeLine/\k=((y.length:Int) != 0)
 |.byt y=>y.size<=sizeLine/\k=((y.size:Int) != 0)
 |.ref p=>(∃xs,bB K H p xs/\k=!xs.isEmpty)\/(∃xs,bf K H p xs/\k=!xs.isEmpty)\/∃kvs,H p=some (.dK kvs)/\k=!kvs.isEmpty
 |_=>False
theorem xT{κ:Type}{kvs:List (κ×V)}{vs:List (κ×Value)}(r:KV kvs vs):(!vs.isEmpty)=!kvs.isEmpty:=by
 cases r<;>rfl
theorem qu{xs:List V}{its:List Value}(r:Vals xs its):(!its.toArray.isEmpty)=!xs.isEmpty:=by
 cases r<;>simp
theorem mH:(sizeLine:Nat)<2 ^ 63:=by rw[sizeLine_eq];decide
theorem HD:KU X (fun x H Q=>∃k,xS X.K x H k/\Q k H):=by
 intro pins s σ H x v Q I rx h
 obtain⟨k,e,q⟩:=h
 have hl:=mH
 have hs:sizeLine=16777216:=sizeLine_eq
 cases x with
 |ik =>
  cases rx
  have e':k=false:=e
  subst e'
  exact truthy_none ⟨H,I,q⟩
 |bl b =>
  cases rx
  have e':k=b:=e
  subst e'
  exact wpAny_truthy_bool ⟨H,I,q⟩
 |int i =>
  obtain⟨t,rfl⟩:=rx
  have e':k=(i != 0):=e
  subst e'
  exact PySem.P.truthy_int ⟨H,I,q⟩
 |str y =>
  obtain⟨t,rfl⟩:=rx
  obtain⟨hy,e'⟩:y.length<=sizeLine/\k=((y.length:Int) != 0):=e
  subst e'
  exact PySem.P.truthy_str (by omega) ⟨H,I.tok _,q⟩
 |byt y =>
  obtain⟨t,rfl⟩:=rx
  obtain⟨hy,e'⟩:y.size<=sizeLine/\k=((y.size:Int) != 0):=e
  subst e'
  exact PySem.W.truthy_bytes (by omega) ⟨H,I.tok _,q⟩
 |ref p =>
  cases rx
  have e':(∃xs,bB X.K H p xs/\k=!xs.isEmpty)\/(∃xs,bf X.K H p xs/\k=!xs.isEmpty)\/∃kvs,H p=some (.dK kvs)/\k=!kvs.isEmpty:=e
  rcases e' with⟨xs,hx,e'⟩|⟨xs,hx,e'⟩|⟨kvs,hx,e'⟩
  ·subst e'
   obtain⟨its,r,pl,hz⟩:=I.list hx
   have hlen:=r.length
   exact wpAny_truthy_list pl.isList (by simp only[List.size_toArray];omega) ⟨H,I.tok _,by rw[qu r];exact q⟩
  ·subst e'
   obtain⟨its,r,pl,hz⟩:=I.tuple hx
   have hlen:=r.length
   exact truthy_tuple pl (by simp only[List.size_toArray];omega) ⟨H,I.tok _,by rw[qu r];exact q⟩
  ·subst e'
   obtain⟨hz,hS,vs,r,m⟩:kvs.length<=sizeLine/\(p == sysModules)=false/\∃vs,KV kvs vs/\s.heap.DictOf (dH X.prog X.w) p vs:=I.hok p _ hx
   have hlen:kvs.length=vs.length:=Paired.length r
   exact wpAny_truthy_dict hS m (by omega) ⟨H,I.tok _,by rw[xT r];exact q⟩
 |_=>exact(show False from e).elim
theorem eT(ha:PE X a ta)(he:∀whole,isTrue a X.env whole=(do let v ←whole;standAt a.pos;holding [v] (truthy v))) :
  PT X a (fun σ H Q=>ta σ H fun x H'=>∃k,xS X.K x H' k/\Q k H'):=by
 intro pins s σ H Q I h
 exact isTrue_plain (cF (ha pins s σ H _ I h) fun v s1 ⟨x,H1,I1,r1,q1⟩=>HD pins s1 σ H1 x v Q I1 r1 q1) (he _)
theorem bN:j3 X (binaryOp .Add) (fun x y H Q=>∃i j,x=.str i/\y=.str j/\i.length+j.length<=sizeLine/\Q (.str (i++j)) H):=by
 intro pins s σ H x y v u Q I rx ry h
 obtain⟨i,j,rfl,rfl,hz,q⟩:=h
 obtain⟨t,rfl⟩:=rx
 obtain⟨t',rfl⟩:=ry
 exact add_str (fun t' tk=>⟨.str (i++j),H,I.tok _,⟨_,rfl⟩,q⟩) hz
theorem vals1{x:V}{us:List Value}(r:Vals [x] us):∃u,us=[u]/\RelV x u:=by
 cases r with
 |cons r1 r2=>cases r2;exact⟨_,rfl,r1⟩
theorem vals2{x y:V}{us:List Value}(r:Vals [x,y] us):∃u w',us=[u,w']/\RelV x u/\RelV y w':=by
 cases r with
 |cons r1 r2 =>
  cases r2 with
  |cons r3 r4=>cases r4;exact⟨_,_,rfl,r1,r3⟩
theorem AM(hc:X.calm=true):gZ X (.builtin "max") (fun xs H Q=>∃i j,xs=[.int i,.int j]/\Q (.int (if j>i then j else i)) H):=by
 intro pins s σ H xs us Q I r h
 obtain⟨i,j,rfl,q⟩:=h
 obtain⟨u,w',rfl,⟨t,rfl⟩,⟨t',rfl⟩⟩:=vals2 r
 refine max_two_ints (I.ok.hd hc) fun h' tk k=>⟨_,H,I.kept k,?_,q⟩
 by_cases hj:j>i
 ·rw[if_pos hj,if_pos hj];exact⟨_,rfl⟩
 ·rw[if_neg hj,if_neg hj];exact⟨_,rfl⟩
theorem AN(hc:X.calm=true):gZ X (.builtin "min") (fun xs H Q=>∃i j,xs=[.int i,.int j]/\Q (.int (if j<i then j else i)) H):=by
 intro pins s σ H xs us Q I r h
 obtain⟨i,j,rfl,q⟩:=h
 obtain⟨u,w',rfl,⟨t,rfl⟩,⟨t',rfl⟩⟩:=vals2 r
 refine min_two_ints (I.ok.hd hc) fun h' tk k=>⟨_,H,I.kept k,?_,q⟩
 by_cases hj:j<i
 ·rw[if_pos hj,if_pos hj];exact⟨_,rfl⟩
 ·rw[if_neg hj,if_neg hj];exact⟨_,rfl⟩
theorem oJ:gZ X (.type "int") (fun xs H Q=>(∃i,xs=[.int i]/\Q (.int i) H)\/∃k,xs=[.bl k]/\Q (.int (if k then 1 else 0)) H):=by
 intro pins s σ H xs us Q I r h
 rcases h with⟨i,rfl,q⟩|⟨k,rfl,q⟩
 ·obtain⟨u,rfl,t,rfl⟩:=vals1 r
  exact call_int_int ⟨.int i,H,I,⟨_,rfl⟩,q⟩
 ·obtain⟨u,rfl,r1⟩:=vals1 r
  cases r1
  exact call_int_bool ⟨.int (if k then 1 else 0),H,I.tok _,⟨_,rfl⟩,q⟩
end
section
variable {prog:Program}{w:World}{A:Around}{E:Value->Shared->Prop}{s:Shared}{K:PySem.W.Frag}{x dx C f:Addr}{mA:Str->Option Value}{name:Str}{v:Value}
end
noncomputable def ED(f:Str)(v:V):List (Str×V)->List (Str×V)
 | []=>[(f,v)]
 |(g,x)::r=>if g=f then(g,v)::r else(g,x)::ED f v r
theorem mE.some_of{v:V}{o:Option Value}(r:mE (some v) o):∃u,o=some u/\RelV v u:=by
 cases o with
 |none=>exact(show False from r).elim
 |some u=>exact⟨u,rfl,r⟩
section
variable {P:Program}{w:World}{H H':Hp}{h h':Heap}{a C dx:Addr}{fs fs':List (Str×V)}
end
section
variable {X:Cx}{pins:List (Addr×Obj)}{σ:St}{H:Hp}{s:Shared}{a C dx:Addr}{fs:List (Str×V)}{f:Str}{v:V}{A:Around}{E:Value->Shared->Prop}
end
section
variable {X:Cx}{o e value:Expr}{f:Str}{pos pos' tpos:Pos}{ta tv:TE}
end
section
variable {X:Cx}{pins:List (Addr×Obj)}{σ:St}{H:Hp}{s:Shared}{A:Around}{E:Value->Shared->Prop}{Q:Value->Shared->Prop}{c:Value}{b:Bool}
end
structure ia(k:Nat) (A:Around):Prop where
 hd:A.handled=none
 dp:A.depth+3*k+5<recursionLimit
 un:A.units+16*k+200<cLine
 gd:A.guards=some []
theorem ia.mono{j k:Nat}{A:Around}(r:ia k A)(h:j<=k):ia j A:=⟨r.hd,by have:=r.dp;omega,by have:=r.un;omega,r.gd⟩
theorem ia.deeper{k:Nat}{A:Around}(r:ia (k+1) A)(env:Env):ia k (A.deeper env) :=
 ⟨r.hd,by have:=r.dp;show A.depth+1+3*k+5<_;omega,by have:=r.un;show A.units+3+16*k+200<_;omega,r.gd⟩
theorem ia.depth{k:Nat}{A:Around}(r:ia k A):A.depth<recursionLimit:=by have:=r.dp;omega
theorem ia.units{k:Nat}{A:Around}(r:ia k A):A.units+64<cLine:=by have:=r.un;omega
noncomputable def JB:TA:=fun _ H Q=>Q [] H
noncomputable def Gq(ta:TE)(tr:TA):TA:=fun σ H Q=>ta σ H fun x H1=>tr σ H1 fun xs H2=>Q (x::xs) H2
section
variable {X:Cx}{e:Expr}{es:List Expr}{te:TE}{t:TA}{pos:Pos}
theorem aj:PA X [] JB:=fun _ _ _ _ H Q I h=>Calls.spliced_nil ⟨[],H,I,.nil,h⟩
theorem cf(ha:PE X e te)(hr:PA X es t)(hs:starEach (e::es) X.env=(false,eval e X.env)::starEach es X.env:=by rfl):PA X (e::es) (Gq te t):=by
 intro pos pins s σ H Q I h
 rw[hs]
 show wpAny _ _ (spliced ((false,eval e X.env)::backTo pos (starEach es X.env))) _ _ s
 refine Calls.spliced_cons (cF (ha pins s σ H _ I h) fun u s1 ⟨x,H1,I1,r1,q1⟩=>?_)
 exact cF (hr pos pins s1 σ H1 _ I1 q1) fun us s2 ⟨xs,H2,I2,r2,q2⟩=>⟨x::xs,H2,I2,.cons r1 r2,q2⟩
noncomputable def KW(t:TA):TE:=fun σ H Q=>t σ H fun xs H1=>xs.length<=sizeLine/\∀p,H1 p=none->Q (.ref p) (upd H1 p (.tup xs))
noncomputable def KY(t:TA):TE:=fun σ H Q=>t σ H fun xs H1=>xs.length<=sizeLine/\∀p,H1 p=none->Q (.ref p) (upd H1 p (.lst xs))
theorem qv{x1}(h:PA X es t):PE X (.Tuple es x1 pos) (KW t):=by
 intro pins s σ H Q I hq
 refine wpAny_Tuple_spliced (cF (h pos pins s σ H _ I hq) fun us s1 ⟨xs,H1,I1,r,z,q⟩=>⟨by rw[←r.length];exact z,?_⟩)
 have hf:H1 s1.heap.objs.size=none:=I1.hok.fresh (Nat.le_refl _)
 refine⟨.ref s1.heap.objs.size,upd H1 s1.heap.objs.size (.tup xs),I1.laid (t':=s1.toks) (fun b u e=>Heap.get?_push_of_some _ e) (Nat.le_refl _) ?_,rfl,q _ hf⟩
 exact⟨z,us,r,⟨_,Heap.get?_push_size _ rfl,rfl,_,rfl⟩,_,Heap.get?_push_size _ rfl,rfl⟩
theorem bq(h:PA X es t):PE X (.List es pos) (KY t):=by
 intro pins s σ H Q I hq
 refine wpAny_List_spliced (cF (h pos pins s σ H _ I hq) fun us s1 ⟨xs,H1,I1,r,z,q⟩=>⟨by rw[←r.length];exact z,?_⟩)
 have hf:H1 s1.heap.objs.size=none:=I1.hok.fresh (Nat.le_refl _)
 refine⟨.ref s1.heap.objs.size,upd H1 s1.heap.objs.size (.lst xs),I1.laid (t':=s1.toks) (fun b u e=>Heap.get?_push_of_some _ e) (Nat.le_refl _) ?_,rfl,q _ hf⟩
 exact⟨z,us,0,r,Heap.get?_push_size _ rfl⟩
end
noncomputable abbrev Sp:=List V->Hp->VK->XK->Prop
noncomputable abbrev zh:=List Env->Hp->Shared->XK->Value->Shared->Prop
structure EE(P:Program) (w:World) (K:PySem.W.Frag) (mg:Str->Option Value) (base:Heap) (A:Around) (outer:List Env) (s:Shared) (H:Hp):Prop where
 frames:A.frames=some outer
 mod:Mod K mg base
 bs:∀b o,base.get? b=some o->s.heap.get? b=some o/\H b=none
 bsz:base.objs.size<=s.heap.objs.size
 qj:s.heap.FunFrames base outer
 frf:∀b∈frs outer,H b=none
 hok:ng P w H s.heap
 bare:AllBare s.gens
noncomputable def CE(outer:List Env)(P:Program)(w:World)(H:Hp)(s:Shared)(Q:VK)(u:Value)(s':Shared):Prop :=
 ∃v H',s'.os=s.os/\AllBare s'.gens/\Un (frs outer) [] H H' s.heap s'.heap/\ng P w H' s'.heap/\RelV v u/\Q v H'
noncomputable def CR(CX:zh)(outer:List Env)(P:Program)(w:World)(H:Hp)(s:Shared)(Q:VK)(E:XK)(r:Result)(s':Shared):Prop :=
 match r with
 |.ok (.ret u)=>CE outer P w H s Q u s'
 |.ok _=>False
 |.error e=>CX outer H s E e s'
structure bK(P:Program) (w:World) (K:PySem.W.Frag) (mg:Str->Option Value) (base:Heap) (CX:zh) (k:Nat) (f:Addr) (fd:FuncData) (ps:List Str) (sp:Sp):Prop where
 len:∀vs H Q E,sp vs H Q E->vs.length=ps.length
 run:∀(A:Around) (outer:List Env) (s:Shared) (H:Hp) (args:Args) (us:List Value) (vs:List V) (Q:VK) (E:XK),ia k A->EE P w K mg base A outer s H->BindsTo s fd args (ps.zip us)->Vals vs us->sp vs H Q E ->
  codeAny (model P w) A (.call (.ref f) args) (CR CX outer P w H s Q E) s
theorem bK.mono{P:Program}{w:World}{K:PySem.W.Frag}{mg:Str->Option Value}{base:Heap}{CX:zh}{j k:Nat}{f:Addr}{fd:FuncData}{ps:List Str}{sp:Sp}(F:bK P w K mg base CX j f fd ps sp)(h:j<=k) :
  bK P w K mg base CX k f fd ps sp:=⟨F.len,fun A outer s H args us vs Q E hr=>F.run A outer s H args us vs Q E (hr.mono h)⟩
section
variable {X:Cx}{pins:List (Addr×Obj)}{σ:St}{H:Hp}{s s':Shared}
theorem Inv.KZ(I:Inv X pins σ H s):EE X.prog X.w X.K X.mg X.base X.A X.stack s H :=
 ⟨I.ok.frames,I.ok.mod,I.bs,Nat.le_trans I.ok.bsz I.sz,I.stack,I.yX,I.hok,I.bare⟩
theorem Inv.after{Q:VK}{u:Value}(I:Inv X pins σ H s)(h:CE X.stack X.prog X.w H s Q u s'):EP X pins σ Q u s':=by
 obtain⟨v,H',os,bare,un,hok,r,q⟩:=h
 obtain⟨hh,g,d,t,os'⟩:=s'
 obtain rfl:os'=s.os:=os
 exact⟨v,H',I.call (h':=hh) (g':=g) (d':=d) (t':=t) (ch:=[]) un hok bare (fun b z=>absurd z (by simp)),r,q⟩
end
noncomputable def Gr(sp:Sp)(dvs:List V)(E:XK)(t:TA):TE:=fun σ H Q=>t σ H fun vs H1=>sp (vs++dvs) H1 Q E
noncomputable def Binds(K:PySem.W.Frag)(fd:FuncData)(ps:List Str)(ds:List Value):Prop :=
 ∀(s:Shared) (us:List Value),K.In s.heap->(us++ds).length=ps.length->BindsTo s fd ⟨us,[]⟩ (ps.zip (us++ds))
theorem Binds.all{K:PySem.W.Frag}{fd:FuncData}{ps:List Str}(h:∀us:List Value,us.length=ps.length->bindArgs fd ⟨us,[]⟩=pure (ps.zip us)):Binds K fd ps []:=fun s us _ hl=>by
 rw[List.append_nil]at hl⊢
 exact .of_eq (h us hl)
noncomputable def Passes(CX:zh)(X:Cx)(E:XK):Prop:=∀(pins:List (Addr×Obj)) (σ:St) (H:Hp) (s:Shared) (e:Value) (s':Shared),Inv X pins σ H s->CX X.stack H s E e s'->X.xe e s'
section
variable {X:Cx}{CX:zh}{k:Nat}{f C:Addr}{fd:FuncData}{ps:List Str}{sp:Sp}{dvs:List V}{ds:List Value}{E:XK}{x m:Str}{p pos apos:Pos}{e o:Expr}{es:List Expr}{ta:TE}{t:TA}
theorem xU{pins:List (Addr×Obj)}{σ:St}{H:Hp}{s:Shared}{Q:VK}{us:List Value}{vs:List V}(F:bK X.prog X.w X.K X.mg X.base CX k f fd ps sp)(hr:ia k X.A)(hb:Binds X.K fd ps ds)(hd:Vals dvs ds)(hx:Passes CX X E)
  (I:Inv X pins σ H s) (r:Vals vs us) (h:sp (vs++dvs) H Q E):wpAny (model X.prog X.w) X.A (call (.ref f) us) (EP X pins σ Q) X.xe s:=by
 have r2:Vals (vs++dvs) (us++ds):=r.append hd
 have hl:(us++ds).length=ps.length:=by rw[←r2.length];exact F.len _ _ _ _ h
 refine wpAny_call (codeAny_mono (F.run X.A X.stack s H ⟨us,[]⟩ (us++ds) (vs++dvs) Q E hr I.KZ (hb s us I.Em hl) r2 h) fun r s' hq=>?_)
 cases r with
 |error e=>exact hx pins σ H s e s' I hq
 |ok fl =>
  cases fl with
  |ret u=>exact I.after hq
  |next=>exact False.elim hq
  |brk=>exact False.elim hq
  |cont=>exact False.elim hq
theorem nA(F:bK X.prog X.w X.K X.mg X.base CX k f fd ps sp)(hr:ia k X.A)(hg:Gl X x)(hm:X.mg x=some (.ref f))(hk:PySem.W.keepIn X.K (.ref f)=true)(hb:Binds X.K fd ps ds)(hd:Vals dvs ds)(hx:Passes CX X E)
  (ha:PA X (e::es) t) (hdb:(x == ("__debug__":Str))=false:=by decide) (he:starEach (e::es) X.env=(false,eval e X.env)::starEach es X.env:=by rfl) (hpl:(backTo pos (starEach es X.env)).any (·.1)=false:=by rfl) :
  PE X (.Call (.Name x p) (e::es) [] pos) (Gr sp dvs E t):=by
 intro pins s σ H Q I h
 refine wpAny_Call_Name_kw (tO I hg hm ?_ hdb)
 refine PySem.W.callWith_K (h₀:=X.base) I.ok.mod.kin hk (cF (ha pos pins s σ H _ I h) fun us s1 ⟨vs,H1,I1,r,q⟩=>⟨I1.Em,?_⟩) he hpl
 exact xU F hr hb hd hx I1 r q
theorem Cc(F:bK X.prog X.w X.K X.mg X.base CX k f fd ps sp)(hr:ia k X.A)(hg:Gl X x)(hm:X.mg x=some (.ref f))(hk:PySem.W.keepIn X.K (.ref f)=true)(hb:Binds X.K fd ps ds)(hd:Vals dvs ds)(hx:Passes CX X E)
  (hdb:(x == ("__debug__":Str))=false:=by decide):PE X (.Call (.Name x p) [] [] pos) (Gr sp dvs E JB):=by
 intro pins s σ H Q I h
 refine wpAny_Call_Name_kw (tO I hg hm ?_ hdb)
 exact PySem.W.callWith_K0 I.Em hk (xU (us:=[]) F hr hb hd hx I .nil h)
end
section
variable {X:Cx}{CX:zh}{k:Nat}{f C:Addr}{fd:FuncData}{ps ks:List Str}{sp:Sp}{E:XK}{x m:Str}{p pos apos kpos:Pos}{e o:Expr}{es:List Expr}{kws:List Keyword}{te ta:TE}{t tk:TA}{nm:Option Str}
variable {g:List Value->List Value->List Value}{gV:List V->List V->List V}
end
structure aH(N P:List Str) (sc:Scope):Prop where
 kind:sc.kind=.function
 co:sc.isCoroutine=false
 gen:sc.isGenerator=false
 nd:N.Nodup
 pre:N.take P.length=P
 par:∀x∈P,sc.names.lookup x=some .local\/sc.names.lookup x=some .cell
 nofree:∀y∈sc.names,y.2≠.free
theorem sA{kindOf:Str->Option NameKind}{x:Str}:∀{binds:List (Str×Value)}{m:Str->Option Value},(∀v,(x,v)∉binds)->bindL kindOf binds m x=m x
 | [],_,_=>rfl
 |(n,v)::r,m,h=>by
  unfold bindL
  rw[sA fun w hw=>h w (List.mem_cons_of_mem _ hw)]
  split
  ·have:x≠n:=by rintro rfl;exact h v List.mem_cons_self
   simp[this]
  ·rfl
theorem sD{kindOf:Str->Option NameKind}{x:Str}:∀{binds:List (Str×Value)}{m:Str->Option Value},(∀v,(x,v)∉binds)->bindC kindOf binds m x=m x
 | [],_,_=>rfl
 |(n,v)::r,m,h=>by
  unfold bindC
  rw[sD fun w hw=>h w (List.mem_cons_of_mem _ hw)]
  split
  ·rfl
  ·have:x≠n:=by rintro rfl;exact h v List.mem_cons_self
   simp[this]
theorem sE{kindOf:Str->Option NameKind}{x:Str}{v:Value}:∀{P:List Str}{vs:List Value}{i:Nat}{m:Str->Option Value},P.Nodup->P[i]?=some x->vs[i]?=some v->kindOf x=some .local ->
  bindL kindOf (P.zip vs) m x=some v
 | [],_,_,_,_,h,_,_=>by simp at h
 |_::_,[],_,_,_,_,h,_=>by simp at h
 |p::P,w::vs,0,m,nd,h1,h2,hk=>by
  simp at h1 h2;subst h1;subst h2
  show bindL kindOf ((p,w)::P.zip vs) m p=_
  unfold bindL
  rw[sA fun v hv=>(List.nodup_cons.mp nd).1 (List.of_mem_zip hv).1,if_pos hk]
  simp
 |p::P,w::vs,i+1,m,nd,h1,h2,hk=>by
  show bindL kindOf ((p,w)::P.zip vs) m x=_
  unfold bindL
  exact sE (i:=i) (List.nodup_cons.mp nd).2 (by simpa using h1) (by simpa using h2) hk
theorem sG{kindOf:Str->Option NameKind}{x:Str}{v:Value}:∀{P:List Str}{vs:List Value}{i:Nat}{m:Str->Option Value},P.Nodup->P[i]?=some x->vs[i]?=some v->kindOf x≠some .local ->
  bindC kindOf (P.zip vs) m x=some v
 | [],_,_,_,_,h,_,_=>by simp at h
 |_::_,[],_,_,_,_,h,_=>by simp at h
 |p::P,w::vs,0,m,nd,h1,h2,hk=>by
  simp at h1 h2;subst h1;subst h2
  show bindC kindOf ((p,w)::P.zip vs) m p=_
  unfold bindC
  rw[sD fun v hv=>(List.nodup_cons.mp nd).1 (List.of_mem_zip hv).1,if_neg hk]
  simp
 |p::P,w::vs,i+1,m,nd,h1,h2,hk=>by
  show bindC kindOf ((p,w)::P.zip vs) m x=_
  unfold bindC
  exact sG (i:=i) (List.nodup_cons.mp nd).2 (by simpa using h1) (by simpa using h2) hk
noncomputable def start(N:List Str)(vs:List V):St:=vs.map some++List.replicate (N.length-vs.length) none
noncomputable def rP(CX:zh)(P:Program)(w:World)(K:PySem.W.Frag)(mg:Str->Option Value)(base:Heap)(N:List Str)(qual:Str)(scope:Scope)(f:Addr)(cd:Value)(A:Around)(outer:List Env)(s:Shared)(H:Hp)(E:XK):Cx where
 prog:=P
 w:=w
 K:=K
 mg:=mg
 base:=base
 A:=A.deeper (envOfC qual scope s.heap.objs.size f cd)
 N:=N
 s₀:=s
 H₀:=H
 env:=envOfC qual scope s.heap.objs.size f cd
 outer:=outer
 stack:=envOfC qual scope s.heap.objs.size f cd::outer
 ex:=[]
 calm:=true
 fn:=fun _=>true
 pn:=[]
 xe:=fun e s'=>wpAny (model P w) (A.deeper (envOfC qual scope s.heap.objs.size f cd)) (leaving (envOfC qual scope s.heap.objs.size f cd) e) (fun _ s''=>CX outer H s E e s'') (fun e' s''=>CX outer H s E e' s'') s'
theorem vD{sc:Scope}{n:Nat}{x:Str}(h:sc.names.lookup x=some .cell):∃c,(cellsFrom n sc.names []).lookup x=some c:=by
 have q:=PySem.W.cellsFrom_some sc.names n [] (.inl h)
 exact Option.isSome_iff_exists.mp q
theorem AQ{CX:zh}{P:Program}{w:World}{K:PySem.W.Frag}{mg:Str->Option Value}{base:Heap}{N ps:List Str}{qual:Str}{scope:Scope}{f:Addr}{cd:Value}{A:Around}{outer:List Env}{s s1:Shared}{H:Hp}{E:XK}{us:List Value}{vs:List V}
  (S:aH N ps scope) (hd:A.handled=none) (e0:EE P w K mg base A outer s H) (hl:vs.length=ps.length) (r:Vals vs us)
  (x:InCallC s s.heap.objs.size (bindL (envOfC qual scope s.heap.objs.size f cd).kindOf (ps.zip us) fun _=>none) (cellsFrom (s.heap.objs.size+1) scope.names []) (bindC (envOfC qual scope s.heap.objs.size f cd).kindOf (ps.zip us) fun _=>none) s1) :
  Inv (rP CX P w K mg base N qual scope f cd A outer s H E) [] (start N vs) H s1:=by
 have hpl:ps.length<=N.length:=by have:=congrArg List.length S.pre;rw[List.length_take]at this;omega
 obtain⟨h1,tk,rfl,hk⟩:=x.done
 have noA:∀b:Addr,b∉(rP CX P w K mg base N qual scope f cd A outer s H E).ex:=fun b z=>absurd (show b∈([]:List Addr)from z) (by simp)
 refine⟨⟨e0.mod,S.kind,rfl,rfl,Nat.le_refl _,fun y z c h1 h2=>?_,fun y hy=>?_,fun y c _ h=>?_,fun _=>hd,Around.frames_deeper e0.frames,.inr ⟨rfl,rfl⟩,fun b z=>absurd z (noA b),e0.bs,e0.bsz,fun b _ _=>noA b,fun b z=>absurd z (noA b),e0.qj,e0.frf⟩,
  rfl,e0.bare,Un.kept hk,⟨_,x.toInCall.ns,fun i y v h1 h2 h3=>?_⟩,fun y c h=>⟨_,x.cell y c h⟩,e0.hok.fresh (Nat.le_refl _),fun y c h=>?_,fun p hp=>absurd (show p∈([]:List (Addr×Obj))from hp) (by simp),e0.hok.kept hk,?_⟩
 ·exact name_of_addr x.apart (PySem.mem_of_lookup h1) (PySem.mem_of_lookup h2)
 ·have hy:scope.names.lookup y=some .cell\/scope.names.lookup y=some .free:=hy
  rcases hy with hy|hy
  ·exact vD hy
  ·exact absurd rfl (S.nofree _ (PySem.mem_of_lookup hy))
 ·exact Nat.le_of_lt (x.above y c (PySem.mem_of_lookup h))
 ·have hi:i<vs.length:=by
   unfold start at h2
   by_cases hi:i<vs.length
   ·exact hi
   ·rw[List.getElem?_append_right (by simpa using hi)]at h2
    rw[List.getElem?_replicate]at h2
    split at h2<;>cases h2
  have ha:vs[i]?=some v:=by
   unfold start at h2
   rw[List.getElem?_append_left (by simpa using hi),List.getElem?_map]at h2
   cases e:vs[i]? with
   |none=>rw[e]at h2;cases h2
   |some a=>rw[e]at h2;cases h2;rfl
  obtain⟨u,hu,rv⟩:=r.get ha
  have hp:ps[i]?=some y:=by
   rw[←S.pre,List.getElem?_take_of_lt (by omega)];exact h1
  have ndP:ps.Nodup:=by rw[←S.pre];exact S.nd.sublist (List.take_sublist _ _)
  refine⟨u,rv,?_⟩
  rcases S.par y (List.mem_of_getElem? hp)with k|k
  ·exact .inl ⟨k,sE ndP hp hu k⟩
  ·obtain⟨c,e⟩:=vD (n:=s.heap.objs.size+1) k
   refine .inr ⟨.inl k,c,e,?_⟩
   have q:=x.cell y c e
   rw[sG ndP hp hu (by show scope.names.lookup y≠_;rw[k];decide)]at q
   exact q
 ·exact e0.hok.fresh (Nat.le_of_lt (x.above y c (PySem.mem_of_lookup h)))
 ·unfold start
  show _=N.length
  rw[List.length_append,List.length_map,List.length_replicate]
  omega
theorem JC{CX:zh}{P:Program}{w:World}{K:PySem.W.Frag}{mg:Str->Option Value}{base:Heap}{k:Nat}{f:Addr}{name qual:Str}{params:Arguments}{body:List Stmt}{scope:Scope}{dV kV doc pm cdv ct oc:Value}{an od:Option Addr}
  {osl:Array (Option Value)}{N ps:List Str}{sp:Sp}(lk:K.lookup f=some ⟨oc,od,.func (PySem.W.fnOf name qual params body scope dV kV doc pm an cdv ct),osl⟩) (hcd:PySem.W.codeIn K cdv qual=true) (S:aH N ps scope)
  (len:∀vs H Q E,sp vs H Q E->vs.length=ps.length)
  (hbody:∀(A:Around) (outer:List Env) (s:Shared) (H:Hp) (vs:List V) (Q:VK) (E:XK),ia k (A.deeper (envOfC qual scope s.heap.objs.size f cdv))->sp vs H Q E ->
   ∃t,vt (rP CX P w K mg base N qual scope f cdv A outer s H E) body t/\t {nx:=fun _ H'=>Q .ik H',rt:=Q} (start N vs) H) :
  bK P w K mg base CX (k+1) f (PySem.W.fnOf name qual params body scope dV kV doc pm an cdv ct) ps sp:=by
 refine⟨len,fun A outer s H args us vs Q E hr e0 hb r hsp=>?_⟩
 have hl:=len _ _ _ _ hsp
 have KX:K.In s.heap:=e0.mod.kin.keeps fun b o e=>(e0.bs b o e).1
 have lim:s.heap.NoLimit:=e0.mod.nolimit.keeps fun b o e=>(e0.bs b o e).1
 have hkind:∀y∈ps.zip us,scope.names.lookup y.1=some .local\/(scope.names.lookup y.1=some .cell/\((cellsFrom (s.heap.objs.size+1) scope.names []).lookup y.1).isSome=true):=fun⟨n,v⟩ hy=>by
  rcases S.par n (List.of_mem_zip hy).1 with q|q
  ·exact .inl q
  ·exact .inr ⟨q,PySem.W.cellsFrom_some _ _ _ (.inl q)⟩
 refine codeAny_call_function hr.depth (KX _ _ lk) rfl S.co S.gen rfl (PySem.W.codeRec_of KX hcd) (hb _ _ _ _ ?_)
 refine wpAny_newFunctionEnv_cells S.kind hkind fun env he s1 x=>?_
 subst he
 refine⟨lim.keeps x.toInCall.keep,codeAny_func ?_⟩
 obtain⟨t,ht,hq⟩:=hbody A outer s H vs Q E (hr.deeper _) hsp
 have I:Inv (rP CX P w K mg base N qual scope f cdv A outer s H E) [] (start N vs) H s1:=AQ S hr.hd e0 hl r x
 refine wpAny_mono (ht [] s1 (start N vs) H _ I hq) (fun fl s' hs=>?_) fun e s' hs=>hs
 have fin:∀{σ':St}{H':Hp}{v:V}{u:Value},Inv (rP CX P w K mg base N qual scope f cdv A outer s H E) [] σ' H' s'->RelV v u->Q v H'->CE outer P w H s Q u s' :=
  fun{σ' H' v u} J rv q=>⟨v,H',J.os,J.bare,J.base,J.hok,rv,q⟩
 cases fl with
 |ret u =>
  obtain⟨v,σ',H',J,rv,q⟩:=hs
  exact fin J rv q
 |next =>
  obtain⟨σ',H',J,q⟩:=hs
  exact fin (v:=V.ik) (u:=Value.none) J rfl q
 |brk =>
  obtain⟨_,_,_,q⟩:=hs
  exact False.elim q
 |cont =>
  obtain⟨_,_,_,q⟩:=hs
  exact False.elim q
section
variable {X:Cx}{x:Str}{p pos:Pos}{e:Expr}{es:List Expr}{t:TA}{id T:String}{r:List V->Hp->VK->Prop}
noncomputable def LC(r:List V->Hp->VK->Prop)(t:TA):TE:=fun σ H Q=>t σ H fun vs H1=>r vs H1 Q
theorem nB(hc:gZ X (.builtin id) r)(hg:Gl X x)(hm:X.mg x=none)(hv:bootBuiltins x=some (.builtin id))(ha:PA X (e::es) t)(hn:x≠"__name__":=by decide)(hdb:(x == ("__debug__":Str))=false:=by decide)
  (he:starEach (e::es) X.env=(false,eval e X.env)::starEach es X.env:=by rfl) (hpl:(backTo pos (starEach es X.env)).any (·.1)=false:=by rfl):PE X (.Call (.Name x p) (e::es) [] pos) (LC r t):=by
 intro pins s σ H Q I h
 refine wpAny_Call_Name_kw (oB I hg hm hv ?_ hn hdb)
 exact PyProof.Rows.callWith_builtin1 (cF (ha pos pins s σ H _ I h) fun us s1 ⟨vs,H1,I1,r1,q1⟩=>hc pins s1 σ H1 vs us Q I1 r1 q1) he hpl
theorem AR(hc:gZ X (.type T) r)(hg:Gl X x)(hm:X.mg x=none)(hv:bootBuiltins x=some (.type T))(ha:PA X (e::es) t)(hn:x≠"__name__":=by decide)(hdb:(x == ("__debug__":Str))=false:=by decide)
  (he:starEach (e::es) X.env=(false,eval e X.env)::starEach es X.env:=by rfl) (hpl:(backTo pos (starEach es X.env)).any (·.1)=false:=by rfl):PE X (.Call (.Name x p) (e::es) [] pos) (LC r t):=by
 intro pins s σ H Q I h
 refine wpAny_Call_Name_kw (oB I hg hm hv ?_ hn hdb)
 exact PyProof.Rows.callWith_type1 (cF (ha pos pins s σ H _ I h) fun us s1 ⟨vs,H1,I1,r1,q1⟩=>hc pins s1 σ H1 vs us Q I1 r1 q1) he hpl
end
end L2
namespace HT
open PySem PyProof.Rows
section
open PySem.SeqAt
open PySem.AutoSeq1 (wpAny_loadPart')
open PySem.MeetsSeq PySem.MeetsSeq2 PySem.MeetsSeq3
end
section
variable {prog:Program}{w:World}{A:Around}{E:Value->Shared->Prop}{s:Shared}
theorem EF{t b:Addr}{vs ws:List Value}{Q:Value->Shared->Prop}(ht:IsTup s.heap t vs.toArray)(hb:IsTup s.heap b ws.toArray)(hv:vs≠[])
  (h1:ws=[]->Q (.ref t) s) (h2:ws≠[]->Q (.ref s.heap.objs.size) {s with heap:=s.heap.push {cls:=.type "tuple",data:=.seq (vs++ws).toArray}})
  (hsz:vs.length+ws.length<=sizeLine):wpAny (model prog w) A (binaryOp .Add (.ref t) (.ref b)) Q E s:=by
 obtain⟨⟨cls,dd,data,sl⟩,ho,hc,n,hd⟩:=id ht
 obtain⟨⟨cls2,dd2,data2,sl2⟩,ho2,hc2,n2,hd2⟩:=id hb
 simp only at hc hd hc2 hd2
 subst hc hd hc2 hd2
 have e:vs.toArray++ws.toArray=(vs++ws).toArray:=by simp
 by_cases hw:ws=[]
 ·exact concat_meets ⟨_,ho,rfl⟩ ⟨_,ho2,rfl⟩ noFill_tuple_add seq_tuple_add PySem.F.slot_tuple_add PySem.F.entry_tuple_add (PySem.F.args_tuple_add_2 _ _)
   (tuple_addW1 t b vs.toArray ws.toArray n n2 dd dd2 sl sl2 (by simpa using hv) (by simp[hw])) ⟨ho,ho2,h1 hw⟩
 ·refine concat_meets ⟨_,ho,rfl⟩ ⟨_,ho2,rfl⟩ noFill_tuple_add seq_tuple_add PySem.F.slot_tuple_add PySem.F.entry_tuple_add (PySem.F.args_tuple_add_2 _ _)
   (tuple_addW2 t b vs.toArray ws.toArray n n2 dd dd2 sl sl2 (by simpa using hv) (by simpa using hw) (by rw[List.size_toArray,List.size_toArray];exact hsz)) ⟨ho,ho2,?_⟩
  rw[e]
  exact h2 hw
noncomputable def f6(n d:Nat):Option Int->Nat
 |none=>d
 |some v=>if v<0 then(v+(n:Int)).toNat else min v.toNat n
theorem Cd(n d:Nat):f6 n d none=d:=rfl
theorem zk(n d k:Nat):f6 n d (some (k:Int))=min k n:=by
 show(if(k:Int)<0 then((k:Int)+(n:Int)).toNat else min (k:Int).toNat n)=min k n
 rw[if_neg (by omega),Int.toNat_natCast]
theorem HE(n d:Nat)(hd:d<=n)(o:Option Int):f6 n d o<=n:=by
 cases o with
 |none=>exact hd
 |some v =>
  show(if v<0 then(v+(n:Int)).toNat else min v.toNat n)<=n
  by_cases hv:v<0
  ·rw[if_pos hv];omega
  ·rw[if_neg hv];exact Nat.min_le_right _ _
theorem zm(v:Int)(n d:Nat):(if v<0 then max (v+(n:Int)) 0 else min v (n:Int))=((f6 n d (some v):Nat):Int):=by
 show(if v<0 then max (v+(n:Int)) 0 else min v (n:Int))=(((if v<0 then(v+(n:Int)).toNat else min v.toNat n):Nat):Int)
 by_cases hv:v<0
 ·simp only[if_pos hv];omega
 ·simp only[if_neg hv];omega
theorem xV(lo hi:Option Int)(n:Nat):Builtin.Slice.sliceAdjust lo hi 1 (n:Int)=(((f6 n 0 lo:Nat):Int),((f6 n n hi:Nat):Int)):=by
 have h1:¬((1:Int)<0):=by omega
 unfold Builtin.Slice.sliceAdjust
 simp only[h1,if_false]
 refine Prod.ext ?_ ?_
 ·cases lo with
  |none=>rfl
  |some v=>exact zm v n 0
 ·cases hi with
  |none=>rfl
  |some v=>exact zm v n n
theorem xW(i j:Nat):Builtin.Slice.slicePlaces (i:Int) (j:Int) 1=j-i:=by
 unfold Builtin.Slice.slicePlaces
 have h1:(1:Int)>0:=by omega
 simp only[h1,if_true,Int.ediv_one]
 split<;>omega
theorem qw{v:Value}{o:Option Int}{Q:Option Int->Shared->Prop}(p:IsPart v o)(h:Q o s):wpAny (model prog w) A (Builtin.Slice.slicePartIndex v) Q E s:=by
 cases p with
 |none=>exact slicePart_none h
 |int i t=>exact slicePart_int h
theorem oK{sl:Addr}{vl vu:Value}{lo hi:Option Int}{n:Nat}{Q:Int×Int×Nat->Shared->Prop}(hs:s.heap.IsSliceOf sl vl vu .none)(pl:IsPart vl lo)(pu:IsPart vu hi)
  (h:Q (((f6 n 0 lo:Nat):Int),1,f6 n n hi-f6 n 0 lo) s):wpAny (model prog w) A (Builtin.Slice.sliceApplied (.ref sl) (pure (n:Int))) Q E s:=by
 obtain⟨os,hos,hcs,hds⟩:=id hs
 unfold Builtin.Slice.sliceApplied Builtin.Slice.sliceFields
 refine wpAny_bind (wpAny_bind (wpAny_field hos hds (x:=vl) rfl (wpAny_bind (wpAny_field hos hds (x:=vu) rfl (wpAny_bind (wpAny_field hos hds (x:=.none) rfl (wpAny_pure ?_)))))))
 refine wpAny_bind (slicePart_none ?_)
 show wpAny _ _ (if((1:Int) == 0)=true then _ else _) _ _ s
 rw[if_neg (by decide)]
 refine wpAny_bind (qw pl (wpAny_bind (qw pu (wpAny_bind (wpAny_pure ?_)))))
 show wpAny _ _ (match Builtin.Slice.sliceAdjust lo hi 1 (n:Int)with|(lo,hi)=>pure (lo,(1:Int),Builtin.Slice.slicePlaces lo hi 1)) _ _ s
 rw[xV lo hi n]
 show wpAny _ _ (pure (((f6 n 0 lo:Nat):Int),(1:Int),Builtin.Slice.slicePlaces ((f6 n 0 lo:Nat):Int) ((f6 n n hi:Nat):Int) 1)) _ _ s
 rw[xW]
 exact wpAny_pure h
theorem Ce(xs:Array Value)(i k:Nat):((List.range k).filterMap fun(m:Nat)=>xs[((i:Int)+(m:Int)*1).toNat]?).toArray=((xs.toList.drop i).take k).toArray:=by
 have e:(fun(m:Nat)=>xs[((i:Int)+(m:Int)*1).toNat]?)=fun m=>xs[i+m]?:=by
  funext m
  have:((i:Int)+(m:Int)*1).toNat=i+m:=by omega
  rw[this]
 rw[e]
 have:=pick_run xs i k
 rw[List.filterMap_map]at this
 have e2:((fun x=>xs[x]?) ∘ fun x=>i+x)=fun m=>xs[i+m]?:=rfl
 rw[e2]at this
 rw[this]
theorem nD{t sl:Addr}{items:Array Value}{vl vu:Value}{lo hi:Option Int}{Q:Value->Shared->Prop}(ht:IsTup s.heap t items)(hs:s.heap.IsSliceOf sl vl vu .none)(pl:IsPart vl lo)(pu:IsPart vu hi)
  (hw:¬(f6 items.size 0 lo=0/\f6 items.size items.size hi=items.size))
  (h:Q (.ref s.heap.objs.size) {s with heap:=s.heap.push {cls:=.type "tuple",data:=.seq ((items.toList.drop (f6 items.size 0 lo)).take (f6 items.size items.size hi-f6 items.size 0 lo)).toArray}})
  (hsz:items.size<=sizeLine):wpAny (model prog w) A (getItem (.ref t) (.ref sl)) Q E s:=by
 have htake:sizeOk (.seq ((items.toList.drop (f6 items.size 0 lo)).take (f6 items.size items.size hi-f6 items.size 0 lo)).toArray):=by
  show((items.toList.drop (f6 items.size 0 lo)).take (f6 items.size items.size hi-f6 items.size 0 lo)).toArray.size<=sizeLine
  rw[List.size_toArray,List.length_take,List.length_drop,Array.length_toList]
  omega
 have hj:f6 items.size items.size hi<=items.size:=HE _ _ (Nat.le_refl _) hi
 obtain⟨os,hos,hcs,hds⟩:=id hs
 have hTs:s.TypeIs (.ref sl) "slice":=⟨os,hos,hcs⟩
 unfold getItem
 try with_reducible refine wpAny_holding ?_
 first|refine wpAny_bind (wpAny_pure ?_)|skip
 refine wpAny_bind (wpAny_sequenceKey ht.typeIs (by decide) ?_)
 refine wpAny_bind (wpAny_callSpecial?_slot (name:=Str.ofString "__getitem__") ht.typeIs PyProof.Rows.slot_tuple_getitem
  (wpAny_call_entry PyProof.Rows.slot_tuple_getitem ht.typeIs entry_tuple_getitem ?_ (args_tuple_getitem _ _)))
 show wpAny _ _ (Builtin.Tuple.tupleItemsOf (.ref t)>>=_) _ _ s
 refine wpAny_bind (tupleItemsOf_ ht ?_)
 refine wpAny_bind (wpAny_typeOf hTs ?_)
 rw[if_pos (by decide)]
 refine wpAny_bind (oK hs pl pu ?_)
 have hno:¬((((f6 items.size 0 lo:Nat):Int) == 0&&(1:Int) == 1&&(f6 items.size items.size hi-f6 items.size 0 lo) == items.size)=true):=by
  intro q
  rw[Bool.and_eq_true,Bool.and_eq_true]at q
  have q1:((f6 items.size 0 lo:Nat):Int)=0:=eq_of_beq q.1.1
  have q2:f6 items.size items.size hi-f6 items.size 0 lo=items.size:=eq_of_beq q.2
  exact hw ⟨by omega,by omega⟩
 show wpAny _ _ (if(((f6 items.size 0 lo:Nat):Int) == 0&&(1:Int) == 1&&(f6 items.size items.size hi-f6 items.size 0 lo) == items.size)=true then _ else _) _ _ s
 rw[if_neg hno,Ce]
 first
  |exact wpAny_bind (m:=Builtin.Tuple.tupleExact _) (wpAny_newObj_type (wpAny_pure ⟨_,rfl,wpAny_pure h⟩) htake)
  |exact wpAny_bind (m:=Builtin.Tuple.tupleExact _) (wpAny_newObj_type (wpAny_bind (wpAny_pure (wpAny_pure ⟨_,rfl,wpAny_pure h⟩))) htake)
  |exact wpAny_bind (wpAny_bind (m:=Builtin.Tuple.tupleExact _) (wpAny_newObj_type (wpAny_pure (wpAny_pure ⟨_,rfl,wpAny_pure h⟩)) htake))
  |exact wpAny_bind (wpAny_bind (m:=Builtin.Tuple.tupleExact _) (wpAny_newObj_type (wpAny_pure ⟨_,rfl,wpAny_pure h⟩) htake))
end
end HT
namespace L2
open PySem PySem.Spec PyProof.Rows
noncomputable abbrev TO:=St->Hp->(Option Int->Hp->Prop)->Prop
noncomputable def PO(X:Cx)(e:Option Expr)(t:TO):Prop :=
 ∀(pins:List (Addr×Obj)) (s:Shared) (σ:St) (H:Hp) (Q:Option Int->Hp->Prop),Inv X pins σ H s->t σ H Q ->
  wpAny (model X.prog X.w) X.A (evalPart e X.env) (fun u s'=>∃o H',Inv X pins σ H' s'/\IsPart u o/\Q o H') X.xe s
noncomputable def EG:TO:=fun _ H Q=>Q none H
noncomputable def JD(t:TE):TO:=fun σ H Q=>t σ H fun x H1=>∃i,x=.int i/\Q (some i) H1
section
variable {X:Cx}{e:Expr}{te:TE}{lo hi:Option Expr}{tl th:TO}{pos p2:Pos}
theorem cV:PO X none EG:=by
 intro pins s σ H Q I h
 rw[evalPart_none]
 exact wpAny_pure ⟨none,H,I,.none,h⟩
theorem cN(h:PE X e te):PO X (some e) (JD te):=by
 intro pins s σ H Q I hw
 rw[evalPart_some]
 refine cF (h pins s σ H _ I hw) fun u s1 ⟨x,H1,I1,r1,q1⟩=>?_
 obtain⟨i,rfl,q⟩:=q1
 obtain⟨t,rfl⟩:=r1
 exact⟨some i,H1,I1,.int i t,q⟩
noncomputable def Kp(X:Cx)(r:V->Option Int->Option Int->Hp->VK->Prop):Prop :=
 ∀(pins:List (Addr×Obj)) (s:Shared) (σ:St) (H:Hp) (x:V) (v vl vu:Value) (lo hi:Option Int) (sl:Addr) (Q:VK),Inv X pins σ H s->RelV x v->s.heap.IsSliceOf sl vl vu .none->IsPart vl lo->IsPart vu hi->r x lo hi H Q ->
  ∃T id,typeLookup (.type T) "__getitem__"=pure (some (.builtin id))/\s.TypeIs v T/\wpAny (model X.prog X.w) X.A (getItem v (.ref sl)) (EP X pins σ Q) X.xe s
noncomputable def L4(r:V->Option Int->Option Int->Hp->VK->Prop)(te:TE)(tl th:TO):TE:=fun σ H Q=>te σ H fun x H1=>tl σ H1 fun l H2=>th σ H2 fun u H3=>r x l u H3 Q
theorem cC{r:V->Option Int->Option Int->Hp->VK->Prop}(hr:Kp X r)(he:PE X e te)(hl:PO X lo tl)(hu:PO X hi th):PE X (.Subscript e (.Slice lo hi none p2) pos) (L4 r te tl th):=by
 intro pins s σ H Q I h
 refine Subscript_ (cF (he pins s σ H _ I h) fun v s1 ⟨x,H1,I1,r1,q1⟩=>?_)
 refine wpAny_Slice (cF (hl pins s1 σ H1 _ I1 q1) fun vl s2 ⟨l,H2,I2,pl,q2⟩=>cF (hu pins s2 σ H2 _ I2 q2) fun vu s3 ⟨u,H3,I3,pu,q3⟩=>?_)
 rw[evalPart_none]
 refine wpAny_pure ?_
 have I4:Inv X pins σ H3 {s3 with heap:=s3.heap.push {cls:=.type "slice",data:=.fields #[vl,vu,.none]}}:=I3.kept (t':=s3.toks) fun b ob q=>Heap.get?_push_of_some _ q
 obtain⟨T,id,hT,ht,hg⟩:=hr pins {s3 with heap:=s3.heap.push {cls:=.type "slice",data:=.fields #[vl,vu,.none]}} σ H3 x v vl vu l u s3.heap.objs.size Q I4 r1 (Heap.IsSliceOf.new ..) pl pu q3
 show wpAny (model X.prog X.w) X.A (subscriptTail e (.Slice lo hi none p2) v (.ref s3.heap.objs.size)) (EP X pins σ Q) X.xe {s3 with heap:=s3.heap.push {cls:=.type "slice",data:=.fields #[vl,vu,.none]}}
 exact tail_any (ops:=[.ref s3.heap.objs.size,v]) ht hT hg (by with_unfolding_all rfl)
noncomputable def fH(xs:List V)(lo hi:Option Int):List V:=(xs.drop (HT.f6 xs.length 0 lo)).take (HT.f6 xs.length xs.length hi-HT.f6 xs.length 0 lo)
theorem pq(xs:List V)(lo hi:Option Int):(fH xs lo hi).length<=xs.length:=by
 unfold fH
 rw[List.length_take,List.length_drop]
 omega
noncomputable def K0(K:PySem.W.Frag):V->Option Int->Option Int->Hp->VK->Prop:=fun x lo hi H Q=>∃a xs,x=.ref a/\bf K H a xs /\
 ¬(HT.f6 xs.length 0 lo=0/\HT.f6 xs.length xs.length hi=xs.length)/\∀p,H p=none->Q (.ref p) (upd H p (.tup (fH xs lo hi)))
theorem tS:Kp X (K0 X.K):=by
 intro pins s σ H x v vl vu lo hi sl Q I rx hs pl pu h
 obtain⟨a,xs,rfl,hx,hw,q⟩:=h
 cases rx
 obtain⟨its,r,ht,hz⟩:=I.tuple hx
 have hlen:its.toArray.size=xs.length:=by rw[List.size_toArray];exact r.length.symm
 refine⟨"tuple",_,PyProof.Rows.slot_tuple_getitem.lookup,ht.typeIs,?_⟩
 refine HT.nD ht hs pl pu (by rw[hlen];exact hw) ?_ (by rw[hlen];exact hz)
 rw[hlen]
 refine⟨.ref s.heap.objs.size,_,I.laid (t':=s.toks) (o:=.tup (fH xs lo hi)) (fun b ob q=>Heap.get?_push_of_some _ q) (Nat.le_refl _) ?_,rfl,q _ (I.hok.fresh (Nat.le_refl _))⟩
 exact⟨Nat.le_trans (pq xs lo hi) hz,_,(r.drop (HT.f6 xs.length 0 lo)).take (HT.f6 xs.length xs.length hi-HT.f6 xs.length 0 lo),IsTup.new _ _,_,Heap.get?_push_size _ rfl,rfl⟩
noncomputable def JE(K:PySem.W.Frag):R2:=fun x y H Q=>∃a b xs ys,x=.ref a/\y=.ref b/\bf K H a xs/\bf K H b ys/\xs≠[]/\xs.length+ys.length<=sizeLine /\
 (ys=[]->Q (.ref a) H)/\(ys≠[]->∀p,H p=none->Q (.ref p) (upd H p (.tup (xs++ys))))
theorem Vals.tT{xs:List V}{us:List Value}(r:Vals xs us):us=[]↔xs=[]:=by
 cases r with
 |nil=>simp
 |cons _ _=>simp
theorem tU:j3 X (binaryOp .Add) (JE X.K):=by
 intro pins s σ H x y v u Q I rx ry h
 obtain⟨a,b,xs,ys,rfl,rfl,ha,hb,hx,hz,q1,q2⟩:=h
 cases rx
 cases ry
 obtain⟨its,r1,p1,_⟩:=I.tuple ha
 obtain⟨its2,r2,p2,_⟩:=I.tuple hb
 refine HT.EF p1 p2 (fun z=>hx (r1.tT.mp z)) (fun z=>⟨.ref a,H,I,rfl,q1 (r2.tT.mp z)⟩) (fun z=>?_) (by rw[←r1.length,←r2.length];exact hz)
 refine⟨.ref s.heap.objs.size,_,I.laid (t':=s.toks) (o:=.tup (xs++ys)) (fun b ob q=>Heap.get?_push_of_some _ q) (Nat.le_refl _) ?_,rfl,q2 (fun w=>z (r2.tT.mpr w)) _ (I.hok.fresh (Nat.le_refl _))⟩
 exact⟨by rw[List.length_append];exact hz,_,r1.append r2,IsTup.new _ _,_,Heap.get?_push_size _ rfl,rfl⟩
end
noncomputable def EH(n:Nat)(i:Int):Option Nat:=if 0<=i then(if i<n then some i.toNat else none)else if -(n:Int)<=i then some (i+n).toNat else none
noncomputable def cK{α:Type}(xs:List α)(i:Int):Option α:=(EH xs.length i).bind fun j=>xs[j]?
theorem zo{n:Nat}{i:Int}{j:Nat}(h:EH n i=some j):seqIndex? i n=some j/\j<n/\-(n:Int)<=i/\i<n:=by
 unfold EH at h
 by_cases h0:0<=i
 ·rw[if_pos h0]at h
  by_cases h1:i<n
  ·rw[if_pos h1]at h
   have e:i.toNat=j:=Option.some.inj h
   exact⟨by rw[seqIndex_of h0 h1,e],by omega,by omega,h1⟩
  ·rw[if_neg h1]at h;cases h
 ·rw[if_neg h0]at h
  by_cases h1:-(n:Int)<=i
  ·rw[if_pos h1]at h
   have e:(i+n).toNat=j:=Option.some.inj h
   exact⟨by rw[seqIndex_neg (by omega) h1,e],by omega,h1,by omega⟩
  ·rw[if_neg h1]at h;cases h
theorem tV{α:Type}{xs:List α}{i:Int}{v:α}(h:cK xs i=some v):∃j,seqIndex? i xs.length=some j/\xs[j]?=some v/\j<xs.length/\-(xs.length:Int)<=i/\i<xs.length:=by
 unfold cK at h
 cases e:EH xs.length i with
 |none=>rw[e]at h;cases h
 |some j =>
  rw[e]at h
  obtain⟨h1,h2,h3,h4⟩:=zo e
  exact⟨j,h1,h,h2,h3,h4⟩
theorem bh{α:Type}{xs:List α}{j:Nat}{v:α}(h:xs[j]?=some v):cK xs (j:Int)=some v:=by
 have hj:j<xs.length:=(List.getElem?_eq_some_iff.mp h).1
 have e:EH xs.length (j:Int)=some j:=by
  unfold EH
  rw[if_pos (by omega),if_pos (by omega)];simp
 unfold cK;rw[e];exact h
noncomputable def EI(b:Expr):Prop:=∀o i,subscripted b false o i=operate [o,i] (getItem o i)
noncomputable def Eo(X:Cx)(r:R2):Prop :=
 ∀(value slice:Expr) (pins:List (Addr×Obj)) (s:Shared) (σ:St) (H:Hp) (x y:V) (v u:Value) (Q:VK),Inv X pins σ H s->RelV x v->RelV y u->r x y H Q ->
  subscripted slice false v u=operate [v,u] (getItem v u)->wpAny (model X.prog X.w) X.A (subscriptTail value slice v u) (EP X pins σ Q) X.xe s
noncomputable def Cf(X:Cx)(id:String)(r:V->List V->Hp->VK->Prop):Prop :=
 ∀(pins:List (Addr×Obj)) (s:Shared) (σ:St) (H:Hp) (x:V) (xs:List V) (v:Value) (us:List Value) (Q:VK),Inv X pins σ H s->RelV x v->Vals xs us->r x xs H Q ->
  wpAny (model X.prog X.w) X.A (call (.builtin id) (v::us)) (EP X pins σ Q) X.xe s
section
variable {X:Cx}{a b:Expr}{ta tb:TE}{pos:Pos}
theorem Eo.or{r r':R2}(h:Eo X r)(h':Eo X r'):Eo X (fun x y H Q=>r x y H Q\/r' x y H Q):=by
 intro value slice pins s σ H x y v u Q I rx ry q hs
 rcases q with q|q
 ·exact h value slice pins s σ H x y v u Q I rx ry q hs
 ·exact h' value slice pins s σ H x y v u Q I rx ry q hs
theorem iU{r:R2}(hr:Eo X r)(ha:PE X a ta)(hb:PE X b tb)(hs:EI b):PE X (.Subscript a b pos) (Kn r ta tb):=by
 intro pins s σ H Q I h
 exact Subscript_ (HB ha hb I h fun v u s2 x y H2 I2 rx ry q=>hr a b pins s2 σ H2 x y v u Q I2 rx ry q (hs _ _))
noncomputable def HF(K:PySem.W.Frag):R2:=fun x y H Q=>∃p xs i v,x=.ref p/\y=.int i/\bB K H p xs/\cK xs i=some v/\Q v H
noncomputable def JF(K:PySem.W.Frag):R2:=fun x y H Q=>∃p xs i v,x=.ref p/\y=.int i/\bf K H p xs/\cK xs i=some v/\Q v H
noncomputable def JG:R2:=fun x y H Q=>∃z i c,x=.str z/\y=.int i/\z.length<=sizeLine/\cK z.cps.toList i=some c/\Q (.str ⟨#[c]⟩) H
theorem aN:Eo X (HF X.K):=by
 intro value slice pins s σ H x y v u Q I rx ry h hs
 obtain⟨p,xs,i,z,rfl,rfl,hq,he,q⟩:=h
 cases rx
 obtain⟨t,rfl⟩:=ry
 obtain⟨its,r,pl,hz⟩:=I.list hq
 obtain⟨j,h1,h2,h3,h4,h5⟩:=tV he
 obtain⟨w,ew,rw'⟩:=r.get h2
 have hl:=r.length
 have hn:=mH
 have fin:EP X pins σ Q w s:=⟨z,H,I,rw',q⟩
 by_cases h0:0<=i
 ·have hj:i.toNat=j:=by
   rw[seqIndex_of h0 h5]at h1
   exact Option.some.inj h1
  exact item_listR pl.isList h0 (by omega) (by rw[hj];simpa using ew) fin hs
 ·have hj:(i+(its.toArray.size:Int)).toNat=j:=by
   rw[seqIndex_neg (by omega) h4]at h1
   rw[List.size_toArray,←hl]
   exact Option.some.inj h1
  exact subscriptTail_builtinR (x:=w) pl.isList.typeIs slot_list_getitem.lookup
   (wpAny_getItem_list_neg (Q:=fun r s'=>r=w/\EP X pins σ Q r s') pl.isList (by omega) (by rw[List.size_toArray]<;>omega) (by omega) (by rw[hj];simpa using ew) ⟨rfl,fin⟩) hs
theorem bH:Eo X (JF X.K):=by
 intro value slice pins s σ H x y v u Q I rx ry h hs
 obtain⟨p,xs,i,z,rfl,rfl,hq,he,q⟩:=h
 cases rx
 obtain⟨t,rfl⟩:=ry
 obtain⟨its,r,pl,hz⟩:=I.tuple hq
 obtain⟨j,h1,h2,h3,h4,h5⟩:=tV he
 obtain⟨w,ew,rw'⟩:=r.get h2
 have hl:=r.length
 have hn:=mH
 have fin:EP X pins σ Q w s:=⟨z,H,I,rw',q⟩
 exact subscriptTail_builtinR (x:=w) pl.typeIs slot_tuple_getitem.lookup
  (getItem_tuple (j:=j) (Q:=fun r s'=>r=w/\EP X pins σ Q r s') pl (by omega) (by omega) (by rw[List.size_toArray,←hl];exact h1) (by simpa using ew) ⟨rfl,fin⟩) hs
theorem tW:Eo X JG:=by
 intro value slice pins s σ H x y v u Q I rx ry h hs
 obtain⟨z,i,c,rfl,rfl,hz,he,q⟩:=h
 obtain⟨t,rfl⟩:=rx
 obtain⟨t',rfl⟩:=ry
 obtain⟨j,h1,h2,h3,h4,h5⟩:=tV he
 have hl:z.cps.toList.length=z.length:=by simp[Str.length]
 rw[hl]at h1 h4 h5
 have hn:=mH
 exact tail_any (typeIs_str s z t) slot_str_getitem.lookup (getItem_str (c:=c) (by
  have e1:decide (i < -(2 ^ 63:Int))=false:=decide_eq_false (by omega)
  have e2:decide (i ≥ 2 ^ 63)=false:=decide_eq_false (by omega)
  rw[e1,e2,Bool.or_false]) (by rw[h1];simpa using h2) ⟨.str ⟨#[c]⟩,H,I.tok _,⟨_,rfl⟩,q⟩) hs
noncomputable def K2(K:PySem.W.Frag):R2:=fun x y H Q=>HF K x y H Q\/JF K x y H Q\/JG x y H Q
theorem qx:Eo X (K2 X.K):=aN.or (bH.or tW)
theorem xX(its:List Value)(n j:Nat)(u:Value):Obj.mapSeq (·.setIfInBounds j u) {cls:=.type "list",data:=.seq its.toArray n}={cls:=.type "list",data:=.seq (its.set j u).toArray n}:=by
 simp[Obj.mapSeq]
theorem Inv.lst{pins:List (Addr×Obj)}{σ:St}{H:Hp}{s:Shared}{p:Addr}{xs:List V}(I:Inv X pins σ H s)(h:H p=some (.lst xs)) :
  ∃(its:List Value) (n:Nat),Vals xs its/\s.heap.get? p=some {cls:=.type "list",data:=.seq its.toArray n}/\xs.length<=sizeLine:=by
 obtain⟨z,its,n,r,e⟩:=I.hok p _ h
 exact⟨its,n,r,e,z⟩
theorem Inv.HG{pins:List (Addr×Obj)}{σ:St}{H:Hp}{s:Shared}{p:Addr}{xs ys:List V}{its its':List Value}{n n':Nat}{f:Obj->Obj}(I:Inv X pins σ H s)(h:H p=some (.lst xs))
  (ho:s.heap.get? p=some {cls:=.type "list",data:=.seq its.toArray n}) (hf:f {cls:=.type "list",data:=.seq its.toArray n}={cls:=.type "list",data:=.seq its'.toArray n'}) (r:Vals ys its') (hz:ys.length<=sizeLine) (t:Nat) :
  Inv X pins σ (upd H p (.lst ys)) {s with heap:=s.heap.update p f,toks:=t}:=by
 have e:(s.heap.update p f).get? p=some {cls:=.type "list",data:=.seq its'.toArray n'}:=by
  rw[Heap.get?_update_self f ho (by rw[hf]<;>rfl),hf]
 refine I.write (x:=p) (e:=p) (by rw[h];trivial) (.inl rfl) (fun b u hb q=>(Heap.get?_update_other _ _ (Ne.symm hb)).trans q) ⟨_,e⟩ ?_
 exact⟨hz,its',n',r,e⟩
noncomputable def JH:V->V->V->Hp->(Hp->Prop)->Prop:=fun o i v H Q=>∃p xs k j,o=.ref p/\i=.int k/\H p=some (.lst xs)/\EH xs.length k=some j/\Q (upd H p (.lst (xs.set j v)))
theorem set_list:Jq X JH:=by
 intro pins s σ H o i v ov iv u Q I ro ri rv h
 obtain⟨p,xs,k,j,rfl,rfl,hp,hj,q⟩:=h
 cases ro
 obtain⟨t,rfl⟩:=ri
 obtain⟨its,n,r,ho,hz⟩:=I.lst hp
 obtain⟨h1,h2,h3,h4⟩:=zo hj
 have hl:=r.length
 have hn:=mH
 have I':Inv X pins σ (upd H p (.lst (xs.set j v))) {s with heap:=s.heap.update p (Obj.mapSeq (·.setIfInBounds j u))} :=
  I.HG hp ho (xX its n j u) (r.set rv j) (by rw[List.length_set];exact hz) s.toks
 by_cases h0:0<=k
 ·have hk:k.toNat=j:=by
   rw[seqIndex_of h0 h4]at h1
   exact Option.some.inj h1
  exact PySem.W.ki_setAt ho h0 (by omega) (by rw[List.size_toArray,←hl];exact h4) (by rw[hk];exact⟨_,I',q⟩)
 ·have hk:(k+(its.toArray.size:Int)).toNat=j:=by
   rw[seqIndex_neg (by omega) h3]at h1
   rw[List.size_toArray,←hl]
   exact Option.some.inj h1
  exact PySem.W.ki_setBack ho (by omega) (by rw[List.size_toArray,←hl];exact h3) (by omega) (by rw[hk];exact⟨_,I',q⟩)
theorem tX(lo hi:Option Int)(n:Nat):(sliceBounds lo hi none n).1=((HT.f6 n 0 lo:Nat):Int)/\(sliceBounds lo hi none n).2.1=((HT.f6 n n hi:Nat):Int)/\(sliceBounds lo hi none n).2.2=1:=by
 refine⟨?_,?_,rfl⟩
 ·cases lo with
  |none=>simp[sliceBounds,HT.f6]
  |some i =>
   simp only[sliceBounds,HT.f6,Option.getD_none,show(1:Int)>0 by decide,if_true]
   by_cases h:i<0
   ·simp only[h,if_true]<;>omega
   ·simp only[h,if_false]<;>omega
 ·cases hi with
  |none=>simp[sliceBounds,HT.f6]
  |some i =>
   simp only[sliceBounds,HT.f6,Option.getD_none,show(1:Int)>0 by decide,if_true]
   by_cases h:i<0
   ·simp only[h,if_true]<;>omega
   ·simp only[h,if_false]<;>omega
theorem rQ(its:List Value)(lo hi:Option Int):slicePick its.toArray lo hi none=((its.drop (HT.f6 its.length 0 lo)).take (HT.f6 its.length its.length hi-HT.f6 its.length 0 lo)).toArray:=by
 obtain⟨h1,h2,h3⟩:=tX lo hi its.toArray.size
 unfold slicePick
 rw[h1,h2,h3]
 simp only[sliceRange_one,pick_run,List.size_toArray]<;>rfl
noncomputable def K3(K:PySem.W.Frag):V->Option Int->Option Int->Hp->VK->Prop:=fun x lo hi H Q=>∃a xs,x=.ref a/\bB K H a xs/\∀p,H p=none->Q (.ref p) (upd H p (.lst (fH xs lo hi)))
theorem ic:Kp X (K3 X.K):=by
 intro pins s σ H x v vl vu lo hi sl Q I rx hs pl pu h
 obtain⟨a,xs,rfl,hx,q⟩:=h
 cases rx
 obtain⟨its,r,ht,hz⟩:=I.list hx
 have hlen:=r.length
 refine⟨"list",_,slot_list_getitem.lookup,ht.isList.typeIs,?_⟩
 refine wpAny_getItem_list_slice ht.isList hs pl pu .none (by simp) ?_ (by rw[List.size_toArray]<;>omega)
 rw[rQ,←hlen]
 refine⟨.ref s.heap.objs.size,_,I.laid (t':=s.toks) (o:=.lst (fH xs lo hi)) (fun b ob q=>Heap.get?_push_of_some _ q) (Nat.le_refl _) ?_,rfl,q _ (I.hok.fresh (Nat.le_refl _))⟩
 exact⟨Nat.le_trans (pq xs lo hi) hz,_,0,(r.drop (HT.f6 xs.length 0 lo)).take (HT.f6 xs.length xs.length hi-HT.f6 xs.length 0 lo),Heap.get?_push_size _ rfl⟩
noncomputable def dI:V->Bool
 |.ik=>true
 |.bl _=>true
 |.int _=>true
 |.str _=>true
 |_=>false
noncomputable def Gs:V->V->Bool
 |.ik,.ik=>true
 |.bl a,.bl b=>a == b
 |.bl a,.int b=>(if a then 1 else 0) == b
 |.int a,.bl b=>a == (if b then 1 else 0)
 |.int a,.int b=>a == b
 |.str a,.str b=>a == b
 |_,_=>false
theorem HH{A:Around}{s:Shared}{y x:V}{u v:Value}(ry:RelV y u)(rx:RelV x v)(fy:dI y=true)(fx:dI x=true):SeqAt.EqAt A s u v (Gs y x):=by
 cases y with
 |ik =>
  cases ry
  cases x with
  |ik=>cases rx;exact SeqAt.EqAt.same _
  |bl b=>cases rx;exact SeqAt.EqAt.none_bool b
  |int b=>obtain⟨t,rfl⟩:=rx;exact SeqAt.EqAt.none_int b t
  |str b=>obtain⟨t,rfl⟩:=rx;exact SeqAt.EqAt.none_str b t
  |_=>exact absurd (show false=true from fx) Bool.false_ne_true
 |bl a =>
  cases ry
  cases x with
  |ik=>cases rx;exact SeqAt.EqAt.bool_none a
  |bl b=>cases rx;exact SeqAt.EqAt.bool_bool a b
  |int b=>obtain⟨t,rfl⟩:=rx;exact SeqAt.EqAt.bool_int a b t
  |str b=>obtain⟨t,rfl⟩:=rx;exact SeqAt.EqAt.bool_str a b t
  |_=>exact absurd (show false=true from fx) Bool.false_ne_true
 |int a =>
  obtain⟨t',rfl⟩:=ry
  cases x with
  |ik=>cases rx;exact SeqAt.EqAt.int_none a t'
  |bl b=>cases rx;exact SeqAt.EqAt.int_bool a t' b
  |int b=>obtain⟨t,rfl⟩:=rx;exact SeqAt.EqAt.int_int a t' b t
  |str b=>obtain⟨t,rfl⟩:=rx;exact SeqAt.EqAt.int_str a t' b t
  |_=>exact absurd (show false=true from fx) Bool.false_ne_true
 |str a =>
  obtain⟨t',rfl⟩:=ry
  cases x with
  |ik=>cases rx;exact SeqAt.EqAt.str_none a t'
  |bl b=>cases rx;exact SeqAt.EqAt.str_bool a t' b
  |int b=>obtain⟨t,rfl⟩:=rx;exact SeqAt.EqAt.str_int a t' b t
  |str b=>obtain⟨t,rfl⟩:=rx;exact SeqAt.EqAt.str_str a t' b t
  |_=>exact absurd (show false=true from fx) Bool.false_ne_true
 |_=>exact absurd (show false=true from fy) Bool.false_ne_true
noncomputable def xY(x:V)(u:Value):Bool:=match u with
 |.none=>Gs .ik x
 |.bool b=>Gs (.bl b) x
 |.int i _=>Gs (.int i) x
 |.str z _=>Gs (.str z) x
 |_=>false
theorem Cg{x y:V}{u:Value}(r:RelV y u)(f:dI y=true):xY x u=Gs y x:=by
 cases y with
 |ik=>cases r;rfl
 |bl b=>cases r;rfl
 |int i=>obtain⟨t,rfl⟩:=r;rfl
 |str z=>obtain⟨t,rfl⟩:=r;rfl
 |_=>exact absurd (show false=true from f) Bool.false_ne_true
theorem nE{x:V}:∀{xs:List V}{us:List Value},Vals xs us->xs.all dI=true->us.any (xY x)=xs.any fun y=>Gs y x
 |_,_,.nil,_=>rfl
 |y::xs,u::us,.cons r t,f=>by
  rw[List.all_cons,Bool.and_eq_true]at f
  rw[List.any_cons,List.any_cons,Cg r f.1,nE t f.2]
theorem kq{A:Around}{s:Shared}{x:V}{v:Value}(rx:RelV x v)(fx:dI x=true):∀{xs:List V}{us:List Value},Vals xs us->xs.all dI=true->∀u∈us,SeqAt.EqAt A s u v (xY x u)
 |_,_,.nil,_=>fun u hu=>by cases hu
 |y::xs,u::us,.cons r t,f=>fun u' hu=>by
  rw[List.all_cons,Bool.and_eq_true]at f
  rcases List.mem_cons.mp hu with rfl|hu
  ·rw[Cg r f.1];exact HH r rx f.1 fx
  ·exact kq rx fx t f.2 u' hu
noncomputable def nh(x:V)(xs:List V):Bool:=xs.any fun y=>Gs y x
noncomputable def K4(K:PySem.W.Frag)(neg:Bool):R2:=fun x y H Q=>∃p xs,y=.ref p/\(bB K H p xs\/bf K H p xs)/\dI x=true/\xs.all dI=true/\Q (.bl (if neg then !nh x xs else nh x xs)) H
theorem iB:j3 X (compareOp .In) (K4 X.K false):=by
 intro pins s σ H x y v u Q I rx ry h
 obtain⟨p,xs,rfl,hq,fx,fs,q⟩:=h
 cases ry
 rcases hq with hq|hq
 ·obtain⟨its,r,pl,hz⟩:=I.list hq
  refine SeqAt.in_listAt (xY x) pl.isList (fun w hw=>kq rx fx r fs w (by simpa using hw)) ⟨.bl _,H,I,rfl,?_⟩
  rw[show its.toArray.any (xY x)=its.any (xY x) by simp,nE r fs]
  exact q
 ·obtain⟨its,r,pl,hz⟩:=I.tuple hq
  refine SeqAt.in_tupleAt (xY x) pl (fun w hw=>kq rx fx r fs w (by simpa using hw)) ⟨.bl _,H,I,rfl,?_⟩
  rw[show its.toArray.any (xY x)=its.any (xY x) by simp,nE r fs]
  exact q
theorem tY:j3 X (compareOp .NotIn) (K4 X.K true):=by
 intro pins s σ H x y v u Q I rx ry h
 obtain⟨p,xs,rfl,hq,fx,fs,q⟩:=h
 cases ry
 rcases hq with hq|hq
 ·obtain⟨its,r,pl,hz⟩:=I.list hq
  refine SeqAt.notIn_listAt (xY x) pl.isList (fun w hw=>kq rx fx r fs w (by simpa using hw)) ⟨.bl _,H,I,rfl,?_⟩
  rw[show its.toArray.any (xY x)=its.any (xY x) by simp,nE r fs]
  exact q
 ·obtain⟨its,r,pl,hz⟩:=I.tuple hq
  refine SeqAt.notIn_tupleAt (xY x) pl (fun w hw=>kq rx fx r fs w (by simpa using hw)) ⟨.bl _,H,I,rfl,?_⟩
  rw[show its.toArray.any (xY x)=its.any (xY x) by simp,nE r fs]
  exact q
theorem aY:gZ X (.builtin "len") (fun xs H Q=>∃p ys,xs=[.ref p]/\(bB X.K H p ys\/bf X.K H p ys)/\Q (.int ys.length) H):=by
 intro pins s σ H xs us Q I r h
 obtain⟨p,ys,rfl,hq,q⟩:=h
 obtain⟨u,rfl,rx⟩:=vals1 r
 cases rx
 have hn:=mH
 rcases hq with hq|hq
 ·obtain⟨its,r',pl,hz⟩:=I.list hq
  have hlen:=r'.length
  exact Calls.call_len_list pl.isList (by simp only[List.size_toArray]<;>omega) ⟨.int ys.length,H,I.tok _,⟨s.toks+1,by rw[List.size_toArray,hlen]⟩,q⟩
 ·obtain⟨its,r',pl,hz⟩:=I.tuple hq
  have hlen:=r'.length
  exact len_tuple pl (by simp only[List.size_toArray]<;>omega) ⟨.int ys.length,H,I.tok _,⟨s.toks+1,by rw[List.size_toArray,hlen]⟩,q⟩
theorem jH:gZ X (.builtin "len") (fun xs H Q=>∃z,xs=[.str z]/\z.length<=sizeLine/\Q (.int z.length) H):=by
 intro pins s σ H xs us Q I r h
 obtain⟨z,rfl,hz,q⟩:=h
 obtain⟨u,rfl,t,rfl⟩:=vals1 r
 have hn:=mH
 exact len_str (by omega) ⟨.int z.length,H,I.tok _,⟨_,rfl⟩,q⟩
theorem aZ:gZ X (.type "tuple") (fun xs H Q=>∃p ys,xs=[.ref p]/\((bB X.K H p ys/\∀l,H l=none->Q (.ref l) (upd H l (.tup ys)))\/(bf X.K H p ys/\Q (.ref p) H))):=by
 intro pins s σ H xs us Q I r h
 obtain⟨p,ys,rfl,h⟩:=h
 obtain⟨u,rfl,rx⟩:=vals1 r
 cases rx
 rcases h with⟨hq,q⟩|⟨hq,q⟩
 ·obtain⟨its,r',pl,hz⟩:=I.list hq
  have hlen:=r'.length
  refine call_tuple_list pl.isList (fun h' kp=>?_) (by simp only[List.size_toArray]<;>omega)
  have I1:Inv X pins σ H {s with heap:=h'}:=I.kept (t':=s.toks) kp
  have I2:Inv X pins σ (upd H h'.objs.size (.tup ys)) {s with heap:=h'.push {cls:=.type "tuple",data:=.seq its.toArray}} :=
   I1.laid (t':=s.toks) (fun b o e=>Heap.get?_push_of_some _ e) (Nat.le_refl _) (show eS X.prog X.w _ _ _ (.tup ys)from⟨hz,its,r',IsTup.new _ _,_,Heap.get?_push_size _ rfl,rfl⟩)
  exact⟨.ref h'.objs.size,_,I2,rfl,q _ (I1.hok.fresh (Nat.le_refl _))⟩
 ·obtain⟨its,r',pl,hz⟩:=I.tuple hq
  exact call_tuple_same pl ⟨.ref p,H,I,rfl,q⟩
noncomputable def Ci(K:PySem.W.Frag)(T:String)(x:V)(H:Hp):Prop:=match x with
 |.str _=>T="str"
 |.int _=>T="int"
 |.ref p=>(T="list"/\∃xs,bB K H p xs)\/(T="tuple"/\∃o,K.lookup p=some o/\o.cls=.type "tuple"/\o.dict=none) \/
   (T="dict"/\((∃kvs,H p=some (.dK kvs))\/∃kvs,H p=some (.dT kvs)))\/(T="set"/\∃S n,H p=some (.set S n))
 |_=>False
theorem Cj{pins:List (Addr×Obj)}{σ:St}{H:Hp}{s:Shared}{T:String}{x:V}{v:Value}(I:Inv X pins σ H s)(r:RelV x v)(ty:Ci X.K T x H) :
  s.TypeIs v T/\∀a,v=.ref a->∃ob,s.heap.get? a=some ob/\ob.dict=none:=by
 cases x with
 |str z =>
  obtain⟨t,rfl⟩:=r
  cases(show T="str" from ty)
  exact⟨typeIs_str s z t,fun _ e=>nomatch e⟩
 |int i =>
  obtain⟨t,rfl⟩:=r
  cases(show T="int" from ty)
  exact⟨typeIs_int s i t,fun _ e=>nomatch e⟩
 |ref p =>
  cases r
  rcases ty with⟨rfl,xs,hq⟩|⟨rfl,o,hk,hc,hd⟩|⟨rfl,hk⟩|⟨rfl,S,n,hk⟩
  ·obtain⟨its,_,pl,_⟩:=I.list hq
   refine⟨pl.isList.typeIs,fun a e=>?_⟩
   cases e
   obtain⟨o,n,e,c,hd,_⟩:=pl
   exact⟨o,e,hd⟩
  ·refine⟨⟨o,I.Em p o hk,hc⟩,fun a e=>?_⟩
   cases e
   exact⟨o,I.Em _ o hk,hd⟩
  ·have z:∃o,s.heap.get? p=some o/\o.ExactDict:=by
    rcases hk with⟨kvs,hk⟩|⟨kvs,hk⟩
    ·obtain⟨_,_,_,_,o,_,_,e,ex,_⟩:=I.hok p _ hk
     exact⟨o,e,ex⟩
    ·obtain⟨_,_,_,_,o,_,_,e,ex,_⟩:=I.hok p _ hk
     exact⟨o,e,ex⟩
   obtain⟨o,e,ex⟩:=z
   refine⟨⟨o,e,ex.1⟩,fun a e2=>?_⟩
   cases e2
   exact⟨o,e,ex.2.1⟩
  ·obtain⟨o,_,_,_,e,ex,_⟩:=I.hok p _ hk
   refine⟨⟨o,e,ex.1⟩,fun a e2=>?_⟩
   cases e2
   exact⟨o,e,ex.2.1⟩
 |_=>exact False.elim ty
noncomputable def K5(K:PySem.W.Frag)(T:String)(r:V->List V->Hp->VK->Prop)(to:TE):TE:=fun σ H Q=>to σ H fun x H1=>Ci K T x H1/\r x [] H1 Q
noncomputable def LD(K:PySem.W.Frag)(T:String)(r:V->List V->Hp->VK->Prop)(to:TE)(t:TA):TE:=fun σ H Q=>to σ H fun x H1=>Ci K T x H1/\t σ H1 fun xs H2=>r x xs H2 Q
variable {o e:Expr}{es:List Expr}{to:TE}{t:TA}{name:Str}{apos cpos:Pos}{T id:String}{r:V->List V->Hp->VK->Prop}
theorem xZ(pa:PlainAttrs T)(slot:Slot T name id)(hty:typeOf (.builtin id)=pure (.type "method_descriptor"))(hm:Cf X id r)(ho:PE X o to)
  (hbase:attributeBase o name X.env (eval o X.env)=eval o X.env:=by rfl) (hline:(apos.endLine == cpos.line)=true:=by rfl):PE X (.Call (.Attribute o name apos) [] [] cpos) (K5 X.K T r to):=by
 intro pins s σ H Q I h
 refine wpAny_Call_method0_late hbase hline (cF (ho pins s σ H _ I h) fun v s1 ⟨x,H1,I1,r1,ty,q1⟩=>?_)
 obtain⟨h1,h2⟩:=Cj I1 r1 ty
 exact⟨T,id,pa,slot,hty,h1,h2,Calls.callWith_builtin rfl (PySem.evalArgs_none (hm pins s1 σ H1 x [] v [] Q I1 r1 .nil q1))⟩
theorem cz(pa:PlainAttrs T)(slot:Slot T name id)(hty:typeOf (.builtin id)=pure (.type "method_descriptor"))(hm:Cf X id r)(ho:PE X o to)(ha:PA X (e::es) t)
  (hbase:attributeBase o name X.env (eval o X.env)=eval o X.env:=by rfl)
  (hfew:((backTo cpos (starEach (e::es) X.env)).all (fun x=>!x.1)&&(backToKw cpos (keywordEach [] X.env)).all (fun x=>x.1.isSome)
   && decide ((e::es).length+([]:List Keyword).length+(if([]:List Keyword).isEmpty then 0 else 1)<30))=true:=by rfl)
  (hline:(apos.endLine == cpos.line)=true:=by rfl) (hs:starEach (e::es) X.env=(false,eval e X.env)::starEach es X.env:=by rfl) (hplain:(backTo cpos (starEach es X.env)).any (·.1)=false:=by rfl) :
  PE X (.Call (.Attribute o name apos) (e::es) [] cpos) (LD X.K T r to t):=by
 intro pins s σ H Q I h
 refine wpAny_Call_method_late hbase hfew hline rfl (cF (ho pins s σ H _ I h) fun v s1 ⟨x,H1,I1,r1,ty,q1⟩=>?_)
 obtain⟨h1,h2⟩:=Cj I1 r1 ty
 refine⟨T,id,pa,slot,hty,h1,h2,?_⟩
 have hA:=ha cpos pins s1 σ H1 _ I1 q1
 rw[hs]at hA⊢
 refine Calls.callWith_builtin (by show(false||(backTo cpos (starEach es X.env)).any (·.1))=false;rw[hplain]<;>rfl) (Calls.evalArgs_plain ?_)
 exact cF hA fun us s2 ⟨vs,H2,I2,r2,q2⟩=>hm pins s2 σ H2 x vs v us Q I2 r1 r2 q2
/- xs.append(e),list.index on a module's tuple .. are Cf facts of 06m -/
end
noncomputable def K6(X:Cx)(id:String)(r:V->List V->Hp->VK->Prop):Prop :=
 ∀(pins:List (Addr×Obj)) (s:Shared) (σ:St) (H:Hp) (x:V) (xs:List V) (v:Value) (us:List Value) (Q:VK),Inv X pins σ H s->RelV x v->Vals xs us->r x xs H Q ->
  wpAny (model X.prog X.w) X.A (call (.builtin id) (v::us)) (EP X pins σ Q) X.xe s
theorem Vals.one:∀{x:V}{us:List Value},Vals [x] us->∃u,us=[u]/\RelV x u
 |_,_,.cons r .nil=>⟨_,rfl,r⟩
theorem Vals.zero:∀{us:List Value},Vals [] us->us=[]
 |_,.nil=>rfl
theorem Vals.dropLast{xs:List V}{us:List Value}(h:Vals xs us):Vals xs.dropLast us.dropLast:=by
 induction h with
 |nil=>exact .nil
 |cons r t ih =>
  cases t with
  |nil=>exact .nil
  |cons q t'=>exact .cons r ih
theorem x6{α:Type}(l:List α):l.eraseIdx (l.length-1)=l.dropLast:=by
 induction l with
 |nil=>rfl
 |cons a r ih =>
  cases r with
  |nil=>rfl
  |cons b r =>
   have e:(a::b::r).length-1=((b::r).length-1)+1:=by
    have h1:(a::b::r).length=r.length+2:=rfl
    have h2:(b::r).length=r.length+1:=rfl
    omega
   rw[e,List.eraseIdx_cons_succ,ih]
   all_goals rfl
section
variable {X:Cx}{pins:List (Addr×Obj)}{σ:St}{H:Hp}{s:Shared}{l b:Addr}{xs ys zs:List V}
theorem Inv.HJ{its its':List Value}{n:Nat}{f:Array Value->Array Value}{t':Nat}(I:Inv X pins σ H s)(hH:H l=some (.lst xs))
  (e:s.heap.get? l=some {cls:=.type "list",data:=.seq its.toArray n}) (hf:f its.toArray=its'.toArray) (hv:Vals ys its') (hz:ys.length<=sizeLine) :
  Inv X pins σ (upd H l (.lst ys)) {s with heap:=s.heap.update l (Obj.mapSeq f),toks:=t'}:=by
 have q:=PySem.IsL.update e f
 rw[hf]at q
 refine I.write (x:=l) (e:=l) (by rw[hH];exact trivial) (.inl rfl) (fun b' u hb hu=>(Heap.get?_update_other s.heap (Obj.mapSeq f) (Ne.symm hb)).trans hu) ⟨_,q⟩ ?_
 exact⟨hz,its',_,hv,q⟩
theorem Inv.K7{its:List Value}{t':Nat}(I:Inv X pins σ H s)(hv:Vals ys its)(hz:ys.length<=sizeLine) :
  Inv X pins σ (upd H s.heap.objs.size (.lst ys)) {s with heap:=s.heap.push {cls:=.type "list",data:=.seq its.toArray},toks:=t'} :=
 I.laid (fun _ _ q=>Heap.get?_push_of_some _ q) (Nat.le_refl _) ⟨hz,its,0,hv,Heap.get?_push_size _ rfl⟩
theorem Inv.fresh(I:Inv X pins σ H s):H s.heap.objs.size=none:=I.hok.fresh (Nat.le_refl _)
theorem Inv.AS(I:Inv X pins σ H s)(hH:H l=some (.lst xs)):xs.length<=sizeLine/\∃(its:List Value) (n:Nat),Vals xs its/\xs.length=its.length/\s.heap.get? l=some {cls:=.type "list",data:=.seq its.toArray n}:=by
 obtain⟨z,its,n,r,e⟩:=I.hok l _ hH
 exact⟨z,its,n,r,r.length,e⟩
theorem Ck{n:Nat}(h:n<=sizeLine):Builtin.List.listTooLong n=false:=by
 unfold Builtin.List.listTooLong
 exact decide_eq_false (by omega)
end
section
variable {X:Cx}
noncomputable def EJ:V->List V->Hp->VK->Prop:=fun x vs H Q=>∃l xs y,x=.ref l/\vs=[y]/\H l=some (.lst xs)/\xs.length<sizeLine/\Q .ik (upd H l (.lst (xs++[y])))
theorem bX:K6 X "list.append" EJ:=by
 intro pins s σ H x vs v us Q I rx rv h
 obtain⟨l,xs,y,rfl,rfl,hH,hz,q⟩:=h
 cases rx
 obtain⟨u,rfl,ru⟩:=rv.one
 obtain⟨z,its,n,r,hl,e⟩:=I.AS hH
 refine call_meets F.slot_list_append ⟨_,e,rfl⟩ F.entry_list_append (F.args_list_append_2 _ _) (PySem.list_append l its.toArray n u (by rw[List.size_toArray];omega)) ⟨e,?_⟩
 refine⟨.ik,_,I.HJ (its':=its++[u]) hH e (by simp) (r.append (.cons ru .nil)) ?_,rfl,q⟩
 rw[List.length_append,List.length_singleton]
 omega
noncomputable def EK:V->List V->Hp->VK->Prop:=fun x vs H Q=>∃l b xs zs,x=.ref l/\vs=[.ref b]/\H l=some (.lst xs)/\H b=some (.lst zs)/\xs.length+zs.length<=sizeLine/\Q .ik (upd H l (.lst (xs++zs)))
theorem oM:K6 X "list.extend" EK:=by
 intro pins s σ H x vs v us Q I rx rv h
 obtain⟨l,b,xs,zs,rfl,rfl,hH,hB,hz,q⟩:=h
 cases rx
 obtain⟨u,rfl,ru⟩:=rv.one
 cases ru
 obtain⟨z,its,n,r,hl,e⟩:=I.AS hH
 obtain⟨z2,its2,n2,r2,hl2,e2⟩:=I.AS hB
 have hsz:its.toArray.size+its2.toArray.size<=sizeLine:=by rw[List.size_toArray,List.size_toArray];omega
 have hlong:¬(!its.toArray.isEmpty&&Builtin.List.listTooLong (its.toArray.size+its2.toArray.size))=true:=by
  rw[Ck hsz,Bool.and_false]
  exact Bool.false_ne_true
 refine call_meets F.slot_list_extend ⟨_,e,rfl⟩ F.entry_list_extend (F.args_list_extend_2 _ _)
  (AutoSeq1.list_extend_list_list_0 l its.toArray n b its2.toArray n2 hlong (by rw[List.size_toArray];omega) (by omega)) ⟨e,e2,?_⟩
 refine⟨.ik,_,I.HJ (its':=its++its2) hH e (by simp) (r.append r2) ?_,rfl,q⟩
 rw[List.length_append]
 omega
noncomputable def K8:V->List V->Hp->VK->Prop:=fun x vs H Q=>∃l xs y,x=.ref l/\vs=[]/\H l=some (.lst xs)/\xs[xs.length-1]?=some y/\Q y (upd H l (.lst xs.dropLast))
theorem ya:K6 X "list.pop" K8:=by
 intro pins s σ H x vs v us Q I rx rv h
 obtain⟨l,xs,y,rfl,rfl,hH,hy,q⟩:=h
 cases rx
 have hus:=rv.zero
 subst hus
 obtain⟨z,its,n,r,hl,e⟩:=I.AS hH
 obtain⟨u,hu,ru⟩:=r.get hy
 have hy':its.toArray[its.toArray.size-1]?=some u:=by
  show its.toArray[its.length-1]?=some u
  rw[←Array.getElem?_toList,←hl]
  exact hu
 refine call_meets F.slot_list_pop ⟨_,e,rfl⟩ F.entry_list_pop (F.args_list_pop_1 _) (MeetsSeq.list_pop_last l its.toArray n u hy' (by rw[List.size_toArray];omega)) ⟨e,?_⟩
 refine⟨y,_,I.HJ (its':=its.dropLast) hH e ?_ r.dropLast ?_,ru,q⟩
 ·show its.toArray.eraseIdxIfInBounds (its.toArray.size-1)=its.dropLast.toArray
  rw[List.size_toArray,List.eraseIdxIfInBounds_toArray,x6]
 ·rw[List.length_dropLast]
  omega
noncomputable def K9:R2:=fun x y H Q=>∃l b xs zs,x=.ref l/\y=.ref b/\H l=some (.lst xs)/\H b=some (.lst zs)/\xs.length+zs.length<=sizeLine/\∀p,H p=none->Q (.ref p) (upd H p (.lst (xs++zs)))
theorem eR:j3 X (binaryOp .Add) K9:=by
 intro pins s σ H x y v u Q I rx ry h
 obtain⟨l,b,xs,zs,rfl,rfl,hH,hB,hz,q⟩:=h
 cases rx
 cases ry
 obtain⟨z,its,n,r,hl,e⟩:=I.AS hH
 obtain⟨z2,its2,n2,r2,hl2,e2⟩:=I.AS hB
 refine PySem.P.add_list e e2 ?_ (by rw[List.size_toArray,List.size_toArray];omega)
 have ea:its.toArray++its2.toArray=(its++its2).toArray:=by simp
 rw[ea]
 exact⟨.ref _,_,I.K7 (t':=s.toks) (r.append r2) (by rw[List.length_append];omega),rfl,q _ I.fresh⟩
end
section
variable {prog:Program}{w:World}{A:Around}{E:Value->Shared->Prop}{s:Shared}
end
section
variable {X:Cx}
end
end L2
namespace Att
open PySem PySem.W PySem.Calls PyProof.Rows
theorem pN{P:Params}{h:Heap}:∀(ns:List Int) (vs:List Value),WellAll P h vs (ns.map WData.int)->IntsAre vs ns:=by
 intro ns
 induction ns with
 |nil =>
  intro vs w
  rw[List.map_nil]at w
  cases w
  exact .nil
 |cons n ns ih =>
  intro vs w
  rw[List.map_cons]at w
  cases w with
  |cons a b =>
   cases a
   exact .cons _ _ (ih _ b)
theorem AU{l:OpenLaw}{n:Nat}(hn:l.most=some n){P:Params}{h:Heap}{args:List WData}{vals:List Value}
  (hpre:l.row.toRowW.claim.pre args=true) (hwl:WellAll P h vals args) :
  ∃a vs ns,vals=[Value.ref a]/\args=[WData.list (ns.map WData.int)]/\h.get? a=some {cls:=.type "list",data:=.seq vs.toArray}/\IntsAre vs ns/\ns.length<=n:=by
 have hsh:WShape.hasAll [] args [.list .int]=true:=(pre_splitW hpre).1
 have hc:l.pre.holds [] {args:=args}=true:=(pre_splitW hpre).2
 obtain⟨d,r,rfl,h1,h2⟩:=hasAllW_cons hsh
 obtain rfl:=hasAllW_nil h2
 obtain⟨xs,rfl,h3⟩:=hasW_list h1
 obtain⟨ns,rfl⟩:=items_int h3
 have hlen:ns.length<=n:=by
  unfold OpenLaw.pre at hc
  have h4:(WTm.not (.lt (.lit (.int (n:Int))) (.len (.arg 0)))).holds [] {args:=[.list (ns.map .int)]}=true:=by
   have h4:=(holds_andW hc).1
   rw[hn]at h4
   exact h4
  have h5:=condW_of h4 (w_not (w_lt w_lit (w_len_list (w_arg rfl))))
  rw[List.length_map]at h5
  refine Nat.le_of_not_lt fun q=>?_
  have q':(n:Int)<((ns.length:Nat):Int):=by omega
  first
   |(rw[decide_eq_true q']at h5;exact absurd h5 (by decide))
   |(simp at h5;omega)
 cases hwl with
 |cons w1 w2 =>
  cases w2
  cases w1 with
  |list ho hall=>exact⟨_,_,ns,rfl,rfl,ho,pN ns _ hall,hlen⟩
theorem AV(l:OpenLaw)(args:List WData):l.row.toRowW.claim.post args (.bool true) args=true :=
 postW_of (r:=l.row.toRowW) (X:=(true == true))
  (show WShape.has [] (.bool true) .bool=true by first|rfl|decide|simp[WShape.has,WShape.arms,WShape.armsAll])
  (show(WTm.eq .res (.lit (.bool true))).value [] {args:=args,res:=some (.bool true),after:=args}=some (.bool (true == true))from w_eq_bool (w_res rfl) w_lit) rfl
theorem vE{l:OpenLaw}{n:Nat}{q:Program}{loose:List Str}{XP:(Str->Option Value)->Heap->Prop}{YP:World->Heap->Prop}{d:DefRec}
  (hn:l.most=some n) (hdf:d.params.defaults=[])
  (call:∀(w:World) (s₀ s₁:Shared) (mg mb:Str->Option Value) (fa:Addr) (o:Obj) (pm cd doc:Value) (a:Addr) (vs:List Value) (ns:List Int),
   Ground q loose [] XP w s₀ mg mb s₁.heap->YP w s₁.heap ->
   s₁.heap.get? fa=some o->o.data=.func (docDef d.name d.params d.body d.scope pm cd doc)->s₁.heap.CodeRec cd d.name->mg d.name=some (.ref fa) ->
   s₁.heap.get? a=some {cls:=.type "list",data:=.seq vs.toArray}->IntsAre vs ns->ns.length<=n->s₁.gens=#[] ->
   codeAny (model l.prog w) callerA (.call (.ref fa) ⟨[.ref a],[]⟩) (fun r s'=>r=.ok (.ret (.bool true))/\OldK s₁.heap s'.heap/\s'.os=s₁.os/\AllBare s'.gens) s₁) :
  WalkO q loose XP YP l.row.toRowW d [] (fun f vs=>PySem.call f vs):=by
 intro w s₀ s₁ mg mb G Y fa o pm cd doc dV kV ho hd hcd hD hmg hg args vals as hpre hlay hrd hwl hlo
 obtain rfl:dV=.none:=Dflts.none hD hdf
 obtain rfl:kV=.none:=Dflts.noKw hD
 obtain⟨a,vs,ns,rfl,rfl,hobj,hints,hlen⟩:=AU hn hpre hwl
 refine enter_call (codeAny_mono (call w s₀ s₁ mg mb fa o pm cd doc a vs ns G Y ho (fd_plain hd) hcd hmg hobj hints hlen hg) fun r s' hq=>?_)
 obtain⟨rfl,h2,h3,h4⟩:=hq
 exact⟨.inl ⟨.bool true,.bool true,[],rfl,fun _=>rfl,.bool true,AV l _,fun _=>⟨List.Pairwise.nil,fun _ hm=>(nomatch hm)⟩⟩,h2,h3,h4⟩
section
variable {prog:Program}{w:World}{A:Around}{E:Value->Shared->Prop}{s:Shared}{K:Frag}
end
end Att
namespace L2
open PySem PySem.Spec PyProof.Rows
theorem sH:∀{vs:List Value}{ns:List Int},IntsAre vs ns->Vals (ns.map V.int) vs
 |_,_,.nil=>.nil
 |_,_,.cons n t h=>.cons ⟨t,rfl⟩ (sH h)
noncomputable def HK(H:Hp):Prop:=∀b,H b=none\/∃o xs,H b=some (.frz o (.lst xs))
theorem Cm{P:Program}{w:World}{K:PySem.W.Frag}{mg mb:Str->Option Value}{CX:zh}{k:Nat}{fa a:Addr}{fd:FuncData}{x:Str}{sp:Sp}{s₁:Shared}{vs:List Value}{ns:List Int}
  (KX:K.In s₁.heap) (hns:s₁.heap.Ns mainGlobals mg) (hb:s₁.heap.Ns builtinsNs mb) (hbb:∀x:Str,x≠"__name__"->mb x=bootBuiltins x) (hlim:s₁.heap.NoLimit) (hg:s₁.gens=#[])
  (ha:s₁.heap.get? a=some {cls:=.type "list",data:=.seq vs.toArray}) (hi:IntsAre vs ns) (hl:ns.length<=sizeLine) (hr:ia k callerA)
  (F:∀base:Heap,K.In base->base.Ns mainGlobals mg->bK P w K mg base CX k fa fd [x] sp) (hbind:∀(s:Shared) (u:Value),BindsTo s fd ⟨[u],[]⟩ [(x,u)])
  (hsp:∀H:Hp,HK H->bB K H a (ns.map V.int)->sp [.ref a] H (fun v _=>v=.bl true) fun _ _ _=>False)
  (hCX:∀H e s',CX [] H s₁ (fun _ _ _=>False) e s'->False) :
  codeAny (model P w) callerA (.call (.ref fa) ⟨[.ref a],[]⟩) (fun r s'=>r=.ok (.ret (.bool true))/\OldK s₁.heap s'.heap/\s'.os=s₁.os/\AllBare s'.gens) s₁:=by
 have rv:=sH hi
 have lenV:=hi.length
 -- from an abstract heap in which nothing but the script may be tracked
 have core:∀H:Hp,HK H->bB K H a (ns.map V.int)->ng P w H s₁.heap->(∀b,H b≠none->b=a)->(H a≠none->K.lookup a=none) ->
   codeAny (model P w) callerA (.call (.ref fa) ⟨[.ref a],[]⟩) (fun r s'=>r=.ok (.ret (.bool true))/\OldK s₁.heap s'.heap/\s'.os=s₁.os/\AllBare s'.gens) s₁:=by
  intro H hO hS hok hA hK
  have base_of:∀{b:Addr}{o:Obj},s₁.heap.get? b=some o->H b=none->(tN s₁.heap H).get? b=some o:=fun e n=>BQ e n
  have noA:∀{b:Addr}{o:Obj}{es:Array DictEntry}{ep:Nat},s₁.heap.get? b=some o->o.data=.dict es ep->H b=none:=fun{b o es ep} e d=>by
   cases q:H b with
   |none=>rfl
   |some u =>
    have e':b=a:=hA b (by rw[q];simp)
    subst e'
    rw[ha]at e;cases e
    have d':Data.seq vs.toArray _=Data.dict es ep:=d
    cases d'
  have nsK:∀{b:Addr}{m:Str->Option Value},s₁.heap.Ns b m->(tN s₁.heap H).Ns b m:=fun{b m} ⟨o,es,ep,e,d,r⟩=>⟨o,es,ep,base_of e (noA e d),d,r⟩
  have hKb:K.In (tN s₁.heap H):=fun b o e=>base_of (KX b o e) (by
   cases q:H b with
   |none=>rfl
   |some u =>
    have e':b=a:=hA b (by rw[q];simp)
    subst e'
    rw[hK (by rw[q];simp)]at e;cases e)
  have hM:Mod K mg (tN s₁.heap H):=⟨hKb,nsK hns,⟨mb,nsK hb,hbb⟩,let⟨mc,h1,h2⟩:=hlim;⟨mc,nsK h1,h2⟩⟩
  have e0:EE P w K mg (tN s₁.heap H) callerA [] s₁ H:=⟨rfl,hM,fun b o e=>Ew e,Nat.le_of_eq (AF _ _),trivial,fun b hb=>absurd (show b∈([]:List Addr)from hb) (by simp),hok,.of_eq hg⟩
  refine codeAny_mono ((F _ hKb (nsK hns)).run callerA [] s₁ H ⟨[.ref a],[]⟩ [.ref a] [.ref a] _ _ hr e0 (hbind s₁ (.ref a)) (.cons rfl .nil) (hsp H hO hS)) fun r s' h=>?_
  cases r with
  |error e=>exact(hCX H e s' h).elim
  |ok fl =>
   cases fl with
   |next=>exact False.elim h
   |brk=>exact False.elim h
   |cont=>exact False.elim h
   |ret u =>
    obtain⟨v,H',os,bare,un,hok',r',q⟩:=h
    have q':v=.bl true:=q
    subst q'
    obtain rfl:u=Value.bool true:=r'
    refine⟨rfl,OldK.of_keep fun b o e=>?_,os,bare⟩
    cases q:H b with
    |none=>exact un.keep b o e q (by intro z;exact absurd (show b∈([]:List Addr)from z) (by simp)) (by simp)
    |some u =>
     rcases hO b with z|⟨ob,xs,z⟩
     ·rw[q]at z;cases z
     ·have z2:=un.frzs b ob _ z
      obtain⟨e1,_⟩:=hok b _ z
      obtain⟨e2,_⟩:=hok' b _ z2
      rw[e]at e1;cases e1
      exact e2
 cases hk:K.lookup a with
 |some o =>
  -- the script is one of the module's own objects
  have e:=KX a o hk
  rw[ha]at e
  cases e
  refine core (fun _=>none) (fun _=>.inl rfl) (.inr ⟨_,vs.toArray,_,hk,rfl,rfl,rfl,by rw[List.size_toArray,lenV];exact hl,by simpa using rv⟩) (fun b u z=>by have z':(none:Option HO)=some u:=z;cases z') (fun b z=>absurd rfl z) fun z=>absurd rfl z
 |none =>
  refine core (fun b=>if b=a then some (.frz {cls:=.type "list",data:=.seq vs.toArray} (.lst (ns.map V.int)))else none) (fun b=>?_) (.inl (.inr ⟨{cls:=.type "list",data:=.seq vs.toArray},if_pos rfl⟩)) (fun b u z=>?_) (fun b z=>?_) fun _=>hk
  ·by_cases hb:b=a
   ·exact .inr ⟨_,_,if_pos hb⟩
   ·exact .inl (if_neg hb)
  ·by_cases hb:b=a
   ·have z':=(if_pos hb).symm.trans z
    cases z'
    subst hb
    exact⟨ha,by rw[List.length_map];exact hl,vs,_,rv,ha⟩
   ·have z':=(if_neg hb).symm.trans z
    cases z'
  ·by_cases hb:b=a
   ·exact hb
   ·exact absurd (if_neg hb) z
theorem EL{l:PySem.W.OpenLaw}{n k:Nat}{q:Program}{loose:List Str}{XP:(Str->Option Value)->Heap->Prop}{YP:World->Heap->Prop}{d:DefRec}{K:Params->PySem.W.Frag}{CX:World->zh}{sp:World->Sp}{x:Str}
  (hn:l.most=some n) (hn2:n<=sizeLine) (hdf:d.params.defaults=[]) (hr:ia k callerA)
  (hY:∀(w:World) (h:Heap),YP w h->(K w.params).In h)
  (F:∀(w:World) (mg:Str->Option Value) (fa:Addr) (h:Heap),(K w.params).In h->h.Ns mainGlobals mg->mg d.name=some (.ref fa) ->
   ∃fd:FuncData,(∀(s:Shared) (u:Value),BindsTo s fd ⟨[u],[]⟩ [(x,u)]) /\
    ∀base:Heap,(K w.params).In base->base.Ns mainGlobals mg->bK l.prog w (K w.params) mg base (CX w) k fa fd [x] (sp w))
  (hsp:∀(w:World) (H:Hp) (a:Addr) (ns:List Int),ns.length<=n->HK H->bB (K w.params) H a (ns.map V.int)->sp w [.ref a] H (fun v _=>v=.bl true) fun _ _ _=>False)
  (hCX:∀(w:World) (H:Hp) (s:Shared) (e:Value) (s':Shared),CX w [] H s (fun _ _ _=>False) e s'->False) :
  PySem.W.WalkO q loose XP YP l.row.toRowW d [] (fun f vs=>PySem.call f vs):=by
 refine Att.vE hn hdf fun w s₀ s₁ mg mb fa o pm cd doc a vs ns G Y ho hd hcd hmg hobj hints hlen hg=>?_
 have KX:=hY w _ Y
 obtain⟨fd,hb,hF⟩:=F w mg fa _ KX G.T.g hmg
 exact Cm KX G.T.g G.T.b G.T.builtins G.T.nolimit hg hobj hints (Nat.le_trans hlen hn2) hr hF hb (fun H hO hS=>hsp w H a ns hlen hO hS) fun H e s'=>hCX w H s₁ e s'
noncomputable def kY(s:Stmt):Arguments:=match s with
 |.FunctionDef _ a _ _ _ _ _ _ _ _=>a
 |_=>{posonlyargs:=[],args:=[],vararg:=none,kwonlyargs:=[],kw_defaults:=[],kwarg:=none,defaults:=[]}
noncomputable def eF(s:Stmt):List Stmt:=match s with
 |.FunctionDef _ _ b _ _ _ _ _ _ _=>b
 |_=>[]
noncomputable def ae(s:Stmt):Scope:=match s with
 |.FunctionDef _ _ _ _ _ _ sc _ _ _=>sc
 |_=>{kind:=.function,names:=[],isGenerator:=false,isCoroutine:=false}
noncomputable abbrev d8:zh:=fun _ _ _ _ _ _=>False
noncomputable abbrev E0:XK:=fun _ _ _=>False
theorem qy{X:Cx}:Passes d8 X E0:=fun _ _ _ _ _ _ _ h=>h.elim
structure eN(K:PySem.W.Frag) (x qual:Str) (st:Stmt) (f:Addr) (fd:FuncData):Prop where
 ex:∃(oc:Value) (od:Option Addr) (kV doc pm:Value) (an:Option Addr) (cdv ct:Value) (osl:Array (Option Value)),
  fd=PySem.W.fnOf x qual (kY st) (eF st) (ae st) .none kV doc pm an cdv ct/\K.lookup f=some ⟨oc,od,.func fd,osl⟩/\PySem.W.codeIn K cdv qual=true
 kp:PySem.W.keepIn K (.ref f)=true
section
variable {P:Program}{w:World}{K:PySem.W.Frag}{mg:Str->Option Value}{base:Heap}
theorem eN.ok{x qual:Str}{st:Stmt}{f:Addr}{fd:FuncData}{N ps:List Str}{k:Nat}{sp:Sp}(F:eN K x qual st f fd)(S:aH N ps (ae st))(len:∀vs H Q E,sp vs H Q E->vs.length=ps.length)
  (hbody:∀(cdv:Value) (A:Around) (outer:List Env) (s:Shared) (H:Hp) (vs:List V) (Q:VK) (E:XK),ia k (A.deeper (envOfC qual (ae st) s.heap.objs.size f cdv))->sp vs H Q E ->
   ∃t,vt (rP d8 P w K mg base N qual (ae st) f cdv A outer s H E).Ht (eF st) t/\t {nx:=fun _ H'=>Q .ik H',rt:=Q} (start N vs) H):bK P w K mg base d8 (k+1) f fd ps sp:=by
 obtain⟨oc,od,kV,doc,pm,an,cdv,ct,osl,rfl,lk,hcd⟩:=F.ex
 refine JC lk hcd S len fun A outer s H vs Q E hr hsp=>?_
 obtain⟨t,h,q⟩:=hbody cdv A outer s H vs Q E hr hsp
 exact⟨t,h.Ht,q⟩
theorem eN.binds{x qual:Str}{st:Stmt}{f:Addr}{fd:FuncData}{ps:List Str}(F:eN K x qual st f fd)
  (h:∀(kV doc pm:Value) (an:Option Addr) (cdv ct:Value) (us:List Value),us.length=ps.length->bindArgs (PySem.W.fnOf x qual (kY st) (eF st) (ae st) .none kV doc pm an cdv ct) ⟨us,[]⟩=pure (ps.zip us)):Binds K fd ps []:=by
 obtain⟨oc,od,kV,doc,pm,an,cdv,ct,osl,rfl,lk,hcd⟩:=F.ex
 exact .all (h kV doc pm an cdv ct)
end
theorem lQ{A:Around}{k:Nat}(hr:ia k A):A.units+1<cLine:=Nat.lt_of_le_of_lt (Nat.add_le_add_left (by decide:1<=64) _) hr.units
theorem kZ{n:Nat}(h:n<=1000):n<sizeLine:=Nat.lt_of_le_of_lt h (by decide)
section
variable {X:Cx}
theorem pv(i:Nat){x:Str}{pos:Pos}(hN:X.N[i]?=some x:=by rfl)(hv:Jh X.env.scope x:=by first|exact Or.inl rfl|exact Or.inr (Or.inl rfl)|exact Or.inr (Or.inr rfl))(hd:(x == ("__debug__":Str))=false:=by decide)
  (hcd:(x == ("__classdict__":Str))=false:=by decide):PE X (.Name x pos) (Hq i):=BS hN hv hd hcd
end
theorem La{A B:Prop}(h:A):if true=true then A else B:=by
 rw[if_pos rfl]
 exact h
theorem dG{c A B:Prop}[Decidable c](h1:c->A)(h2:¬c->B):if c then A else B:=by
 by_cases h:c
 ·rw[if_pos h]
  exact h1 h
 ·rw[if_neg h]
  exact h2 h
noncomputable def aL(H H':Hp):Prop:=∀b o,H b=some o->H' b=some o
theorem aL.refl(H:Hp):aL H H:=fun _ _ h=>h
theorem aL.trans{H H1 H2:Hp}(a:aL H H1)(b:aL H1 H2):aL H H2:=fun c o h=>b c o (a c o h)
theorem aL.free{H H':Hp}(e:aL H H'){l:Addr}(h:H' l=Option.none):H l=Option.none:=by
 cases q:H l with
 |none=>rfl
 |some o =>
  rw[e l o q]at h
  cases h
theorem aL.seq{K:PySem.W.Frag}{H H':Hp}{a:Addr}{xs:List V}(e:aL H H')(h:bB K H a xs):bB K H' a xs:=by
 rcases h with(h|⟨o,h⟩)|h
 ·exact .inl (.inl (e _ _ h))
 ·exact .inl (.inr ⟨o,e _ _ h⟩)
 ·exact .inr h
section
variable {κ:Type} [DecidableEq κ]
noncomputable def nG(kvs:List (κ×V))(k:κ):Option V:=(kvs.find? fun kv=>decide (kv.1=k)).map (·.2)
noncomputable def putK(kvs:List (κ×V))(k:κ)(v:V):List (κ×V) :=
 if(kvs.any fun kv=>decide (kv.1=k))=true then kvs.map (fun kv=>if kv.1=k then(kv.1,v)else kv)else kvs++[(k,v)]
theorem qz{p:κ×V}{r:List (κ×V)}{k:κ}(e:p.1=k):nG (p::r) k=some p.2:=by simp[nG,List.find?_cons,e]
theorem qA{p:κ×V}{r:List (κ×V)}{k:κ}(e:¬p.1=k):nG (p::r) k=nG r k:=by simp[nG,List.find?_cons,e]
theorem vF(k:κ):∀kvs:List (κ×V),(kvs.any fun kv=>decide (kv.1=k))=(nG kvs k).isSome
 | []=>rfl
 |p::r=>by
  rw[List.any_cons]
  by_cases e:p.1=k
  ·simp only[qz e,decide_eq_true e,Bool.true_or,Option.isSome_some]
  ·rw[qA e,decide_eq_false e,Bool.false_or];exact vF k r
theorem kA(kvs:List (κ×V))(k:κ)(v:V):(putK kvs k v).length<=kvs.length+1:=by
 unfold putK
 split
 ·rw[List.length_map];omega
 ·rw[List.length_append,List.length_cons,List.length_nil];omega
theorem mE.AW{o:Option V}{u:Option Value}(r:mE o u):o.isSome=u.isSome:=by
 cases o with
 |none=>cases u with
  |none=>rfl
  |some _=>exact(show False from r).elim
 |some _=>cases u with
  |none=>exact(show False from r).elim
  |some _=>rfl
theorem KV.val{kvs:List (κ×V)}{vs:List (κ×Value)}(r:KV kvs vs)(k:κ):mE (nG kvs k) (valueAt vs k):=by
 unfold KV at r
 induction r with
 |nil=>exact True.intro
 |@cons p q ps qs h t ih =>
  obtain⟨h1,h2⟩:=h
  by_cases e:p.1=k
  ·have e':q.1=k:=h1.symm.trans e
   have b:valueAt (q::qs) k=some q.2:=by simp[valueAt,List.find?_cons,e']
   rw[qz e,b];exact h2
  ·have e':¬q.1=k:=fun z=>e (h1.trans z)
   have b:valueAt (q::qs) k=valueAt qs k:=by simp[valueAt,List.find?_cons,e']
   rw[qA e,b];exact ih
theorem KV.any{kvs:List (κ×V)}{vs:List (κ×Value)}(r:KV kvs vs)(k:κ):(kvs.any fun kv=>decide (kv.1=k))=vs.any fun kv=>decide (kv.1=k):=by
 unfold KV at r
 induction r with
 |nil=>rfl
 |cons h t ih=>rw[List.any_cons,List.any_cons,ih,h.1]
theorem KV.repl{kvs:List (κ×V)}{vs:List (κ×Value)}(r:KV kvs vs)(k:κ){y:V}{u:Value}(ry:RelV y u) :
  KV (kvs.map fun kv=>if kv.1=k then(kv.1,y)else kv) (vs.map fun kv=>if kv.1=k then(kv.1,u)else kv):=by
 unfold KV at r⊢
 induction r with
 |nil=>exact .nil
 |@cons p q ps qs h t ih =>
  rw[List.map_cons,List.map_cons]
  refine .cons ?_ ih
  obtain⟨h1,h2⟩:=h
  by_cases e:p.1=k
  ·rw[if_pos e,if_pos (h1.symm.trans e)];exact⟨h1,ry⟩
  ·rw[if_neg e,if_neg (fun z=>e (h1.trans z))];exact⟨h1,h2⟩
theorem KV.put{kvs:List (κ×V)}{vs:List (κ×Value)}(r:KV kvs vs)(k:κ){y:V}{u:Value}(ry:RelV y u):KV (putK kvs k y) (stored vs k u):=by
 unfold putK stored
 rw[r.any k]
 by_cases e:(vs.any fun kv=>decide (kv.1=k))=true
 ·rw[if_pos e,if_pos e];exact r.repl k ry
 ·rw[if_neg e,if_neg e];exact Paired.snoc r ⟨rfl,ry⟩
theorem KV.length{kvs:List (κ×V)}{vs:List (κ×Value)}(r:KV kvs vs):kvs.length=vs.length:=Paired.length r
end
theorem zp{P:Program}{w:World}{k:Key}{u:Value}(r:RelV (kV k) u):(dH P w).is k u=true:=by
 cases k with
 |inl i=>obtain⟨t,e⟩:=(show ∃t,u=Value.int i t from r);subst e;exact vp P w i t
 |inr x=>obtain⟨t,e⟩:=(show ∃t,u=Value.str x t from r);subst e;exact vq P w x t
theorem sI{P:Program}{w:World}:∀{ks:List Key}{us:List Value},Vals (ks.map kV) us->ItemsAre (dH P w) ks us
 | [],_,r=>by rw[List.map_nil]at r;cases r;exact .nil
 |k::ks,_,r=>by
  rw[List.map_cons]at r
  cases r with
  |cons h t=>exact .cons (zp h) (sI t)
noncomputable abbrev KT(H:Hp):List (List Key×V)->List (List Key×Addr×Value)->Prop:=Paired fun p q=>p.1=q.1/\H q.2.1=some (.tup (p.1.map kV))/\RelV p.2 q.2.2
theorem KT.val{H:Hp}{kvs:List (List Key×V)}{xs:List (List Key×Addr×Value)}(r:KT H kvs xs)(k:List Key):mE (nG kvs k) ((atKey xs k).map (·.2)):=by
 induction r with
 |nil=>exact True.intro
 |@cons p q ps qs h t ih =>
  obtain⟨h1,_,h2⟩:=h
  by_cases e:p.1=k
  ·have e':q.1=k:=h1.symm.trans e
   have b:atKey (q::qs) k=some q.2:=by simp[atKey,List.find?_cons,e']
   rw[qz e,b];exact h2
  ·have e':¬q.1=k:=fun z=>e (h1.trans z)
   have b:atKey (q::qs) k=atKey qs k:=by simp[atKey,List.find?_cons,e']
   rw[qA e,b];exact ih
theorem KT.repl{H:Hp}{kvs:List (List Key×V)}{xs:List (List Key×Addr×Value)}(r:KT H kvs xs)(k:List Key){y:V}{u:Value}(ry:RelV y u) :
  KT H (kvs.map fun kv=>if kv.1=k then(kv.1,y)else kv) (xs.map (putAt k u)):=by
 induction r with
 |nil=>exact .nil
 |@cons p q ps qs h t ih =>
  rw[List.map_cons,List.map_cons]
  refine .cons ?_ ih
  obtain⟨h1,h2,h3⟩:=h
  unfold putAt
  by_cases e:p.1=k
  ·rw[if_pos e,if_pos (h1.symm.trans e)];exact⟨h1,h2,ry⟩
  ·rw[if_neg e,if_neg (fun z=>e (h1.trans z))];exact⟨h1,h2,h3⟩
theorem KT.put{H:Hp}{kvs:List (List Key×V)}{xs:List (List Key×Addr×Value)}(r:KT H kvs xs)(k:List Key){b:Addr}{y:V}{u:Value}(hb:H b=some (.tup (k.map kV)))(ry:RelV y u) :
  KT H (putK kvs k y) (storedH xs k b u):=by
 have e:(kvs.any fun kv=>decide (kv.1=k))=(atKey xs k).isSome:=by
  rw[vF,(r.val k).AW,Option.isSome_map]
 unfold putK storedH
 rw[e]
 by_cases q:(atKey xs k).isSome=true
 ·rw[if_pos q,if_pos q];exact r.repl k ry
 ·rw[if_neg q,if_neg q];exact Paired.snoc r ⟨rfl,hb,ry⟩
theorem KT.keeps{H H':Hp}{kvs:List (List Key×V)}{xs:List (List Key×Addr×Value)}(r:KT H kvs xs)(ht:∀b ys,H b=some (.tup ys)->H' b=some (.tup ys)):KT H' kvs xs :=
 Paired.Ho r fun _ _ z=>⟨z.1,ht _ _ z.2.1,z.2.2⟩
section
variable {P:Program}{w:World}{H:Hp}{h:Heap}{a:Addr}
theorem Gu{u:HO}(ok:ng P w H h)(e:Rd H a u):eS P w H h a u:=e.ok ok
theorem Cn{kvs:List (Key×V)}(ok:ng P w H h)(e:Rd H a (.dK kvs)):kvs.length<=sizeLine/\(a == sysModules)=false/\∃vs,KV kvs vs/\h.DictOf (dH P w) a vs :=
 show eS P w H h a (.dK kvs)from Gu ok e
theorem Gv{kvs:List (Key×V)}(ok:ng P w H h)(e:H a=some (.dK kvs)):kvs.length<=sizeLine/\(a == sysModules)=false/\∃vs,KV kvs vs/\h.DictOf (dH P w) a vs:=Cn ok (.inl e)
theorem yb{ks:List Key}(ok:ng P w H h)(e:H a=some (.tup (ks.map kV))):(tupleKind (dH P w)).is h ks a:=by
 obtain⟨_,its,r,⟨o,h1,h2,n,h3⟩,_⟩:=(show eS P w H h a (.tup (ks.map kV))from ok a _ e)
 exact⟨o,its.toArray,n,h1,h2,h3,by simpa using sI r⟩
theorem Co{kvs:List (List Key×V)}(ok:ng P w H h)(e:Rd H a (.dT kvs)):kvs.length<=sizeLine/\(a == sysModules)=false /\
  ∃xs,KT H kvs xs/\h.DictOfH (tupleKind (dH P w)) a xs:=by
 obtain⟨z,y,xs,r,o,es,ep,h1,h2,h3,h4,h5⟩:=(show eS P w H h a (.dT kvs)from Gu ok e)
 refine⟨z,y,xs,r,o,es,ep,h1,h2,h3,h4,fun x hx=>?_,h5⟩
 have all:∀{l:List (List Key×V)}{m:List (List Key×Addr×Value)},KT H l m->∀x∈m,(tupleKind (dH P w)).is h x.1 x.2.1:=by
  intro l m q
  induction q with
  |nil=>intro x hx;exact nomatch hx
  |@cons p q ps qs hq t ih =>
   intro x hx
   rcases List.mem_cons.mp hx with e|hx
   ·subst e
    exact yb ok (by rw[←hq.1];exact hq.2.1)
   ·exact ih x hx
 exact all r x hx
theorem JI{kvs:List (List Key×V)}(ok:ng P w H h)(e:H a=some (.dT kvs)):kvs.length<=sizeLine/\(a == sysModules)=false /\
  ∃xs,KT H kvs xs/\h.DictOfH (tupleKind (dH P w)) a xs:=Co ok (.inl e)
end
noncomputable def oN(H:Hp)(a:Addr)(y:V)(r:Option V):Prop :=
 (∃kvs k,Rd H a (.dK kvs)/\y=kV k/\r=nG kvs k)\/∃kvs k b,Rd H a (.dT kvs)/\y=.ref b/\H b=some (.tup (k.map kV))/\r=nG kvs k
noncomputable def yc(H:Hp)(a:Addr)(y v:V)(H':Hp):Prop :=
 (∃kvs k,H a=some (.dK kvs)/\y=kV k/\kvs.length<sizeLine/\H'=upd H a (.dK (putK kvs k v))) \/
 ∃kvs k b,H a=some (.dT kvs)/\y=.ref b/\H b=some (.tup (k.map kV))/\kvs.length<sizeLine/\H'=upd H a (.dT (putK kvs k v))
theorem oN.k{H:Hp}{a:Addr}{kvs:List (Key×V)}{k:Key}(e:H a=some (.dK kvs)):oN H a (kV k) (nG kvs k):=.inl ⟨kvs,k,.inl e,rfl,rfl⟩
theorem oN.t{H:Hp}{a b:Addr}{kvs:List (List Key×V)}{k:List Key}(e:H a=some (.dT kvs))(eb:H b=some (.tup (k.map kV))):oN H a (.ref b) (nG kvs k):=.inr ⟨kvs,k,b,.inl e,rfl,eb,rfl⟩
theorem yc.k{H:Hp}{a:Addr}{kvs:List (Key×V)}{k:Key}{v:V}(e:H a=some (.dK kvs))(hl:kvs.length<sizeLine):yc H a (kV k) v (upd H a (.dK (putK kvs k v))):=.inl ⟨kvs,k,e,rfl,hl,rfl⟩
theorem yc.t{H:Hp}{a b:Addr}{kvs:List (List Key×V)}{k:List Key}{v:V}(e:H a=some (.dT kvs))(eb:H b=some (.tup (k.map kV)))(hl:kvs.length<sizeLine) :
  yc H a (.ref b) v (upd H a (.dT (putK kvs k v))):=.inr ⟨kvs,k,b,e,rfl,eb,hl,rfl⟩
section
variable {X:Cx}{pins:List (Addr×Obj)}{σ:St}{H:Hp}{s:Shared}{a:Addr}{y v:V}{u r:Value}{o:Option V}{A:Around}{E:Value->Shared->Prop}
theorem Inv.big(I:Inv X pins σ H s):sysModules<s.heap.objs.size:=by
 have h:mainGlobals<s.heap.objs.size:=(I.mod.glob.keeps I.bk).lt
 exact Nat.lt_trans (by decide) h
theorem AX{Q:Value->Shared->Prop}(hu:A.units+1<cLine)(I:Inv X pins σ H s)(g:oN H a y (some v))(ry:RelV y u)(h:∀w' s',Inv X pins σ H s'->RelV v w'->Q w' s') :
  wpAny (model X.prog X.w) A (getItem (.ref a) u) Q E s:=by
 rcases g with⟨kvs,k,e,ey,l⟩|⟨kvs,k,b,e,ey,eb,l⟩
 ·subst ey
  obtain⟨z,hd,vs,rel,dd⟩:=Cn I.hok e
  obtain⟨w',hw,rw'⟩:=mE.some_of (v:=v) (o:=valueAt vs k) (by rw[l];exact rel.val k)
  exact wpAny_getItem_of (zp ry) dd.mapOf hw (h w' _ (I.tok _) rw')
 ·subst ey
  cases(show u=Value.ref b from ry)
  obtain⟨z,hd,xs,rel,dd⟩:=Co I.hok e
  obtain⟨w',hw,rw'⟩:=mE.some_of (v:=v) (o:=(atKey xs k).map (·.2)) (by rw[l];exact rel.val k)
  obtain⟨p,hp,hp2⟩:=Option.map_eq_some_iff.mp hw
  refine wpAny_getItem_heap (tupleKind_room_in1 hu) (yb I.hok eb) dd hp ?_
  rw[hp2]
  exact h w' _ (I.tok _) rw'
theorem tZ{h':Heap}{t':Nat}{ob:HO}(I:Inv X pins σ H s)(mu:Jg (H a))(hs:Heap.SameBut a s.heap h')(he:∃q,h'.get? a=some q)(new:eS X.prog X.w (upd H a ob) h' a ob) :
  Inv X pins σ (upd H a ob) {s with heap:=h',toks:=t'} :=
 I.write (x:=a) (e:=a) mu (.inl rfl) (fun b q hb z=>(hs.2 b hb).trans z) he new
theorem Cp{P:Program}{w:World}{H':Hp}{h':Heap}{kvs:List (Key×V)}{vs:List (Key×Value)}(z:kvs.length<=sizeLine)(hd:(a == sysModules)=false)(rel:KV kvs vs)(dd:h'.DictOf (dH P w) a vs) :
  eS P w H' h' a (.dK kvs):=⟨z,hd,vs,rel,dd⟩
theorem AY{H':Hp}{Q:Unit->Shared->Prop}(hu:A.units+1<cLine)(I:Inv X pins σ H s)(g:yc H a y v H')(ry:RelV y u)(rv:RelV v r)(h:∀s',Inv X pins σ H' s'->Q () s') :
  wpAny (model X.prog X.w) A (setItem (.ref a) u r) Q E s:=by
 rcases g with⟨kvs,k,e,ey,l,eH⟩|⟨kvs,k,b,e,ey,eb,l,eH⟩
 ·subst ey eH
  obtain⟨z,hd,vs,rel,dd⟩:=Gv I.hok e
  have hz:vs.length<=sizeLine:=by rw[←rel.length];exact z
  have hl:(putK kvs k v).length<=sizeLine:=by have:=kA kvs k v;omega
  refine wpAny_setItem_pairs (hsz:=hz) (zp ry) dd fun h' dd' hs=>h _ ?_
  have he:∃q,h'.get? a=some q:=let⟨q,_,_,hq,_⟩:=dd';⟨q,hq⟩
  exact tZ I (by rw[e];exact True.intro) hs he (Cp hl hd (rel.put k rv) dd')
 ·subst ey eH
  cases(show u=Value.ref b from ry)
  obtain⟨z,hd,xs,rel,dd⟩:=JI I.hok e
  have hz:xs.length<=sizeLine:=by rw[←Paired.length rel];exact z
  have hl:(putK kvs k v).length<=sizeLine:=by have:=kA kvs k v;omega
  refine wpAny_setItem_heap (hsz:=hz) (tupleKind_room_in1 hu) (yb I.hok eb) dd fun h' dd' hs=>h _ ?_
  obtain⟨q,es,ep,hq,h2,h3,h4,_,h5⟩:=dd'
  refine tZ I (by rw[e];exact True.intro) hs ⟨q,hq⟩ ⟨hl,hd,_,(rel.put k eb rv).keeps fun c ys ec=>?_,q,es,ep,hq,h2,h3,h4,h5⟩
  rw[ay (su ec e (fun z=>nomatch z))]
  exact ec
end
section
variable {X:Cx}{pins:List (Addr×Obj)}{σ:St}{H:Hp}{s:Shared}{a:Addr}{kvs:List (Key×V)}{k:Key}{u:Value}{A:Around}{E:Value->Shared->Prop}
end
noncomputable def EM(i:Expr):Prop:=∀ov iv,subscripted i false ov iv=operate [ov,iv] (getItem ov iv)
theorem zq{prog:Program}{w:World}{A:Around}{E:Value->Shared->Prop}{s:Shared}{env:Env}{value slice:Expr}{pos:Pos}{T id:String}{Q:Value->Shared->Prop}
  (hl:typeLookup (.type T) "__getitem__"=pure (some (.builtin id))) (hs:EM slice)
  (h:wpAny (model prog w) A (eval value env) (fun o s₁=>wpAny (model prog w) A (eval slice env) (fun i s₂=>s₂.TypeIs o T/\wpAny (model prog w) A (getItem o i) Q E s₂) E s₁) E s) :
  wpAny (model prog w) A (eval (.Subscript value slice pos) env) Q E s:=by
 refine Subscript_ (wpAny_mono h (fun o s₁ h₁=>wpAny_mono h₁ (fun i s₂ h₂=>?_) fun _ _ x=>x) fun _ _ x=>x)
 obtain⟨hT,h₂⟩:=h₂
 unfold subscriptTail
 refine wpAny_bind ?_
 rw[getitemInPython_of_ne hT.not_modules]
 refine wpAny_bind (wpAny_specialOf hT hl ?_)
 have fin:wpAny (model prog w) A (subscripted slice false o i) (fun r s₃=>wpAny (model prog w) A (letTemporaryGo value o r>>=fun _=>pure r) Q E s₃) E s₂:=by
  rw[hs o i]
  exact wpAny_operating (wpAny_mono h₂ (fun r s₃ h₃=>wpAny_bind (wpAny_letTemporaryGo (wpAny_pure h₃))) fun _ _ x=>x)
 first
  |exact wpAny_pure (wpAny_bind fin)
  |exact wpAny_bind (wpAny_pure (wpAny_bind fin))
  |exact wpAny_bind fin
theorem vG{X:Cx}{pins:List (Addr×Obj)}{σ:St}{H:Hp}{s:Shared}{a:Addr}{y:V}{o:Option V}(I:Inv X pins σ H s)(g:oN H a y o):s.TypeIs (.ref a) "dict":=by
 rcases g with⟨kvs,k,e,_,_⟩|⟨kvs,k,b,e,_,_,_⟩
 ·obtain⟨_,_,vs,_,dd⟩:=Cn I.hok e
  exact dd.typeIs
 ·obtain⟨_,_,xs,_,dd⟩:=Co I.hok e
  exact dd.typeIs
noncomputable def JJ(td ty:TE):TE:=fun σ H Q=>td σ H fun x H1=>ty σ H1 fun y H2=>∃a v,x=.ref a/\oN H2 a y (some v)/\Q v H2
noncomputable def JK(td ty tv:TE):TS:=fun D σ H=>tv σ H fun v H1=>td σ H1 fun x H2=>ty σ H2 fun y H3=>∃a H4,x=.ref a/\yc H3 a y v H4/\D.nx σ H4
section
variable {X:Cx}{o i e value:Expr}{pos pos' tpos:Pos}{td ty tv:TE}
theorem ie(hu:X.A.units+1<cLine)(ho:PE X o td)(hi:PE X i ty)(hs:EM i):PE X (.Subscript o i pos) (JJ td ty):=by
 intro pins s σ H Q I h
 refine zq PySem.F.slot_dict_getitem.lookup hs (cF (ho pins s σ H _ I h) fun u s1 ⟨x,H1,I1,rx,q1⟩=>cF (hi pins s1 σ H1 _ I1 q1) fun iv s2 ⟨y,H2,I2,ry,a,v,ex,g,q2⟩=>?_)
 subst ex
 obtain rfl:u=Value.ref a:=rx
 exact⟨vG I2 g,AX hu I2 g ry fun w' s3 I3 rw'=>⟨v,H2,I3,rw',q2⟩⟩
theorem EN(hu:X.A.units+1<cLine)(ho:PE X o td)(hi:PE X i ty)(hv:PE X value tv)(hs:swapsWith value (some (.Subscript o i pos')) pos.line X.env=pure false) :
  PS X (.Assign [.Subscript o i pos'] value pos) (JK td ty tv):=by
 intro pins s σ H D I h
 refine wpAny_Assign_Subscript (cF (hv pins s σ H _ I h) fun r s1 ⟨v,H1,I1,rv,q1⟩=>cF (ho pins s1 σ H1 _ I1 q1) fun u s2 ⟨x,H2,I2,rx,q2⟩=>cF (hi pins s2 σ H2 _ I2 q2) fun iv s3 ⟨y,H3,I3,ry,a,H4,ex,g,q3⟩=>?_) hs
 subst ex
 obtain rfl:u=Value.ref a:=rx
 exact AY hu I3 g ry rv fun s4 I4=>⟨σ,H4,I4,q3⟩
end
theorem Cq{P:Program}{w:World}{H:Hp}(h:Heap)(hb:sysModules<h.objs.size):eS P w H (h.push {cls:=.type "dict",data:=.dict #[]}) h.objs.size (.dK []) :=
 ⟨Nat.zero_le _,beq_eq_false_iff_ne.mpr (Ne.symm (Nat.ne_of_lt hb)),[],.nil,Heap.DictOf.new h⟩
section
variable {X:Cx}{pos:Pos}
end
noncomputable def yd:List (TE×TE)->St->Hp->(List (V×V)->Hp->Prop)->Prop
 | [],_,H,Q=>Q [] H
 |(tk,tv)::r,σ,H,Q=>tk σ H fun x H1=>tv σ H1 fun y H2=>yd r σ H2 fun ps H3=>Q ((x,y)::ps) H3
noncomputable abbrev VV:List (V×V)->List (Value×Value)->Prop:=Paired fun p q=>RelV p.1 q.1/\RelV p.2 q.2
noncomputable def Kq(X:Cx)(pos:Pos)(keys:List (Option Expr))(values:List Expr)(trs:List (TE×TE)):Prop :=
 ∀(pins:List (Addr×Obj)) (s:Shared) (σ:St) (H:Hp) (Q:List (V×V)->Hp->Prop),Inv X pins σ H s->yd trs σ H Q ->
  wpAny (model X.prog X.w) X.A (evalPairs (pairTrees keys values X.env pos)) (fun vs s'=>∃ps H',Inv X pins σ H' s'/\VV ps vs/\Q ps H') X.xe s
theorem zu{X:Cx}{pos:Pos}:Kq X pos [] [] []:=fun pins s σ H Q I h=>pairTrees_nil_walk ⟨[],H,I,.nil,h⟩
theorem kD{X:Cx}{pos:Pos}{k v:Expr}{ks:List (Option Expr)}{vs:List Expr}{tk tv:TE}{trs:List (TE×TE)}(hk:PE X k tk)(hv:PE X v tv)(hr:Kq X pos ks vs trs) :
  Kq X pos (some k::ks) (v::vs) ((tk,tv)::trs):=fun pins s σ H Q I h =>
 pairTrees_cons_walk (cF (hk pins s σ H _ I h) fun u s1 ⟨x,H1,I1,rx,q1⟩=>cF (hv pins s1 σ H1 _ I1 q1) fun w2 s2 ⟨y,H2,I2,ry,q2⟩ =>
  cF (hr pins s2 σ H2 _ I2 q2) fun ws s3 ⟨ps,H3,I3,rel,q3⟩=>⟨(x,y)::ps,H3,I3,.cons ⟨rx,ry⟩ rel,q3⟩)
noncomputable def mJ(kvs more:List (Key×V)):List (Key×V):=more.foldl (fun acc kv=>putK acc kv.1 kv.2) kvs
theorem KV.merge:∀{more:List (Key×V)}{rs:List (Key×Value)}{kvs:List (Key×V)}{vs:List (Key×Value)},KV more rs->KV kvs vs->KV (mJ kvs more) (merged vs rs):=by
 intro more rs kvs vs r
 unfold KV at r
 induction r generalizing kvs vs with
 |nil=>intro q;exact q
 |@cons p q ps qs h t ih =>
  intro r0
  have e:KV (putK kvs p.1 p.2) (stored vs q.1 q.2):=by
   have:=r0.put p.1 h.2
   rw[←h.1];exact this
  exact ih e
theorem lR:∀(more kvs:List (Key×V)),(mJ kvs more).length<=kvs.length+more.length
 | [],kvs=>by show kvs.length<=kvs.length+0;omega
 |p::r,kvs=>by
  have h1:=lR r (putK kvs p.1 p.2)
  have h2:=kA kvs p.1 p.2
  show(mJ (putK kvs p.1 p.2) r).length<=_
  rw[List.length_cons];omega
theorem qB{P:Program}{w:World}:∀{kvs:List (Key×V)}{ws:List (Value×Value)},VV (kvs.map fun kv=>(kV kv.1,kv.2)) ws->∃rs,Carries (dH P w) ws rs/\KV kvs rs
 | [],_,r=>by rw[List.map_nil]at r;cases r;exact⟨[],True.intro,.nil⟩
 |p::kvs,_,r=>by
  rw[List.map_cons]at r
  cases r with
  |@cons a b as bs h t =>
   obtain⟨rs,c,q⟩:=qB (P:=P) (w:=w) t
   obtain⟨b1,b2⟩:=b
   exact⟨(p.1,b2)::rs,⟨zp h.1,rfl,c⟩,.cons ⟨rfl,h.2⟩ q⟩
noncomputable def Cs(trs:List (TE×TE)):TE:=fun σ H Q=>∀p,H p=none->yd trs σ (upd H p (.dK [])) fun ps H2=>H2 p=some (.dK [])/\∃kvs:List (Key×V),ps=kvs.map (fun kv=>(kV kv.1,kv.2))/\kvs.length<=15/\Q (.ref p) (upd H2 p (.dK (mJ [] kvs)))
theorem zw{X:Cx}{pos:Pos}{keys:List (Option Expr)}{values:List Expr}{trs:List (TE×TE)}(h:Kq X pos keys values trs)(hall:keys.all (·.isSome)=true)(hl:keys.length=values.length)(h0:keys≠[])
  (h15:keys.length<=15):PE X (.Dict keys values pos) (Cs trs):=by
 intro pins s σ H Q I q
 have hn:=I.hok.fresh (Nat.le_refl s.heap.objs.size)
 have I1:=I.laid (a:=s.heap.objs.size) (o:=.dK []) (h':=s.heap.push {cls:=.type "dict",data:=.dict #[]}) (t':=s.toks) (fun _ _ q=>Heap.get?_push_of_some _ q) (Nat.le_refl _) (Cq s.heap I.big)
 refine wpAny_Dict_walk (knd:=dH X.prog X.w) hall hl h0 h15 (cF (h pins _ σ _ _ I1 (q _ hn)) fun ws s2 ⟨ps,H2,I2,rel,e,kvs,ep,lk,q2⟩=>?_)
 subst ep
 obtain⟨rs,c,rk⟩:=qB (P:=X.prog) (w:=X.w) rel
 obtain⟨z,hd,vs0,r0,dd⟩:=Gv I2.hok e
 cases r0
 refine⟨rs,c,dd,fun h' dd' hs=>⟨.ref s.heap.objs.size,_,?_,rfl,q2⟩⟩
 have hz:(mJ [] kvs).length<=sizeLine:=by
  have h1:=lR kvs []
  rw[List.length_nil]at h1
  rw[sizeLine_eq];omega
 have he:∃q,h'.get? s.heap.objs.size=some q:=let⟨q,_,_,hq,_⟩:=dd';⟨q,hq⟩
 exact tZ I2 (by rw[e];exact True.intro) hs he (Cp hz hd (rk.merge .nil) dd')
section
variable {X:Cx}{pins:List (Addr×Obj)}{σ:St}{H:Hp}{s:Shared}{a:Addr}{y d:V}{u r:Value}{o:Option V}{A:Around}{E:Value->Shared->Prop}
end
section
variable {X:Cx}{o e f:Expr}{apos cpos:Pos}{td ty tx:TE}
end
section
variable {X:Cx}{pins:List (Addr×Obj)}{σ:St}{H:Hp}{s:Shared}{a:Addr}{kvs:List (Key×V)}{A:Around}{E:Value->Shared->Prop}
end
section
variable {X:Cx}{pins:List (Addr×Obj)}{σ:St}{H:Hp}{s:Shared}{a:Addr}{y:V}{u:Value}{A:Around}{E:Value->Shared->Prop}
end
end L2
set_option maxHeartbeats 4000000
namespace L2
open PySem
inductive T where
 |s (x:Str)|i (n:Int)|n|t (xs:List T)
theorem T.induct{P:T->Prop}(hs:∀x,P (.s x))(hi:∀n,P (.i n))(hn:P .n)(ht:∀xs,(∀x∈xs,P x)->P (.t xs))(a:T):P a :=
 T.rec (motive_1:=P) (motive_2:=fun xs=>∀x∈xs,P x) hs hi hn ht (fun _ h=>nomatch h) (fun _ _ h1 h2 y hy=>by
  cases hy with
  |head=>exact h1
  |tail _ h=>exact h2 y h) a
mutual
noncomputable def T.dep:T->Nat
 |.t xs=>T.lN xs+1
 |_=>0
noncomputable def T.lN:List T->Nat
 | []=>0
 |x::r=>max x.dep (T.lN r)
end
theorem T.vH{xs:List T}{x:T}(h:x∈xs):x.dep<=T.lN xs:=by
 induction xs with
 |nil=>cases h
 |cons y r ih =>
  unfold T.lN
  cases h with
  |head=>exact Nat.le_max_left _ _
  |tail _ h=>exact Nat.le_trans (ih h) (Nat.le_max_right _ _)
theorem T.EO{xs:List T}{n:Nat}(h:∀x∈xs,x.dep<=n):T.lN xs<=n:=by
 induction xs with
 |nil=>exact Nat.zero_le _
 |cons y r ih =>
  unfold T.lN
  exact Nat.max_le.mpr ⟨h y (.head _),ih fun x hx=>h x (.tail _ hx)⟩
theorem T.vI{xs:List T}{n:Nat}(h:∀x∈xs,x.dep<=n):(T.t xs).dep<=n+1:=by
 unfold T.dep
 exact Nat.succ_le_succ (T.EO h)
mutual
noncomputable def T.eqB:T->T->Bool
 |.s x,.s y=>x == y
 |.i m,.i k=>m == k
 |.n,.n=>true
 |.t xs,.t ys=>T.pP xs ys
 |_,_=>false
noncomputable def T.pP:List T->List T->Bool
 | [],[]=>true
 |x::r,y::q=>x.eqB y&&T.pP r q
 |_,_=>false
end
theorem T.Ct{xs:List T}(h:∀x∈xs,∀y,T.eqB x y=true↔x=y):∀ys,T.pP xs ys=true↔xs=ys:=by
 induction xs with
 |nil=>intro ys;cases ys<;>simp[T.pP]
 |cons x r ih =>
  intro ys
  cases ys with
  |nil=>simp[T.pP]
  |cons y q =>
   unfold T.pP
   rw[Bool.and_eq_true,h x (.head _) y,ih (fun z hz=>h z (.tail _ hz)) q,List.cons.injEq]
theorem T.eqB_iff(a:T):∀b,T.eqB a b=true↔a=b:=by
 induction a using T.induct with
 |hs x=>intro b;cases b<;>simp[T.eqB]
 |hi x=>intro b;cases b<;>simp[T.eqB]
 |hn=>intro b;cases b<;>simp[T.eqB]
 |ht xs ih =>
  intro b
  cases b with
  |t ys=>unfold T.eqB;rw[T.Ct ih ys,T.t.injEq]
  |_=>simp[T.eqB]
theorem T.Cu(a:T):T.eqB a a=true:=(T.eqB_iff a a).mpr rfl
noncomputable instance:DecidableEq T:=fun a b=>if h:T.eqB a b=true then .isTrue ((T.eqB_iff a b).mp h)else .isFalse fun z=>h ((T.eqB_iff a b).mpr z)
theorem T.ER(a b:T):T.eqB a b=decide (a=b):=by rw[Bool.eq_iff_iff,decide_eq_true_iff,T.eqB_iff]
theorem T.mP:∀(xs ys:List T),T.pP xs ys=((List.range (min xs.length ys.length)).all (fun j=>T.eqB (xs.getD j .n) (ys.getD j .n))&&xs.length == ys.length)
 | [],[]=>rfl
 | [],y::q=>by simp[T.pP]
 |x::r,[]=>by simp[T.pP]
 |x::r,y::q=>by
  unfold T.pP
  rw[T.mP r q,List.length_cons,List.length_cons,Nat.succ_min_succ,List.range_succ_eq_map,List.all_cons,List.all_map]
  have e:(r.length+1 == q.length+1)=(r.length == q.length):=by simp
  rw[e,Bool.and_assoc]
  rfl
end L2
namespace L2
open PySem PySem.Spec PyProof.Rows
noncomputable def cD(env:Env):List (Str×NameKind)->List (Str×Addr)->List (Str×Addr)
 | [],cs=>cs
 |(n,k)::r,cs=>cD env r (if k == .free then(n,(env.cells.lookup n).getD 0)::cs else cs)
theorem lT{scope:Scope}{env:Env}(h:∀x∈scope.names,x.2=.free->∃c,env.cells.lookup x.1=some c):closureFor scope env=pure (cD env scope.names []):=by
 have go:∀(l:List (Str×NameKind)) (cs:List (Str×Addr)),(∀x∈l,x.2=.free->∃c,env.cells.lookup x.1=some c) ->
   (forIn l cs fun x r=>if(x.2 == NameKind.free)=true then do let a ←cellOf env x.1;pure (ForInStep.yield ((x.1,a)::r))else pure (ForInStep.yield r):Sem (List (Str×Addr)))=pure (cD env l cs):=by
  intro l
  induction l with
  |nil=>intro cs _;rfl
  |cons x r ih =>
   intro cs hx
   obtain⟨n,k⟩:=x
   rw[List.forIn_cons]
   by_cases hk:k=.free
   ·subst hk
    obtain⟨c,hc⟩:=hx (n,.free) List.mem_cons_self rfl
    have e:cellOf env n=pure c:=by unfold cellOf;rw[show env.cells.lookup n=some c from hc]
    simp only[beq_self_eq_true,if_true,e,pure_bind]
    rw[ih _ fun y hy=>hx y (List.mem_cons_of_mem _ hy)]
    unfold cD
    rw[show env.cells.lookup n=some c from hc]
    cases r<;>rfl
   ·have hb:(k == NameKind.free)=false:=by simpa using hk
    simp only[hb,Bool.false_eq_true,if_false,pure_bind]
    rw[ih _ fun y hy=>hx y (List.mem_cons_of_mem _ hy)]
    conv=>rhs;unfold cD
    simp only[hb,Bool.false_eq_true,if_false]
 simp only[closureFor]
 have g:=go scope.names [] h
 simp only[g]
 rfl
theorem ig{env:Env}:∀(l:List (Str×NameKind)) (cs:List (Str×Addr)),(∀x∈l,x.2=.free->∃c,env.cells.lookup x.1=some c)->(∀y c,cs.lookup y=some c->env.cells.lookup y=some c) ->
  ∀y c,(cD env l cs).lookup y=some c->env.cells.lookup y=some c
 | [],_,_,hc=>hc
 |(n,k)::r,cs,hl,hc=>by
  refine ig r _ (fun x hx=>hl x (List.mem_cons_of_mem _ hx)) fun y c e=>?_
  by_cases hk:(k == NameKind.free)=true
  ·rw[if_pos hk]at e
   rw[List.lookup_cons]at e
   by_cases hy:y=n
   ·subst hy
    simp only[beq_self_eq_true]at e
    obtain⟨c',hc'⟩:=hl (y,k) List.mem_cons_self (by simpa using hk)
    have hc'':env.cells.lookup y=some c':=hc'
    rw[hc'']at e⊢
    exact e
   ·have hb:(y == n)=false:=beq_eq_false_iff_ne.mpr hy
    rw[hb]at e
    exact hc y c e
  ·rw[if_neg hk]at e
   exact hc y c e
theorem lU{env:Env}:∀(l:List (Str×NameKind)) (cs:List (Str×Addr)) (y:Str),(∃c,cs.lookup y=some c)->∃c,(cD env l cs).lookup y=some c
 | [],_,_,h=>h
 |(n,k)::r,cs,y,h=>by
  refine lU r _ y ?_
  by_cases hk:(k == NameKind.free)=true
  ·rw[if_pos hk,List.lookup_cons]
   cases hb:(y == n)with
   |true=>exact⟨_,rfl⟩
   |false=>exact h
  ·rw[if_neg hk];exact h
theorem nH{env:Env}:∀(l:List (Str×NameKind)) (cs:List (Str×Addr)) (y:Str),(y,NameKind.free)∈l->∃c,(cD env l cs).lookup y=some c
 | [],_,_,h=>nomatch h
 |(n,k)::r,cs,y,h=>by
  rcases List.mem_cons.mp h with e|h
  ·have e1:y=n:=congrArg Prod.fst e
   have e2:NameKind.free=k:=congrArg Prod.snd e
   subst e1
   subst e2
   refine lU r _ y ⟨(env.cells.lookup y).getD 0,?_⟩
   rw[if_pos (by rfl),List.lookup_cons,beq_self_eq_true]
  ·exact nH r _ y h
theorem ja{env:Env}:∀{names:List (Str×NameKind)}{x:Str}{k':NameKind},(names.map fun(n,k)=>if(k == NameKind.free&&env.scope.kind == .function&&env.kindOf n == some .cell)then(n,NameKind.cell)else(n,k)).lookup x=some k' ->
  names.lookup x=some k'\/(k'=.cell/\names.lookup x=some .free)
 | [],_,_,h=>by simp at h
 |(n,k)::r,x,k',h=>by
  have ih:=@ja env r x k'
  change List.lookup x ((if(k == NameKind.free&&env.scope.kind == .function&&env.kindOf n == some .cell)=true then(n,NameKind.cell)else(n,k))::_)=_ at h
  cases hx:x == n with
  |true =>
   by_cases hc:(k == NameKind.free&&env.scope.kind == .function&&env.kindOf n == some .cell)=true
   ·rw[if_pos hc]at h
    simp only[List.lookup_cons,hx]at h
    cases h
    have hk:k=.free:=by simp at hc;exact hc.1.1
    subst hk
    exact .inr ⟨rfl,by simp only[List.lookup_cons,hx]⟩
   ·rw[if_neg hc]at h
    simp only[List.lookup_cons,hx]at h
    cases h
    exact .inl (by simp only[List.lookup_cons,hx])
  |false =>
   by_cases hc:(k == NameKind.free&&env.scope.kind == .function&&env.kindOf n == some .cell)=true
   ·rw[if_pos hc]at h
    simp only[List.lookup_cons,hx]at h⊢
    exact ih h
   ·rw[if_neg hc]at h
    simp only[List.lookup_cons,hx]at h⊢
    exact ih h
theorem nI{env:Env}:∀{names:List (Str×NameKind)}{x:Str},names.lookup x=some .free ->
  (names.map fun(n,k)=>if(k == NameKind.free&&env.scope.kind == .function&&env.kindOf n == some .cell)then(n,NameKind.cell)else(n,k)).lookup x=some .cell \/
  (names.map fun(n,k)=>if(k == NameKind.free&&env.scope.kind == .function&&env.kindOf n == some .cell)then(n,NameKind.cell)else(n,k)).lookup x=some .free
 | [],_,h=>by simp at h
 |(n,k)::r,x,h=>by
  have ih:=@nI env r x
  show List.lookup x ((if(k == NameKind.free&&env.scope.kind == .function&&env.kindOf n == some .cell)=true then(n,NameKind.cell)else(n,k))::_)=_\/List.lookup x ((if(k == NameKind.free&&env.scope.kind == .function&&env.kindOf n == some .cell)=true then(n,NameKind.cell)else(n,k))::_)=_
  cases hx:x == n with
  |true =>
   simp only[List.lookup_cons,hx]at h
   cases h
   by_cases hc:(NameKind.free == NameKind.free&&env.scope.kind == .function&&env.kindOf n == some .cell)=true
   ·rw[if_pos hc];exact .inl (by simp only[List.lookup_cons,hx])
   ·rw[if_neg hc];exact .inr (by simp only[List.lookup_cons,hx])
  |false =>
   simp only[List.lookup_cons,hx]at h
   by_cases hc:(k == NameKind.free&&env.scope.kind == .function&&env.kindOf n == some .cell)=true
   ·rw[if_pos hc];simp only[List.lookup_cons,hx];exact ih h
   ·rw[if_neg hc];simp only[List.lookup_cons,hx];exact ih h
section
variable {prog:Program}{w:World}{A:Around}{R:Result->Shared->Prop}{s:Shared}
theorem gw{elt target iter:Expr}{ifs:List Expr}{scope:Scope}{pos:Pos}{it acc:Value}{env:Env}{E:Value->Shared->Prop}(I:Nat->Shared->Prop)
  (turn:∀n s,I n s->wpAny (model prog w) A (pyNext it) (fun r s₁=>match r with
   |none=>R (.ok .next) s₁
   |some v=>wpAny (model prog w) A (letOwnedTupleGo target it v) (fun _ s₁'=>wpAny (model prog w) A (assign target env v) (fun _ s₂ =>
     wpAny (model prog w) A (forIn ifs true fun c r=>if r=true then do let ok ←isTrue c env (eval c env);pure (ForInStep.yield ok)else pure (ForInStep.yield r)) (fun ok s₃ =>
      if ok=true then wpAny (model prog w) A (eval elt env) (fun x s₄ =>
       wpAny (model prog w) A (call (.builtin "list.append") [acc,x]) (fun _ s₅=>∃m,m<n/\I m s₅) E s₄) E s₃
      else ∃m,m<n/\I m s₃) E s₂) E s₁') E s₁) E s)
  (hE:∀e s',E e s'->notedBy (model prog w) A env (fun e s'=>R (.error e) s') e s')
  (n:Nat) (h:I n s) :
  codeAny (model prog w) A (.compLoop (.ListComp elt [⟨target,iter,ifs,0⟩] scope pos) 0 it acc env) R s:=by
 refine codeAny_loop rfl I (fun n s hI=>?_) n h
 show wpAny _ A ((compTurn (.ListComp elt [⟨target,iter,ifs,0⟩] scope pos) 0 it acc env).onRaise (fun x=>do noteFrame x env;theTreesLotGoes x)) _ _ s
 refine wpAny_noted ?_
 rw[compTurn_list]
 refine wpAny_bind (wpAny_standAt (wpAny_bind (wpAny_mono (turn n s hI) (fun r s₁ h₁=>?_) hE)))
 cases r with
 |none=>exact wpAny_pure h₁
 |some v =>
  refine wpAny_bind (wpAny_mono h₁ (fun _ s₁' h₁'=>?_) hE)
  refine wpAny_bind (wpAny_mono h₁' (fun _ s₂ h₂=>wpAny_bind (wpAny_mono h₂ (fun ok s₃ h₃=>?_) hE)) hE)
  cases ok with
  |false=>exact wpAny_pure ⟨rfl,h₃⟩
  |true =>
   exact wpAny_bind (wpAny_bind (wpAny_mono h₃ (fun x s₄ h₄=>wpAny_bind (wpAny_mono h₄ (fun _ s₅ h₅=>wpAny_pure (wpAny_pure ⟨rfl,h₅⟩)) hE)) hE))
end
noncomputable def cR(X:Cx)(scope:Scope)(N':List Str)(fp:List Addr)(C:Addr)(s₂:Shared)(H₂:Hp):Cx where
 prog:=X.prog
 w:=X.w
 K:=X.K
 mg:=X.mg
 base:=X.base
 A:=X.A
 N:=N'
 s₀:=s₂
 H₀:=H₂
 env:=compEnvC scope (cD X.env scope.names []) C X.env
 outer:=X.stack
 stack:=X.stack
 ex:=fp
 fn:=fun _=>false
 calm:=X.calm
 pn:=[]
 xe:=fun _ _=>False
noncomputable def AZ(X:Cx)(ifs:List Expr)(t:TT):Prop :=
 ∀(pins:List (Addr×Obj)) (s:Shared) (σ:St) (H:Hp) (Q:Bool->Hp->Prop),Inv X pins σ H s->t σ H Q ->
  wpAny (model X.prog X.w) X.A (forIn ifs true fun c r=>if r=true then do let ok ←isTrue c X.env (eval c X.env);pure (ForInStep.yield ok)else pure (ForInStep.yield r)) (TP X pins σ Q) X.xe s
noncomputable def Gw:TT:=fun _ H Q=>Q true H
theorem eU{X:Cx}:AZ X [] Gw:=fun pins s σ H Q I h=>by
 rw[List.forIn_nil]
 exact wpAny_pure ⟨H,I,h⟩
theorem Cv{X:Cx}{c:Expr}{t:TT}(hc:PT X c t):AZ X [c] t:=fun pins s σ H Q I h=>by
 simp only[List.forIn_cons,List.forIn_nil,if_true]
 exact wpAny_bind (wpAny_bind (wpAny_mono (hc pins s σ H Q I h) (fun b s' hb=>wpAny_pure (wpAny_pure hb)) fun _ _ x=>x))
noncomputable def iV(own:Nat)(fr:List Nat)(σ:St):St:=List.replicate own none++fr.map fun j=>(σ[j]?).join
noncomputable def lV(J:It)(g:TG)(tt:TT)(te:TE)(Q:VK)(σ0:St)(H0:Hp):Prop:=∃W:Nat->Nat->St->List V->Hp->Prop,(∃m,W 0 m σ0 [] H0)/\∀i m σ' vs H,W i m σ' vs H ->
 (J.stop i H/\vs.length<=sizeLine/\∀p,H p=none->Q (.ref p) (upd H p (.lst vs))) \/
 (J.go i H/\vs.length<sizeLine/\∃N:St->List V->Hp->Prop,(∀σ2 vs2 H2,N σ2 vs2 H2->∃m',m' < m/\W (i+1) m' σ2 vs2 H2)/\∀x H',J.yld i H x H'->g x σ' H' fun σ2 H2=>tt σ2 H2 fun ok H3 =>
  if ok=true then te σ2 H3 fun v H4=>N σ2 (vs++[v]) H4 else N σ2 vs H3)
noncomputable def zx(own:Nat)(fr:List Nat)(wi:TI)(g:TG)(tt:TT)(te:TE):TE:=fun σ H Q=>wi σ H fun J H1=>lV J g tt te Q (iV own fr σ) H1
section
variable {X:Cx}{pins:List (Addr×Obj)}{σ:St}{H:Hp}{s:Shared}
theorem Cw{own:List Str}{fr:List Nat}(hl:σ.length=X.N.length){i:Nat}{x:Str}{v:V}(h1:(own++fr.map fun j=>X.N.getD j Str.empty)[i]?=some x)(h2:(iV own.length fr σ)[i]?=some (some v)) :
  ∃j∈fr,X.N[j]?=some x/\X.N.getD j Str.empty=x/\σ[j]?=some (some v):=by
 unfold iV at h2
 by_cases hi:i<own.length
 ·rw[List.getElem?_append_left (by simpa using hi),List.getElem?_replicate,if_pos hi]at h2
  cases h2
 ·rw[List.getElem?_append_right (by simpa using hi),List.length_replicate,List.getElem?_map]at h2
  rw[List.getElem?_append_right (by omega),List.getElem?_map]at h1
  cases e:fr[i-own.length]? with
  |none=>rw[e]at h2;cases h2
  |some j =>
   rw[e]at h1 h2
   simp only[Option.map_some,Option.some.injEq]at h1 h2
   have hj:σ[j]?=some (some v):=by
    cases q:σ[j]? with
    |none=>rw[q]at h2;cases h2
    |some o=>rw[q]at h2;exact congrArg some h2
   have hjl:j<X.N.length:=by rw[←hl];exact(List.getElem?_eq_some_iff.mp hj).1
   refine⟨j,List.mem_of_getElem? e,?_,h1,hj⟩
   rw[←h1,List.getD_eq_getElem?_getD,List.getElem?_eq_getElem hjl]
   rfl
theorem qC{scope:Scope}{own:List Str}{fr:List Nat}{fp:List Addr}{C:Addr}{h₁:Heap}{tk:Nat}{m:Str->Option Value}(I:Inv X pins σ H s)
  (hkind:scope.kind=.function) (hcell:∀x∈scope.names,x.2≠.cell) (hfr:∀x∈scope.names,x.2=.free->X.env.scope.names.lookup x.1=some .cell\/X.env.scope.names.lookup x.1=some .free)
  (hin:∀j∈fr,scope.names.lookup (X.N.getD j Str.empty)=some .free) (hC:s.heap.objs.size<=C) (hf:∀b∈fp,nv X pins H b) (hfo:∀b∈fp,b<s.heap.objs.size)
  (old:∀b o,s.heap.get? b=some o->h₁.get? b=some o) (hn:h₁.Ns C m) :
  Inv (cR X scope (own++fr.map fun j=>X.N.getD j Str.empty) fp C s H) [] (iV own.length fr σ) H {s with heap:=h₁,toks:=tk}:=by
 have hfree:∀x∈scope.names,x.2=.free->∃c,X.env.cells.lookup x.1=some c:=fun x hx e=>I.ok.has x.1 (hfr x hx e)
 have sub:∀y c,(cD X.env scope.names []).lookup y=some c->X.env.cells.lookup y=some c:=ig _ _ hfree (by intro y c e;simp at e)
 have hasF:∀y,scope.names.lookup y=some .free->∃c,(cD X.env scope.names []).lookup y=some c:=fun y e=>nH _ _ _ (PySem.mem_of_lookup e)
 refine⟨⟨I.ok.mod,?_,I.ok.glob,I.ok.blt,hC,fun x y c h1 h2=>I.ok.inj x y c (sub x c h1) (sub y c h2),fun x hx=>?_,(fun x c hx=>nomatch hx),I.ok.hd,I.ok.frames,.inl rfl,fun b hb=>?_,I.bs,Nat.le_trans I.ok.bsz I.sz,fun b o e hb=>?_,fun b hb z=>?_,I.stack,I.yX⟩,
  rfl,I.bare,Un.kept old,⟨m,hn,fun i x v h1 h2 h3=>?_⟩,fun x c e=>?_,I.hok.fresh hC,fun x c e=>I.freeC x c (sub x c e),fun p hp=>absurd (show p∈([]:List (Addr×Obj))from hp) (by simp),I.hok.kept old,?_⟩
 ·exact hkind
 ·have hx':(relabel scope X.env).names.lookup x=some .cell\/(relabel scope X.env).names.lookup x=some .free:=hx
  have hx2:scope.names.lookup x=some .free:=by
   rcases hx' with e|e
   ·rcases ja e with e|⟨_,e⟩
    ·exact absurd rfl (hcell _ (PySem.mem_of_lookup e))
    ·exact e
   ·rcases ja e with e|⟨z,_⟩
    ·exact e
    ·cases z
  exact hasF x hx2
 ·refine⟨Nat.ne_of_lt (Nat.lt_of_lt_of_le (hfo b hb) hC),fun x c e=>(hf b hb).2.2.2.2.1 x c (sub x c e)⟩
 ·rcases(hf b hb).2.2.2.1 with z|z
  ·exact I.ok.noex b o e z
  ·exact absurd (Nat.lt_of_lt_of_le (Heap.lt_size e) (Nat.le_trans I.ok.bsz z)) (Nat.lt_irrefl _)
 ·have hb':b∈fp:=hb
  have z':b∈frs X.stack:=z
  rcases List.mem_cons.mp (I.qk b z')with e|e
  ·exact(hf b hb').2.1 e
  ·exact(hf b hb').2.2.1 e
 ·obtain⟨j,hj,e1,e2,e3⟩:=Cw (own:=own) I.len h1 h2
  have hxf:scope.names.lookup x=some .free:=by rw[←e2];exact hin j hj
  have hk:=hfr _ (PySem.mem_of_lookup hxf) rfl
  obtain⟨m0,hn0,hl0⟩:=I.loc
  obtain⟨u,r,l⟩:=hl0 j x v e1 e3 (.inr hk)
  refine⟨u,r,?_⟩
  rcases l with⟨k,_⟩|⟨_,c,ec,z⟩
  ·have k':X.env.scope.names.lookup x=some .local:=k
   rcases hk with q|q<;>(rw[show X.env.scope.names.lookup x=_ from q]at k';cases k')
  ·obtain⟨c',ec'⟩:=hasF x hxf
   have:=sub x c' ec'
   rw[ec]at this
   cases this
   obtain⟨o,ho,hd⟩:=z
   exact .inr ⟨nI hxf,c,ec',o,old c o ho,hd⟩
 ·obtain⟨v,o,ho,hd⟩:=I.cell x c (sub x c e)
  exact⟨v,o,old c o ho,hd⟩
 ·show(iV own.length fr σ).length=(own++fr.map fun j=>X.N.getD j Str.empty).length
  simp[iV]
theorem qD{scope:Scope}{N':List Str}{fp:List Addr}{C D:Addr}{s':Shared}{H':Hp}{σ':St}{pins':List (Addr×Obj)}{vs:List V}{ys:Array Value}{h'':Heap}(I:Inv X pins σ H s)(hf:∀b∈fp,nv X pins H b)
  (I':Inv (cR X scope N' fp C s H) pins' σ' H' s') (hC:s.heap.objs.size<=C) (hD:s.heap.objs.size<=D) (hDC:D≠C) (hDn:H' D=none) (pl:s'.heap.PlainList D ys) (rv:Vals vs ys.toList) (hz:vs.length<=sizeLine) (hs:Heap.SameBut C s'.heap h'') :
  Inv X pins σ (upd H' D (.lst vs)) {s' with heap:=h''}:=by
 have un:Un (frs X.stack) fp H H' s.heap s'.heap:=I'.base
 have hCn:H' C=none:=I'.free
 have at':∀b,b≠C->h''.get? b=s'.heap.get? b:=fun b hb=>hs.2 b hb
 have neC:∀b o,s.heap.get? b=some o->b≠C:=fun b o e=>Nat.ne_of_lt (Nat.lt_of_lt_of_le (Heap.lt_size e) hC)
 have neD:∀b o,s.heap.get? b=some o->b≠D:=fun b o e=>Nat.ne_of_lt (Nat.lt_of_lt_of_le (Heap.lt_size e) hD)
 have okHD:∀b u,H b=some u->b≠D:=fun b u e=>Nat.ne_of_lt (Nat.lt_of_lt_of_le (I.hok.lt e) hD)
 have un':Un (frs X.stack) fp H (upd H' D (.lst vs)) s.heap h'':=by
  refine⟨fun b o e n h1 h2=>?_,fun b o e n h1 h2=>?_,fun b o e n h2=>?_,fun b o e h2=>?_,fun b xs e=>?_,fun b o u e=>?_,fun b ps e=>?_⟩
  ·rw[at' b (neC b o e)];exact un.keep b o e n h1 h2
  ·rw[at' b (neC b o e)];exact un.slot b o e n h1 h2
  ·rw[ay (neD b o e)];exact un.free b o e n h2
  ·rw[at' b (neC b o e)];exact un.there b o e h2
  ·rw[ay (okHD b _ e)];exact un.tups b xs e
  ·rw[ay (okHD b _ e)];exact un.frzs b o u e
  ·rw[ay (okHD b _ e)];exact un.tbls b ps e
 have hok:ng X.prog X.w (upd H' D (.lst vs)) h'':=fun b u e=>by
  by_cases hb:b=D
  ·subst hb
   rw[aa]at e
   cases e
   obtain⟨n,ho⟩:=pl
   refine⟨hz,ys.toList,n,rv,?_⟩
   rw[at' b hDC]
   simpa using ho
  ·rw[ay hb]at e
   refine(I'.hok b u e).stay (fun c v hc q=>?_) (fun c q=>?_) fun c xs q=>?_
   ·rw[at' c ?_];exact q
    rintro rfl
    rcases hc with z|z
    ·rw[←z,hCn]at e;cases e
    ·rw[hCn]at z;cases z
   ·rw[ay (fun z=>by rw[z,hDn]at q;cases q)];exact q
   ·rw[ay (fun z=>by rw[z,hDn]at q;cases q)];exact q
 exact I.Ji (s':={s' with heap:=h''}) (ch:=fp) I'.os un' hok I'.bare fun b hb=>⟨(hf b hb).2.2.2.1,(hf b hb).2.1,(hf b hb).2.2.2.2.1,(hf b hb).2.2.2.2.2⟩
end
section
variable {X:Cx}
theorem ES{elt iter tg:Expr}{ifs:List Expr}{scope:Scope}{pos:Pos}{wi:TI}{g:TG}{tt:TT}{te:TE}(own:List Str)(fr:List Nat)(hc:X.calm=true)
  (hkind:scope.kind=.function) (hcell:∀x∈scope.names,x.2≠.cell) (hnames:∀x∈scope.names,x.2=.local->scope.names.lookup x.1=some .local)
  (hfr:∀x∈scope.names,x.2=.free->X.env.scope.names.lookup x.1=some .cell\/X.env.scope.names.lookup x.1=some .free)
  (hin:∀j∈fr,scope.names.lookup (X.N.getD j Str.empty)=some .free)
  (hi:PI X tg iter wi) (hg:∀fp C s H,PG (cR X scope (own++fr.map fun j=>X.N.getD j Str.empty) fp C s H) tg g)
  (ht:∀fp C s H,AZ (cR X scope (own++fr.map fun j=>X.N.getD j Str.empty) fp C s H) ifs tt)
  (he:∀fp C s H,PE (cR X scope (own++fr.map fun j=>X.N.getD j Str.empty) fp C s H) elt te)
  (hs:∀x,foldedSetIterable iter X.env x=pure x:=by intro _;rfl):PE X (.ListComp elt [⟨tg,iter,ifs,0⟩] scope pos) (zx own.length fr wi g tt te):=by
 intro pins s σ H Q I h
 rw[eval_ListComp]
 have hfree:∀x∈scope.names,x.2=.free->∃c,X.env.cells.lookup x.1=some c:=fun x hx e=>I.ok.has x.1 (hfr x hx e)
 refine wpAny_comprehension_free (use:=none) rfl hs (lT hfree) hkind hnames ?_
 refine cF (hi pins s σ H _ I h) fun v s1 h1=>cF h1 fun itv s2 h2=>?_
 obtain⟨it,fp,tn,J,H2,e,I2,T,st2,f2,W,⟨m0,w0⟩,turn⟩:=h2
 subst e
 have hfo:∀b∈fp,b<s2.heap.objs.size:=fun b hb=>by obtain⟨o,e,_⟩:=T.obj 0 _ st2 b hb;exact Heap.lt_size e
 refine wpAny_newObj_type (wpAny_newFunctionEnv hcell (by intro y hy;simp at hy) (fun h₁ hns₁ hsb₁=>?_) hkind)
 dsimp only at hns₁ hsb₁⊢
 generalize hH2:s2.heap.push {cls:=.type "list",dict:=none,data:=.seq ([]:List Value).toArray}=G2 at hns₁ hsb₁⊢
 have hC:G2.objs.size=s2.heap.objs.size+1:=by rw[←hH2,Heap.size_push]
 have hDC:s2.heap.objs.size≠G2.objs.size:=by rw[hC];exact Nat.ne_of_lt (Nat.lt_succ_self _)
 have hCle:s2.heap.objs.size<=G2.objs.size:=by rw[hC];exact Nat.le_succ _
 have old:∀b o,s2.heap.get? b=some o->h₁.get? b=some o:=fun b o e=>hsb₁.extBut b o (by rw[hC];exact Nat.ne_of_lt (Nat.lt_succ_of_lt (Heap.lt_size e))) (Heap.get?_push_of_some _ (hH2▸Heap.get?_push_of_some _ e))
 have hacc:h₁.PlainList s2.heap.objs.size #[]:=⟨_,hsb₁.extBut _ _ hDC (Heap.get?_push_of_some _ (hH2▸Heap.get?_push_size _ rfl))⟩
 have I3:Inv (cR X scope (own++fr.map fun j=>X.N.getD j Str.empty) fp G2.objs.size s2 H2) [] (iV own.length fr σ) H2 {s2 with heap:=h₁,toks:=s2.toks+([]:List (Str×Value)).length} :=
  qC I2 hkind hcell hfr hin hCle f2 hfo old hns₁
 have st3:tn 0 h₁:=T.keep 0 _ _ st2 fun b _ o e=>old b o e
 have hDf:s2.heap.objs.size∉fp:=fun hm=>Nat.lt_irrefl _ (hfo _ hm)
 have hDn2:H2 s2.heap.objs.size=none:=I2.hok.fresh (Nat.le_refl _)
 have sub:∀y c,(cD X.env scope.names []).lookup y=some c->X.env.cells.lookup y=some c:=ig _ _ hfree (by intro y c e;simp at e)
 have cellD:∀y c,(cD X.env scope.names []).lookup y=some c->c≠s2.heap.objs.size:=fun y c e=>by
  obtain⟨_,o,ho,_⟩:=I2.cell y c (sub y c e)
  exact Nat.ne_of_lt (Heap.lt_size ho)
 have Dfs:s2.heap.objs.size∉frs X.stack:=fun z=>by
  rcases List.mem_cons.mp (I2.qk _ z)with e|e
  ·exact absurd I2.lt (by rw[←e];exact Nat.lt_irrefl _)
  ·exact I2.Ex (Nat.le_refl _) e
 -- the iterator's records,in the block's context
 have stat:∀{H':Hp}{pl:List (Addr×Obj)},(∀b∈fp,H' b=none)->(∀p∈pl,p.1=s2.heap.objs.size)->∀b∈fp,nv (cR X scope (own++fr.map fun j=>X.N.getD j Str.empty) fp G2.objs.size s2 H2) pl H' b:=fun{H' pl} hn hp b hb=>by
  refine⟨hn b hb,(I3.ok.exf b hb).1,I3.ok.exfs b hb,.inl hb,(I3.ok.exf b hb).2,fun p hpp z=>?_⟩
  have hpp':p∈pl:=by simpa[cR]using hpp
  exact hDf (by rw[←hp p hpp',z];exact hb)
 have pinD:∀{σ':St}{H':Hp}{s':Shared}{ys:Array Value}{n:Nat},Inv (cR X scope (own++fr.map fun j=>X.N.getD j Str.empty) fp G2.objs.size s2 H2) [] σ' H' s'->H' s2.heap.objs.size=none->s'.heap.get? s2.heap.objs.size=some {cls:=.type "list",data:=.seq ys n} ->
   Inv (cR X scope (own++fr.map fun j=>X.N.getD j Str.empty) fp G2.objs.size s2 H2) [(s2.heap.objs.size,{cls:=.type "list",data:=.seq ys n})] σ' H' s':=fun{σ' H' s' ys n} J hn e=>J.gn fun p hp=>by
  have e':p=(s2.heap.objs.size,{cls:=.type "list",data:=.seq ys n}):=by simpa using hp
  subst e'
  exact⟨e,hn,hDC,Dfs,fun v z=>nomatch z⟩
 have loop:codeAny (model X.prog X.w) X.A (.compLoop (.ListComp elt [⟨tg,iter,ifs,0⟩] scope pos) 0 (.ref it) (.ref s2.heap.objs.size) (compEnvC scope (cD X.env scope.names []) G2.objs.size X.env))
   (compPost (model X.prog X.w) X.A X.xe none (EP X pins σ Q) (.ref s2.heap.objs.size) G2.objs.size) {s2 with heap:=h₁,toks:=s2.toks+([]:List (Str×Value)).length}:=by
  refine gw (E:=fun _ _=>False) (fun n s'=>∃i σ' H' vs ys,Inv (cR X scope (own++fr.map fun j=>X.N.getD j Str.empty) fp G2.objs.size s2 H2) [] σ' H' s'/\tn i s'.heap/\(∀b∈fp,H' b=none)/\H' s2.heap.objs.size=none/\s'.heap.PlainList s2.heap.objs.size ys/\Vals vs ys.toList/\W i n σ' vs H')
   ?_ (fun _ _ z=>z.elim) m0 ⟨0,_,H2,[],#[],I3,st3,fun b hb=>(f2 b hb).1,hDn2,hacc,.nil,w0⟩
  rintro n s3 ⟨i,σ3,H3,vs,ys,J3,st3,fr3,dn3,⟨pn,pl3⟩,rv,w3⟩
  have J3':=pinD J3 dn3 pl3
  have hpins:∀p∈[(s2.heap.objs.size,({cls:=.type "list",data:=.seq ys pn}:Obj))],p.1=s2.heap.objs.size:=fun p hp=>by
   have e':p=(s2.heap.objs.size,{cls:=.type "list",data:=.seq ys pn}):=by simpa using hp
   rw[e']
  rcases turn i n σ3 vs H3 w3 with⟨stop,hz,q⟩|⟨go,hz,N,hN,step⟩
  ·refine cF (T.done (cR X scope (own++fr.map fun j=>X.N.getD j Str.empty) fp G2.objs.size s2 H2) rfl rfl rfl hc i _ s3 σ3 H3 (fun _ _=>False) J3' (stat fr3 hpins) st3 stop) fun r s4 ⟨hr,J4⟩=>?_
   subst hr
   obtain⟨m4,hn4,_⟩:=id J4.loc
   refine⟨m4,hn4,fun h' hs'=>?_⟩
   have e4:s4.heap.get? s2.heap.objs.size=some {cls:=.type "list",data:=.seq ys pn}:=(J4.pin (s2.heap.objs.size,{cls:=.type "list",data:=.seq ys pn}) (List.mem_append_right _ (by simp))).1
   exact⟨.ref s2.heap.objs.size,_,qD I2 f2 J4 hCle (Nat.le_refl _) hDC dn3 ⟨pn,e4⟩ rv hz hs',rfl,q _ dn3⟩
  ·refine cF (T.item (cR X scope (own++fr.map fun j=>X.N.getD j Str.empty) fp G2.objs.size s2 H2) rfl rfl rfl hc i _ s3 σ3 H3 (fun _ _=>False) J3' (stat fr3 hpins) st3 go) fun r s4 ⟨u,hr,h4⟩=>?_
   subst hr
   refine cF h4 fun _ s5 ⟨x,H5,J5,r5,y5,st5,fr5⟩=>?_
   have J5':=J5.pinned (stat fr5 hpins) (T.obj _ _ st5)
   refine cF (hg fp _ s2 H2 _ s5 σ3 H5 x u _ J5' r5 (step x H5 y5)) fun _ s6 ⟨σ6,H6,J6,q6⟩=>?_
   refine cF (ht fp _ s2 H2 _ s6 σ6 H6 _ J6 q6) fun ok s7 ⟨H7,J7,q7⟩=>?_
   -- what stood pinned through the turn
   have after:∀{s8:Shared}{H8:Hp},Inv (cR X scope (own++fr.map fun j=>X.N.getD j Str.empty) fp G2.objs.size s2 H2) ([(s2.heap.objs.size,({cls:=.type "list",data:=.seq ys pn}:Obj))]++oH fp s5.heap) σ6 H8 s8 ->
     tn (i+1) s8.heap/\(∀b∈fp,H8 b=none)/\H8 s2.heap.objs.size=none/\s8.heap.get? s2.heap.objs.size=some {cls:=.type "list",data:=.seq ys pn}:=fun{s8 H8} J8=>by
    refine⟨T.keep _ _ _ st5 fun b hb o e=>(J8.pin (b,o) (List.mem_append_right _ (List.mem_append_right _ (gc hb e)))).1,fun b hb=>?_,?_,?_⟩
    ·obtain⟨o,e,d⟩:=T.obj _ _ st5 b hb
     exact(J8.pin (b,o) (List.mem_append_right _ (List.mem_append_right _ (gc hb e)))).2.1
    ·exact(J8.pin (s2.heap.objs.size,{cls:=.type "list",data:=.seq ys pn}) (List.mem_append_right _ (List.mem_append_left _ (by simp)))).2.1
    ·exact(J8.pin (s2.heap.objs.size,{cls:=.type "list",data:=.seq ys pn}) (List.mem_append_right _ (List.mem_append_left _ (by simp)))).1
   cases ok with
   |false =>
    obtain⟨m',hm,w7⟩:=hN _ _ _ q7
    obtain⟨a1,a2,a3,a4⟩:=after J7
    exact⟨m',hm,i+1,σ6,H7,vs,ys,J7.gn (fun p hp=>absurd hp (by simp)),a1,a2,a3,⟨pn,a4⟩,rv,w7⟩
   |true =>
    refine cF (he fp _ s2 H2 _ s7 σ6 H7 _ J7 q7) fun y s8 ⟨v8,H8,J8,r8,n8⟩=>?_
    obtain⟨m',hm,w8⟩:=hN _ _ _ n8
    obtain⟨a1,a2,a3,a4⟩:=after J8
    have J9:Inv (cR X scope (own++fr.map fun j=>X.N.getD j Str.empty) fp G2.objs.size s2 H2) [] σ6 H8 s8:=J8.gn (fun p hp=>absurd hp (by simp))
    have hys:ys.size<=sizeLine:=by
     have e1:vs.length=ys.toList.length:=rv.length
     have e2:ys.toList.length=ys.size:=by simp
     omega
    refine wpAny_list_append_plain (hsz:=hys) ⟨pn,a4⟩ fun h₅ hl₅ hs₅=>?_
    refine⟨m',hm,i+1,σ6,H8,vs++[v8],ys.push y,J9.turned (t':=s8.toks) (it:=s2.heap.objs.size) (fun b o hb e=>by rw[hs₅.2 b hb];exact e) a3 hDC (.inr (Nat.le_refl _)) cellD (fun p hp=>absurd (show p∈([]:List (Addr×Obj))from hp) (by simp)),
     T.keep _ _ _ a1 fun b hb o e=>(hs₅.2 b (fun z=>hDf (z▸hb))).trans e,a2,a3,hl₅,?_,w8⟩
    have:Vals (vs++[v8]) (ys.toList++[y]):=rv.append (.cons r8 .nil)
    simpa using this
 exact codeAny_compStart_list loop (T.self X.A 0 _ _ _ st3 loop)
end
noncomputable def t9(scope sc:Scope)(N0:List Str)(fr:List Nat):Bool :=
 scope.kind == .function&&scope.names.all (fun x=>x.2 != .cell&&(x.2 != .local||scope.names.lookup x.1 == some .local)&&(x.2 != .free||sc.names.lookup x.1 == some .cell||sc.names.lookup x.1 == some .free)) &&
  fr.all (fun j=>scope.names.lookup (N0.getD j Str.empty) == some .free)
theorem fO{X:Cx}{elt iter tg:Expr}{ifs:List Expr}{scope:Scope}{pos:Pos}{wi:TI}{g:TG}{tt:TT}{te:TE}(sc:Scope)(N0 own:List Str)(fr:List Nat)(hc:X.calm=true)(hsc:X.env.scope=sc)(hN:X.N=N0)
  (ok:t9 scope sc N0 fr=true) (hi:PI X tg iter wi) (hg:∀fp C s H,PG (cR X scope (own++fr.map fun j=>N0.getD j Str.empty) fp C s H) tg g)
  (ht:∀fp C s H,AZ (cR X scope (own++fr.map fun j=>N0.getD j Str.empty) fp C s H) ifs tt)
  (he:∀fp C s H,PE (cR X scope (own++fr.map fun j=>N0.getD j Str.empty) fp C s H) elt te)
  (hs:∀x,foldedSetIterable iter X.env x=pure x:=by intro _;rfl):PE X (.ListComp elt [⟨tg,iter,ifs,0⟩] scope pos) (zx own.length fr wi g tt te):=by
 subst hsc hN
 unfold t9 at ok
 simp only[Bool.and_eq_true,List.all_eq_true,bne_iff_ne,beq_iff_eq,Bool.or_eq_true]at ok
 obtain⟨⟨k1,k2⟩,k3⟩:=ok
 refine ES own fr hc k1 (fun x hx=>(k2 x hx).1.1) (fun x hx e=>?_) (fun x hx e=>?_) (fun j hj=>k3 j hj) hi hg ht he hs
 ·rcases(k2 x hx).1.2 with z|z
  ·exact absurd e z
  ·exact z
 ·rcases(k2 x hx).2 with(z|z)|z
  ·exact absurd e z
  ·exact .inl z
  ·exact .inr z
section
variable {g:TG}{tt:TT}{te:TE}{Q:VK}{σ0:St}{H0:Hp}
theorem nJ{J:It}(n:Nat)(Pv:Nat->St->List V->Hp->Prop)(h0:Pv 0 σ0 [] H0)(hlen:∀i σ vs H,i<=n->Pv i σ vs H->vs.length<=i)(hn:n<=sizeLine)(hgo:∀i σ vs H,i<n->Pv i σ vs H->J.go i H)(hst:∀σ vs H,Pv n σ vs H->J.stop n H)
  (hs:∀i σ vs H x H',i<n->Pv i σ vs H->J.yld i H x H'->g x σ H' fun σ2 H2=>tt σ2 H2 fun ok H3=>if ok=true then te σ2 H3 fun v H4=>Pv (i+1) σ2 (vs++[v]) H4 else Pv (i+1) σ2 vs H3)
  (hd:∀σ vs H,Pv n σ vs H->∀p,H p=none->Q (.ref p) (upd H p (.lst vs))):lV J g tt te Q σ0 H0:=by
 refine⟨fun i m σ vs H=>m=n-i/\i<=n/\Pv i σ vs H,⟨n,by simp,Nat.zero_le _,h0⟩,?_⟩
 rintro i m σ vs H ⟨rfl,hi,p⟩
 have hv:=hlen i σ vs H hi p
 by_cases hlt:i<n
 ·exact .inr ⟨hgo i σ vs H hlt p,by omega,Pv (i+1),fun σ2 vs2 H2 q=>⟨n - (i+1),by omega,rfl,hlt,q⟩,fun x H' y=>hs i σ vs H x H' hlt p y⟩
 ·have e:i=n:=by omega
  subst e
  exact .inl ⟨hst σ vs H p,by omega,hd σ vs H p⟩
theorem fD{lo:Int}{n:Nat}(Pv:Nat->St->List V->Hp->Prop)(h0:Pv 0 σ0 [] H0)(hlen:∀i σ vs H,i<=n->Pv i σ vs H->vs.length<=i)(hn:n<=sizeLine)
  (hs:∀i σ vs H,i<n->Pv i σ vs H->g (.int (lo+i)) σ H fun σ2 H2=>tt σ2 H2 fun ok H3=>if ok=true then te σ2 H3 fun v H4=>Pv (i+1) σ2 (vs++[v]) H4 else Pv (i+1) σ2 vs H3)
  (hd:∀σ vs H,Pv n σ vs H->∀p,H p=none->Q (.ref p) (upd H p (.lst vs))):lV (Hz lo n) g tt te Q σ0 H0 :=
 nJ n Pv h0 hlen hn (fun _ _ _ _ h _=>h) (fun _ _ _ _=>Nat.le_refl _) (fun i σ vs H x H' hi p y=>by obtain⟨rfl,rfl⟩:=y;exact hs i σ vs _ hi p) hd
theorem jj{K:PySem.W.Frag}{a:Addr}{xs:List V}(Pv:Nat->St->List V->Hp->Prop)(h0:Pv 0 σ0 [] H0)(hlen:∀i σ vs H,i<=xs.length->Pv i σ vs H->vs.length<=i)(hn:xs.length<=sizeLine)(hl:∀i σ vs H,i<=xs.length->Pv i σ vs H->bB K H a xs)
  (hs:∀i x σ vs H,xs[i]?=some x->Pv i σ vs H->g x σ H fun σ2 H2=>tt σ2 H2 fun ok H3=>if ok=true then te σ2 H3 fun v H4=>Pv (i+1) σ2 (vs++[v]) H4 else Pv (i+1) σ2 vs H3)
  (hd:∀σ vs H,Pv xs.length σ vs H->∀p,H p=none->Q (.ref p) (upd H p (.lst vs))):lV (Gm K a) g tt te Q σ0 H0:=by
 refine nJ xs.length Pv h0 hlen hn (fun i σ vs H hi p=>⟨xs,xs[i],hl i σ vs H (Nat.le_of_lt hi) p,by simp[hi]⟩) (fun σ vs H p=>⟨xs,hl _ σ vs H (Nat.le_refl _) p,Nat.le_refl _⟩) (fun i σ vs H x H' hi p y=>?_) hd
 obtain⟨rfl,y⟩:=y
 exact hs i x σ vs _ (y xs (hl i σ vs _ (Nat.le_of_lt hi) p)) p
end
section
variable {prog:Program}{w:World}{A:Around}{E:Value->Shared->Prop}{s:Shared}
end
structure vJ(h:Heap) (lo:Nat) (xs ys:Array Value) (as:List Nat):Prop where
 rise:as.Pairwise (· < ·)
 low:∀a∈as,lo<=a
 pairs:∀(j:Nat) (a:Nat),as[j]?=some a->∃x y,xs[j]?=some x/\ys[j]?=some y/\IsPair h a x y
theorem vJ.lt{h:Heap}{lo:Nat}{xs ys:Array Value}{as:List Nat}(g:vJ h lo xs ys as){a:Nat}(ha:a∈as):a<h.objs.size:=by
 obtain⟨j,hj⟩:=List.mem_iff_getElem?.mp ha
 obtain⟨_,_,_,_,e⟩:=g.pairs j a hj
 exact Heap.lt_size e
theorem vJ.keep{h h':Heap}{lo:Nat}{xs ys:Array Value}{as:List Nat}(g:vJ h lo xs ys as)(k:∀c o,lo<=c->h.get? c=some o->h'.get? c=some o):vJ h' lo xs ys as :=
 ⟨g.rise,g.low,fun j a e=>by
  obtain⟨x,y,e1,e2,e3⟩:=g.pairs j a e
  exact⟨x,y,e1,e2,k a _ (g.low a (List.mem_of_getElem? e)) e3⟩⟩
section
variable {prog:Program}{w:World}{A:Around}{R:Result->Shared->Prop}{s:Shared}
end
section
variable {prog:Program}{w:World}{A:Around}{E:Value->Shared->Prop}{s:Shared}
end
section
variable {X:Cx}{pins:List (Addr×Obj)}{σ:St}{H H':Hp}{s:Shared}{h':Heap}
end
section
variable {X:Cx}{a b:Expr}{t:TA}{p1 p2 p3 p4:Pos}
end
noncomputable def Lb(x:Str):It:=⟨fun i _=>i<x.cps.size,fun i H v H'=>H'=H/\∃c,x.cps[i]?=some c/\v=.str ⟨#[c]⟩,fun i _=>i=x.cps.size⟩
theorem vK{P:Program}{w:World}{K:PySem.W.Frag}{tg:Expr}(it:Addr)(x:Str)(t:Tok)(ty:String)
  (W:∀A':Around,A'.handled=none->Walks P w A' it [it] [it] x.cps.size (SignAt x) (fun i h=>h.IsStrIter it ty x t i))
  (hty:["enumerate","zip","dict_itemiterator","dict_reverseitemiterator","odict_iterator","itertools.zip_longest","itertools.pairwise"].contains ty=false)
  (hself:∀(A:Around) (i:Nat) (s:Shared) (Q:Value->Shared->Prop) (E:Value->Shared->Prop),s.heap.IsStrIter it ty x t i->Q (.ref it) s->wpAny (model P w) A (pyIter (.ref it)) Q E s):Turn P w K tg (Lb x) [it] it (fun i h=>h.IsStrIter it ty x t i) where
 mem:=by simp
 obj:=fun i h st b hb=>by
  have e:b=it:=by simpa using hb
  subst e
  obtain⟨o,e,c,d⟩:=st
  exact⟨o,e,fun v z=>by rw[d]at z;cases z⟩
 keep:=fun i h h' st k=>let⟨o,e,r⟩:=st;⟨o,k it (by simp) o e,r⟩
 item:=by
  intro X hP hw hK hc i pins s σ H E I hf st hg
  subst hP hw hK
  obtain⟨f0,f1,f2,f3,f4,f5⟩:=hf it (by simp)
  refine(W X.A (I.ok.hd hc)).item i s _ _ hg st fun v h' tk hv st' kk=>?_
  obtain⟨c,u,hcu,rfl⟩:=hv
  have I1:Inv X pins σ H {s with heap:=h',toks:=tk}:=I.turned (fun b o hb e=>kk b o (by simpa using hb) e) f0 f1 f3 f4 f5
  obtain⟨o,e,cl,d⟩:=id st'
  exact⟨_,rfl,vB (s:={s with heap:=h',toks:=tk}) (n:=ty) e cl d hty ⟨.str ⟨#[c]⟩,H,I1,⟨u,rfl⟩,⟨rfl,c,hcu,rfl⟩,st',fun b hb=>(hf b hb).1⟩⟩
 done:=by
  intro X hP hw hK hc i pins s σ H E I hf st hg
  subst hP hw hK
  obtain⟨f0,f1,f2,f3,f4,f5⟩:=hf it (by simp)
  have hi:i=x.cps.size:=hg
  subst hi
  exact(W X.A (I.ok.hd hc)).done s _ _ st fun h' tk kk=>⟨rfl,I.turned (fun b o hb e=>kk b o (by simpa using hb) e) f0 f1 f3 f4 f5⟩
 self:=fun A i s Q E st h=>hself A i s Q E st h
section
variable {X:Cx}{tg:Expr}
noncomputable def Lc(te:TE):TI:=fun σ H R=>te σ H fun v H1=>∃x,v=.str x/\R (Lb x) H1
theorem ye{e:Expr}{te:TE}(he:PE X e te):PI X tg e (Lc te):=by
 intro pins s σ H R I h
 refine cF (he pins s σ H _ I h) fun v s1 ⟨y,H1,I1,r1,x,e1,q⟩=>?_
 subst e1
 obtain⟨t,rfl⟩:=r1
 have fin:∀b∈[s1.heap.objs.size],nv X pins H1 b:=fun b hb=>by
  have e:b=s1.heap.objs.size:=by simpa using hb
  subst e
  exact I1.xP (Nat.le_refl _) (I1.hok.fresh (Nat.le_refl _))
 cases ha:x.cps.all (· < 128)
 ·exact wpAny_pyIter_wide ha ⟨s1.heap.objs.size,[s1.heap.objs.size],_,_,H1,rfl,I1.kept (t':=s1.toks) fun b o e=>Heap.get?_push_of_some _ e,
   vK _ x t "str_iterator" (fun A' hA=>Walks.strWide hA _ x t) (by decide) (fun A i s Q E st h=>wpAny_pyIter_striter_wide st h),⟨_,Heap.get?_push_size _ rfl,rfl,rfl⟩,fin,q⟩
 ·exact wpAny_pyIter_ascii ha ⟨s1.heap.objs.size,[s1.heap.objs.size],_,_,H1,rfl,I1.kept (t':=s1.toks) fun b o e=>Heap.get?_push_of_some _ e,
   vK _ x t "str_ascii_iterator" (fun A' hA=>Walks.strAscii hA _ x t) (by decide) (fun A i s Q E st h=>wpAny_pyIter_striter_ascii st h),⟨_,Heap.get?_push_size _ rfl,rfl,rfl⟩,fin,q⟩
end
section
variable {X:Cx}
theorem uc:∀{ys:List Str}{us:List Value},Vals (ys.map V.str) us->StrsAre us ys
 | [],_,.nil=>.nil
 |_::_,_,.cons ⟨t,e⟩ r=>by subst e;exact .cons _ t (uc r)
noncomputable def rJoin(K:PySem.W.Frag):V->List V->Hp->VK->Prop:=fun x vs H Q=>∃z p ys,x=.str z/\vs=[.ref p]/\bB K H p (ys.map V.str)/\(ys.map (·.length)).sum+ys.length*z.length<=16777216/\Q (.str (Txt.join z ys)) H
theorem iW:Cf X "str.join" (rJoin X.K):=by
 intro pins s σ H x xs v us Q I rx rs h
 obtain⟨z,p,ys,rfl,rfl,hq,hb,q⟩:=h
 obtain⟨t,rfl⟩:=rx
 obtain⟨u,rfl,ru⟩:=vals1 rs
 cases ru
 obtain⟨its,rv,pl,hz⟩:=I.list hq
 exact join_list pl.isList (by simpa using uc rv) hb fun t' k=>⟨.str _,H,I.tok _,⟨_,rfl⟩,q⟩
theorem vL:∀{bs:List Bool}{us:List Value},Vals (bs.map V.bl) us->LSm.BoolsAre us bs
 | [],_,.nil=>.nil
 |_::_,_,.cons e r=>by cases e;exact .cons _ (vL r)
theorem nK(hc:X.calm=true):gZ X (.builtin "all") (fun xs H Q=>∃(p:Addr) (bs:List Bool),xs=[.ref p]/\bB X.K H p (bs.map V.bl)/\Q (.bl (bs.all id)) H):=by
 intro pins s σ H xs us Q I r h
 obtain⟨p,bs,rfl,hq,q⟩:=h
 obtain⟨u,rfl,ru⟩:=vals1 r
 cases ru
 obtain⟨its,rv,pl,hz⟩:=I.list hq
 have hb:=vL rv
 have hl:=pl.isList
 have hlt:p<s.heap.objs.size:=by obtain⟨_,e,_⟩:=hl;exact Heap.lt_size e
 refine call_all_walk (wpAny_pyIter_list hl ?_)
 refine⟨s.heap.objs.size,[s.heap.objs.size,p],[s.heap.objs.size],its.toArray.size,_,_,fun i=>(bs[i]?).getD true,rfl,Walks.list (A:=X.A.in1) (I.ok.hd hc) _ p (Nat.ne_of_lt hlt) its.toArray,
  ⟨⟨_,Heap.get?_push_size _ rfl,rfl,rfl⟩,hl.push _⟩,fun i v s' Q' E' hP hQ=>?_,fun h' tk hk=>?_⟩
 ·obtain⟨b,e,rfl⟩:=hb.get i v (by simpa using hP)
  simp only[e,Option.getD_some]at hQ
  exact wpAny_truthy_bool hQ
 ·have e:((List.range its.toArray.size).all fun i=>(bs[i]?).getD true)=bs.all id:=by
   rw[List.size_toArray,hb.length];exact LSm.range_all bs
  rw[e]
  exact⟨.bl _,H,I.kept (LSm.kept_iter hk),rfl,q⟩
noncomputable def LF:V->String->Option Bool
 |.bl _,"bool"=>some true
 |.bl _,"int"=>some true
 |.int _,"int"=>some true
 |.int _,"bool"=>some false
 |_,_=>none
theorem vM:gZ X (.builtin "isinstance") (fun xs H Q=>∃x T r,xs=[x,.ty T]/\LF x T=some r/\Q (.bl r) H):=by
 intro pins s σ H xs us Q I r h
 obtain⟨x,T,b,rfl,e,q⟩:=h
 obtain⟨u,w',rfl,r1,r2⟩:=vals2 r
 obtain rfl:w'=Value.type T:=r2
 unfold LF at e
 split at e
 ·cases e;obtain rfl:u=Value.bool _:=r1;exact IsiPair.bool_bool ⟨.bl _,H,I,rfl,q⟩
 ·cases e;obtain rfl:u=Value.bool _:=r1;exact IsiPair.bool_int ⟨.bl _,H,I,rfl,q⟩
 ·cases e;obtain⟨t,rfl⟩:=r1;exact IsiPair.int_int ⟨.bl _,H,I,rfl,q⟩
 ·cases e;obtain⟨t,rfl⟩:=r1;exact IsiPair.int_bool ⟨.bl _,H,I.tok _,rfl,q⟩
 ·cases e
noncomputable def Ld:V->Option Int->Option Int->Hp->VK->Prop:=fun x lo hi H Q=>∃z,x=.str z/\z.length<=sizeLine/\Q (.str (Txt.slice z lo hi)) H
theorem part_of{v:Value}{o:Option Int}(h:IsPart v o):∃p:Option (Int×Tok),v=partValue p/\p.map (·.1)=o:=by
 cases h with
 |none=>exact⟨none,rfl,rfl⟩
 |int i t=>exact⟨some (i,t),rfl,rfl⟩
theorem ud:Kp X Ld:=by
 intro pins s σ H x v vl vu lo hi sl Q I rx hs pl pu h
 obtain⟨z,rfl,hz,q⟩:=h
 obtain⟨t,rfl⟩:=rx
 obtain⟨p1,rfl,e1⟩:=part_of pl
 obtain⟨p2,rfl,e2⟩:=part_of pu
 refine⟨"str",_,PySem.F.slot_str_getitem.lookup,typeIs_str s z t,?_⟩
 refine wpAny_getItem_str_slice (l:=p1) (u:=p2) (st:=none) hs rfl ?_
 subst e1 e2
 cases p1<;>cases p2<;>exact post_val_or_str ⟨Nat.le_trans (Txt.slice_le z _ _) hz,fun t' k=>⟨.str _,H,I.tok _,⟨_,rfl⟩,q⟩⟩
end
noncomputable def qE(xs:List V)(lo hi st:Option Int):List V:=(sliceRange (sliceBounds lo hi st xs.length).1 (sliceBounds lo hi st xs.length).2.1 (sliceBounds lo hi st xs.length).2.2).filterMap (xs[·]?)
theorem oO{xs:List V}{us:List Value}(r:Vals xs us):∀ix:List Nat,Vals (ix.filterMap (xs[·]?)) (ix.filterMap (us[·]?))
 | []=>.nil
 |i::ix=>by
  rw[List.filterMap_cons,List.filterMap_cons]
  cases e:xs[i]? with
  |none=>rw[r.none_of e];exact oO r ix
  |some x =>
   obtain⟨u,e2,rx⟩:=r.get e
   rw[e2]
   exact .cons rx (oO r ix)
section
variable {X:Cx}{e st:Expr}{lo hi:Option Expr}{te:TE}{tl th tk:TO}{p2 pos:Pos}
noncomputable def Le(K:PySem.W.Frag)(te:TE)(tl th tk:TO):TE:=fun σ H Q=>te σ H fun x H1=>tl σ H1 fun l H2=>th σ H2 fun u H3=>tk σ H3 fun k H4=>∃a xs,x=.ref a/\bB K H4 a xs/\k≠some 0/\(qE xs l u k).length<=sizeLine /\
 ∀p,H4 p=none->Q (.ref p) (upd H4 p (.lst (qE xs l u k)))
theorem A0(he:PE X e te)(hl:PO X lo tl)(hu:PO X hi th)(hk:PO X (some st) tk):PE X (.Subscript e (.Slice lo hi (some st) p2) pos) (Le X.K te tl th tk):=by
 intro pins s σ H Q I h
 refine Subscript_ (cF (he pins s σ H _ I h) fun v s1 ⟨x,H1,I1,r1,q1⟩=>?_)
 refine wpAny_Slice (cF (hl pins s1 σ H1 _ I1 q1) fun vl s2 ⟨l,H2,I2,pl,q2⟩=>cF (hu pins s2 σ H2 _ I2 q2) fun vu s3 ⟨u,H3,I3,pu,q3⟩=>cF (hk pins s3 σ H3 _ I3 q3) fun vk s4 ⟨k,H4,I4,pk,q4⟩=>?_)
 obtain⟨a,xs,rfl,hx,k0,hz2,q⟩:=q4
 cases r1
 have I5:Inv X pins σ H4 {s4 with heap:=s4.heap.push {cls:=.type "slice",data:=.fields #[vl,vu,vk]}}:=I4.kept (t':=s4.toks) fun b ob q=>Heap.get?_push_of_some _ q
 obtain⟨its,r,ht,hz⟩:=I5.list hx
 have hlen:=r.length
 refine tail_any (T:="list") (ops:=[.ref a,.ref s4.heap.objs.size]) ht.isList.typeIs slot_list_getitem.lookup ?_ (by with_unfolding_all rfl)
 refine wpAny_getItem_list_slice ht.isList (Heap.IsSliceOf.new ..) pl pu pk k0 ?_ (by rw[List.size_toArray]<;>omega)
 have ep:slicePick its.toArray l u k=((sliceRange (sliceBounds l u k xs.length).1 (sliceBounds l u k xs.length).2.1 (sliceBounds l u k xs.length).2.2).filterMap (its[·]?)).toArray:=by
  unfold slicePick
  rw[List.size_toArray,←hlen]
  simp
 rw[ep]
 refine⟨.ref _,_,I5.laid (t':=s4.toks) (o:=.lst (qE xs l u k)) (fun b ob q=>Heap.get?_push_of_some _ q) (Nat.le_refl _) ?_,rfl,q _ (I5.hok.fresh (Nat.le_refl _))⟩
 exact⟨hz2,_,0,oO r _,Heap.get?_push_size _ rfl⟩
end
theorem ET{xs:List V}{lo hi st:Option Int}{ix:List Nat}(h:sliceRange (sliceBounds lo hi st xs.length).1 (sliceBounds lo hi st xs.length).2.1 (sliceBounds lo hi st xs.length).2.2=ix):qE xs lo hi st=ix.filterMap (xs[·]?):=by
 unfold qE
 rw[h]
noncomputable def EU:Expr->Option Str
 |.Constant (.str x) _ _=>some x
 |_=>none
noncomputable def strsOf:List Expr->Option (List Str)
 | []=>some []
 |e::r=>(EU e).bind fun x=>(strsOf r).map (x::·)
noncomputable def JL(xs:List Str):TA:=fun _ H Q=>Q (xs.map V.str) H
theorem EV{e:Expr}{x:Str}(h:EU e=some x):∃j p,e=.Constant (.str x) j p:=by
 unfold EU at h
 split at h
 ·cases h;exact⟨_,_,rfl⟩
 ·cases h
theorem zy{X:Cx}{es:List Expr}:∀{xs:List Str},strsOf es=some xs->PA X es (JL xs):=by
 induction es with
 |nil=>intro xs h;cases h;exact aj
 |cons e r ih =>
  intro xs h
  unfold strsOf at h
  cases h1:EU e with
  |none=>rw[h1]at h;cases h
  |some x =>
   cases h2:strsOf r with
   |none=>rw[h1,h2]at h;cases h
   |some ys =>
    rw[h1,h2]at h
    cases h
    obtain⟨j,p,rfl⟩:=EV h1
    exact cf ak (ih h2) rfl
end L2
namespace L2
open PySem PySem.Spec PyProof.Rows PySem.SeqAt
section
variable {X:Cx}
end
mutual
noncomputable def Rp(K:PySem.W.Frag)(H:Hp):T->V->Prop
 |.s x,v=>v=.str x
 |.i n,v=>v=.int n
 |.n,v=>v=.ik
 |.t xs,v=>∃a vs,v=.ref a/\bf K H a vs/\aX K H xs vs
noncomputable def aX(K:PySem.W.Frag)(H:Hp):List T->List V->Prop
 | [],vs=>vs=[]
 |x::r,vs=>∃v q,vs=v::q/\Rp K H x v/\aX K H r q
end
noncomputable def Kt(H H':Hp):Prop:=∀a xs,Rd H a (.tup xs)->Rd H' a (.tup xs)
theorem Kt.refl{H:Hp}:Kt H H:=fun _ _ h=>h
theorem Kt.trans{H H1 H2:Hp}(a:Kt H H1)(b:Kt H1 H2):Kt H H2:=fun c xs h=>b c xs (a c xs h)
theorem Kt.same{H H':Hp}(s:aL H H'):Kt H H':=fun a xs h=>h.elim (fun e=>.inl (s _ _ e)) fun⟨o,e⟩=>.inr ⟨o,s _ _ e⟩
theorem Kt.new{H:Hp}{p:Addr}(h:H p=none)(o:HO):Kt H (upd H p o):=fun a xs r=>r.elim (fun e=>.inl (by rw[ay (bG e h)];exact e)) fun⟨u,e⟩=>.inr ⟨u,by rw[ay (bG e h)];exact e⟩
theorem Kt.upd{H:Hp}{l:Addr}{u:HO}(h:H l=some u)(h1:∀xs,u≠.tup xs)(h2:∀o xs,u≠.frz o (.tup xs))(o:HO):Kt H (upd H l o):=fun a xs r=>by
 rcases r with e|⟨p,e⟩
 ·exact .inl (by rw[ay (su e h fun z=>h1 _ z.symm)];exact e)
 ·exact .inr ⟨p,by rw[ay (su e h fun z=>h2 _ _ z.symm)];exact e⟩
theorem Kt.lst{H:Hp}{l:Addr}{xs:List V}(h:H l=some (.lst xs))(o:HO):Kt H (L2.upd H l o):=Kt.upd h (fun _ z=>nomatch z) (fun _ _ z=>nomatch z) o
section
variable {K:PySem.W.Frag}{H H':Hp}
theorem bf.kt(k:Kt H H'){a:Addr}{xs:List V}(h:bf K H a xs):bf K H' a xs:=h.elim (fun e=>.inl (k _ _ e)) .inr
theorem aX.all(f:∀{x v},Rp K H x v->Rp K H' x v):∀{xs:List T}{vs:List V},aX K H xs vs->aX K H' xs vs
 | [],vs,h=>by unfold aX at h⊢;exact h
 |x::r,vs,h=>by
  unfold aX at h⊢
  obtain⟨v,q,e,h1,h2⟩:=h
  exact⟨v,q,e,f h1,aX.all f h2⟩
theorem aX.nil:aX K H [] []:=by unfold aX;rfl
theorem aX.cons{x:T}{v:V}{r:List T}{q:List V}(h:Rp K H x v)(t:aX K H r q):aX K H (x::r) (v::q):=by unfold aX;exact⟨v,q,rfl,h,t⟩
theorem aX.inv{x:T}{r:List T}{vs:List V}(h:aX K H (x::r) vs):∃v q,vs=v::q/\Rp K H x v/\aX K H r q:=by unfold aX at h;exact h
theorem aX.nL{vs:List V}(h:aX K H [] vs):vs=[]:=by unfold aX at h;exact h
theorem Rp.s{x:Str}:Rp K H (.s x) (.str x):=by unfold Rp;rfl
theorem Rp.i{n:Int}:Rp K H (.i n) (.int n):=by unfold Rp;rfl
theorem Rp.ik:Rp K H .n .ik:=by unfold Rp;rfl
theorem Rp.t{xs:List T}{vs:List V}{a:Addr}(h:bf K H a vs)(r:aX K H xs vs):Rp K H (.t xs) (.ref a):=by unfold Rp;exact⟨a,vs,rfl,h,r⟩
theorem Rp.aG{x:Str}{v:V}(h:Rp K H (.s x) v):v=.str x:=by unfold Rp at h;exact h
theorem Rp.ef{n:Int}{v:V}(h:Rp K H (.i n) v):v=.int n:=by unfold Rp at h;exact h
theorem Rp.aR{xs:List T}{v:V}(h:Rp K H (.t xs) v):∃a vs,v=.ref a/\bf K H a vs/\aX K H xs vs:=by unfold Rp at h;exact h
theorem Rp.kt(k:Kt H H'){x:T}:∀{v:V},Rp K H x v->Rp K H' x v:=by
 induction x using T.induct with
 |hs x=>intro v h;rw[h.aG];exact .s
 |hi x=>intro v h;rw[h.ef];exact .i
 |hn=>intro v h;unfold Rp at h;rw[h];exact .ik
 |ht xs ih =>
  intro v h
  obtain⟨a,vs,rfl,hs,hr⟩:=h.aR
  refine .t (hs.kt k) ?_
  clear hs h
  induction xs generalizing vs with
  |nil=>rw[hr.nL];exact .nil
  |cons x r ih2 =>
   obtain⟨v,q,rfl,h1,h2⟩:=hr.inv
   exact .cons (ih x (.head _) h1) (ih2 (fun y hy=>ih y (.tail _ hy)) _ h2)
theorem aX.kt(k:Kt H H'){xs:List T}{vs:List V}(h:aX K H xs vs):aX K H' xs vs:=aX.all (fun h=>h.kt k) h
theorem aX.length:∀{xs:List T}{vs:List V},aX K H xs vs->vs.length=xs.length
 | [],vs,h=>by rw[h.nL];rfl
 |x::r,vs,h=>by
  obtain⟨v,q,rfl,_,h2⟩:=h.inv
  rw[List.length_cons,List.length_cons,aX.length h2]
theorem aX.get:∀{xs:List T}{vs:List V}{i:Nat}{x:T},aX K H xs vs->xs[i]?=some x->∃v,vs[i]?=some v/\Rp K H x v
 | [],vs,i,x,h,e=>by simp at e
 |x::r,vs,0,y,h,e=>by
  obtain⟨v,q,rfl,h1,_⟩:=h.inv
  simp at e;subst e
  exact⟨v,rfl,h1⟩
 |x::r,vs,i+1,y,h,e=>by
  obtain⟨v,q,rfl,_,h2⟩:=h.inv
  obtain⟨w,h3,h4⟩:=aX.get (i:=i) h2 (by simpa using e)
  exact⟨w,by simpa using h3,h4⟩
theorem aX.get':∀{xs:List T}{vs:List V}{i:Nat}{v:V},aX K H xs vs->vs[i]?=some v->∃x,xs[i]?=some x/\Rp K H x v:=fun{xs vs i v} h e=>by
 have l:=h.length
 have hi:i<xs.length:=by
  rcases Nat.lt_or_ge i vs.length with z|z
  ·omega
  ·rw[List.getElem?_eq_none_iff.mpr z]at e;cases e
 obtain⟨w,h1,h2⟩:=h.get (List.getElem?_eq_getElem hi)
 rw[e]at h1;cases h1
 exact⟨_,List.getElem?_eq_getElem hi,h2⟩
theorem aX.append:∀{xs ys:List T}{vs ws:List V},aX K H xs vs->aX K H ys ws->aX K H (xs++ys) (vs++ws)
 | [],ys,vs,ws,h,g=>by rw[h.nL];exact g
 |x::r,ys,vs,ws,h,g=>by
  obtain⟨v,q,rfl,h1,h2⟩:=h.inv
  exact .cons h1 (aX.append h2 g)
theorem aX.one{x:T}{v:V}(h:Rp K H x v):aX K H [x] [v]:=.cons h .nil
theorem aX.snoc{xs:List T}{vs:List V}{x:T}{v:V}(h:aX K H xs vs)(g:Rp K H x v):aX K H (xs++[x]) (vs++[v]):=h.append (.one g)
theorem aX.split:∀{xs ys:List T}{vs:List V},aX K H (xs++ys) vs->∃ws us,vs=ws++us/\aX K H xs ws/\aX K H ys us
 | [],ys,vs,h=>⟨[],vs,rfl,.nil,h⟩
 |x::r,ys,vs,h=>by
  obtain⟨v,q,rfl,h1,h2⟩:=aX.inv h
  obtain⟨ws,us,rfl,h3,h4⟩:=aX.split h2
  exact⟨v::ws,us,rfl,.cons h1 h3,h4⟩
end
section
variable {X:Cx}{pins:List (Addr×Obj)}{σ:St}{H:Hp}{s:Shared}
theorem Rp.inj(I:Inv X pins σ H s)(a:T):∀(b:T) {v:V},Rp X.K H a v->Rp X.K H b v->a=b:=by
 induction a using T.induct with
 |hs x =>
  intro b v h g
  rw[h.aG]at g
  cases b with
  |s y=>have z:=g.aG;injection z with z;rw[z]
  |i y=>have z:=g.ef;cases z
  |n=>unfold Rp at g;cases g
  |t ys=>obtain⟨_,_,z,_⟩:=g.aR;cases z
 |hi x =>
  intro b v h g
  rw[h.ef]at g
  cases b with
  |s y=>have z:=g.aG;cases z
  |i y=>have z:=g.ef;injection z with z;rw[z]
  |n=>unfold Rp at g;cases g
  |t ys=>obtain⟨_,_,z,_⟩:=g.aR;cases z
 |hn =>
  intro b v h g
  unfold Rp at h
  rw[h]at g
  cases b with
  |s y=>have z:=g.aG;cases z
  |i y=>have z:=g.ef;cases z
  |n=>rfl
  |t ys=>obtain⟨_,_,z,_⟩:=g.aR;cases z
 |ht xs ih =>
  intro b v h g
  obtain⟨p,vs,rfl,hs,hr⟩:=h.aR
  cases b with
  |t ys =>
   obtain⟨p',ws,e,hs',hr'⟩:=g.aR
   cases e
   have e:=I.oE hs hs'
   subst e
   congr 1
   clear hs hs' h g
   induction xs generalizing ys vs with
   |nil =>
    have z:=hr.nL
    subst z
    cases ys with
    |nil=>rfl
    |cons y q=>obtain⟨_,_,z,_⟩:=hr'.inv;cases z
   |cons x r ih2 =>
    obtain⟨v,q,rfl,h1,h2⟩:=hr.inv
    cases ys with
    |nil=>cases hr'.nL
    |cons y q' =>
     obtain⟨v',q'',e,h1',h2'⟩:=hr'.inv
     cases e
     rw[ih x (.head _) y h1 h1',ih2 (fun z hz=>ih z (.tail _ hz)) _ h2 _ h2']
  |_=>unfold Rp at g;cases g
theorem br{h:Heap}{a:Addr}{its:Array Value}(p:IsTup h a its):h.IsTuple a its:=p
theorem sJ{us:List V}{its:List Value}(r:Vals us its){j:Nat}{v:V}(e:us[j]?=some v){h:j<its.toArray.size}:RelV v its.toArray[j]:=by
 obtain⟨u,h1,h2⟩:=r.get e
 have z:its.toArray[j]=u:=by
  have q:its[j]?=some its.toArray[j]:=by
   rw[List.getElem?_eq_getElem (by simpa using h)]
   simp
  rw[h1]at q
  exact(Option.some.inj q).symm
 rw[z];exact h2
noncomputable def zz(s:Shared)(K:PySem.W.Frag)(H:Hp)(x:T):Prop:=∀(b:T) {u v:V}{u' v':Value}(A:Around),A.units+x.dep<cLine->Rp K H x u->Rp K H b v->RelV u u'->RelV v v'->EqAt A s u' v' (x.eqB b)
theorem sL{xs ys:List T}{us ws:List V}{its its':List Value}{A:Around}(ih:∀x∈xs,zz s X.K H x)(hu:A.units+T.lN xs<cLine)(hr:aX X.K H xs us)(hr':aX X.K H ys ws)(r:Vals us its)(r':Vals ws its')
  (j:Nat) (h1:j<its.toArray.size) (h2:j<its'.toArray.size):EqAt A s its.toArray[j] its'.toArray[j] (T.eqB (xs.getD j .n) (ys.getD j .n)):=by
 have l1:us.length=its.length:=r.length
 have l2:ws.length=its'.length:=r'.length
 have l3:=hr.length
 have l4:=hr'.length
 have h1':j<its.length:=by simpa using h1
 have h2':j<its'.length:=by simpa using h2
 have hx:j<xs.length:=by omega
 have hy:j<ys.length:=by omega
 obtain⟨v,hv,rv⟩:=hr.get (List.getElem?_eq_getElem hx)
 obtain⟨w,hw,rw'⟩:=hr'.get (List.getElem?_eq_getElem hy)
 have e1:xs.getD j .n=xs[j]:=by simp[hx]
 have e2:ys.getD j .n=ys[j]:=by simp[hy]
 rw[e1,e2]
 exact ih _ (List.getElem_mem hx) _ A (Nat.lt_of_le_of_lt (Nat.add_le_add_left (T.vH (List.getElem_mem hx)) _) hu) rv rw' (sJ r hv) (sJ r' hw)
theorem sM(I:Inv X pins σ H s){xs ys:List T}{us ws:List V}{p q:Addr}{A:Around}(ih:∀x∈xs,zz s X.K H x)(hu:A.units+1+T.lN xs<cLine)(hs:bf X.K H p us)(hr:aX X.K H xs us)(hs':bf X.K H q ws)(hr':aX X.K H ys ws) :
  RcAt A s (.ref p) (.ref q) (T.pP xs ys):=by
 obtain⟨its,r,it,_⟩:=I.tuple hs
 obtain⟨its',r',it',_⟩:=I.tuple hs'
 have z:=RcAt.tuples (A:=A) (br it) (br it') (by omega) (e:=fun j=>T.eqB (xs.getD j .n) (ys.getD j .n)) (sL (A:=A.in1) ih (by show A.units+1+_<_;exact hu) hr hr' r r')
 have l1:us.length=its.length:=r.length
 have l2:ws.length=its'.length:=r'.length
 have l3:=hr.length
 have l4:=hr'.length
 rw[T.mP]
 have e1:its.toArray.size=xs.length:=by simp;omega
 have e2:its'.toArray.size=ys.length:=by simp;omega
 rw[e1,e2]at z
 exact z
theorem vN(I:Inv X pins σ H s){xs ys:List T}{us ws:List V}{p q:Addr}{A:Around}(ih:∀x∈xs,zz s X.K H x)(hu:A.units+1+T.lN xs<cLine)(hs:bf X.K H p us)(hr:aX X.K H xs us)(hs':bf X.K H q ws)(hr':aX X.K H ys ws) :
  RcNeAt A s (.ref p) (.ref q) (!T.pP xs ys):=by
 obtain⟨its,r,it,_⟩:=I.tuple hs
 obtain⟨its',r',it',_⟩:=I.tuple hs'
 have z:=RcNeAt.tuples (A:=A) (br it) (br it') (by omega) (e:=fun j=>T.eqB (xs.getD j .n) (ys.getD j .n)) (sL (A:=A.in1) ih (by show A.units+1+_<_;exact hu) hr hr' r r')
 have l1:us.length=its.length:=r.length
 have l2:ws.length=its'.length:=r'.length
 have l3:=hr.length
 have l4:=hr'.length
 rw[T.mP]
 have e1:its.toArray.size=xs.length:=by simp;omega
 have e2:its'.toArray.size=ys.length:=by simp;omega
 rw[e1,e2]at z
 exact z
theorem JM(I:Inv X pins σ H s)(a:T):zz s X.K H a:=by
 induction a using T.induct with
 |hs x =>
  intro b u v u' v' A hu h g ru rv
  rw[h.aG]at ru
  obtain⟨t,rfl⟩:=ru
  cases b with
  |s y=>rw[g.aG]at rv;obtain⟨t',rfl⟩:=rv;unfold T.eqB;exact EqAt.str_str _ _ _ _
  |i y=>rw[g.ef]at rv;obtain⟨t',rfl⟩:=rv;unfold T.eqB;exact EqAt.str_int _ _ _ _
  |n=>unfold Rp at g;rw[g]at rv;cases rv;unfold T.eqB;exact EqAt.str_none _ _
  |t ys =>
   obtain⟨q,ws,rfl,hs,hr⟩:=g.aR
   cases rv
   obtain⟨its,_,it,_⟩:=I.tuple hs
   unfold T.eqB
   exact EqAt.str_tuple _ _ (br it) (by omega)
 |hi x =>
  intro b u v u' v' A hu h g ru rv
  rw[h.ef]at ru
  obtain⟨t,rfl⟩:=ru
  cases b with
  |s y=>rw[g.aG]at rv;obtain⟨t',rfl⟩:=rv;unfold T.eqB;exact EqAt.int_str _ _ _ _
  |i y=>rw[g.ef]at rv;obtain⟨t',rfl⟩:=rv;unfold T.eqB;exact EqAt.int_int _ _ _ _
  |n=>unfold Rp at g;rw[g]at rv;cases rv;unfold T.eqB;exact EqAt.int_none _ _
  |t ys =>
   obtain⟨q,ws,rfl,hs,hr⟩:=g.aR
   cases rv
   obtain⟨its,_,it,_⟩:=I.tuple hs
   unfold T.eqB
   exact EqAt.int_tuple _ _ (br it) (by omega)
 |hn =>
  intro b u v u' v' A hu h g ru rv
  unfold Rp at h
  rw[h]at ru
  cases ru
  cases b with
  |s y=>rw[g.aG]at rv;obtain⟨t',rfl⟩:=rv;unfold T.eqB;exact EqAt.none_str _ _
  |i y=>rw[g.ef]at rv;obtain⟨t',rfl⟩:=rv;unfold T.eqB;exact EqAt.none_int _ _
  |n=>unfold Rp at g;rw[g]at rv;cases rv;unfold T.eqB;exact EqAt.same _
  |t ys =>
   obtain⟨q,ws,rfl,hs,hr⟩:=g.aR
   cases rv
   obtain⟨its,_,it,_⟩:=I.tuple hs
   unfold T.eqB
   exact EqAt.none_tuple (br it) (by omega)
 |ht xs ih =>
  intro b u v u' v' A hu h g ru rv
  obtain⟨p,us,rfl,hs,hr⟩:=h.aR
  cases ru
  obtain⟨its,rits,it,_⟩:=I.tuple hs
  cases b with
  |s y=>rw[g.aG]at rv;obtain⟨t',rfl⟩:=rv;unfold T.eqB;exact EqAt.tuple_str _ _ (br it) (by omega)
  |i y=>rw[g.ef]at rv;obtain⟨t',rfl⟩:=rv;unfold T.eqB;exact EqAt.tuple_int _ _ (br it) (by omega)
  |n=>unfold Rp at g;rw[g]at rv;cases rv;unfold T.eqB;exact EqAt.tuple_none (br it) (by omega)
  |t ys =>
   obtain⟨q,ws,rfl,hs',hr'⟩:=g.aR
   cases rv
   by_cases e:p=q
   ·subst e
    have z:=Rp.inj I _ _ h g
    rw[z,T.Cu]
    exact EqAt.same _
   ·unfold T.dep at hu
    unfold T.eqB
    exact EqAt.of_refs e (sM I ih (by omega) hs hr hs' hr')
theorem Lf(I:Inv X pins σ H s)(a b:T){u v:V}{u' v':Value}(A:Around)(hu:A.units+a.dep<cLine)(h:Rp X.K H a u)(g:Rp X.K H b v)(ru:RelV u u')(rv:RelV v v'):RcAt A s u' v' (a.eqB b)/\RcNeAt A s u' v' (!a.eqB b):=by
 cases a with
 |s x =>
  rw[h.aG]at ru
  obtain⟨t,rfl⟩:=ru
  cases b with
  |s y=>rw[g.aG]at rv;obtain⟨t',rfl⟩:=rv;unfold T.eqB;exact⟨RcAt.str_str _ _ _ _,RcNeAt.str_str _ _ _ _⟩
  |i y=>rw[g.ef]at rv;obtain⟨t',rfl⟩:=rv;unfold T.eqB;exact⟨RcAt.str_int _ _ _ _,RcNeAt.str_int _ _ _ _⟩
  |n=>unfold Rp at g;rw[g]at rv;cases rv;unfold T.eqB;exact⟨RcAt.str_none _ _,RcNeAt.str_none _ _⟩
  |t ys =>
   obtain⟨q,ws,rfl,hs,hr⟩:=g.aR
   cases rv
   obtain⟨its,_,it,_⟩:=I.tuple hs
   unfold T.eqB
   exact⟨RcAt.str_tuple _ _ (br it) (by omega),RcNeAt.str_tuple _ _ (br it) (by omega)⟩
 |i x =>
  rw[h.ef]at ru
  obtain⟨t,rfl⟩:=ru
  cases b with
  |s y=>rw[g.aG]at rv;obtain⟨t',rfl⟩:=rv;unfold T.eqB;exact⟨RcAt.int_str _ _ _ _,RcNeAt.int_str _ _ _ _⟩
  |i y=>rw[g.ef]at rv;obtain⟨t',rfl⟩:=rv;unfold T.eqB;exact⟨RcAt.int_int _ _ _ _,RcNeAt.int_int _ _ _ _⟩
  |n=>unfold Rp at g;rw[g]at rv;cases rv;unfold T.eqB;exact⟨RcAt.int_none _ _,RcNeAt.int_none _ _⟩
  |t ys =>
   obtain⟨q,ws,rfl,hs,hr⟩:=g.aR
   cases rv
   obtain⟨its,_,it,_⟩:=I.tuple hs
   unfold T.eqB
   exact⟨RcAt.int_tuple _ _ (br it) (by omega),RcNeAt.int_tuple _ _ (br it) (by omega)⟩
 |n =>
  unfold Rp at h
  rw[h]at ru
  cases ru
  cases b with
  |s y=>rw[g.aG]at rv;obtain⟨t',rfl⟩:=rv;unfold T.eqB;exact⟨RcAt.none_str _ _,RcNeAt.none_str _ _⟩
  |i y=>rw[g.ef]at rv;obtain⟨t',rfl⟩:=rv;unfold T.eqB;exact⟨RcAt.none_int _ _,RcNeAt.none_int _ _⟩
  |n=>unfold Rp at g;rw[g]at rv;cases rv;unfold T.eqB;exact⟨RcAt.none_none,RcNeAt.none_none⟩
  |t ys =>
   obtain⟨q,ws,rfl,hs,hr⟩:=g.aR
   cases rv
   obtain⟨its,_,it,_⟩:=I.tuple hs
   unfold T.eqB
   exact⟨RcAt.none_tuple (br it) (by omega),RcNeAt.none_tuple (br it) (by omega)⟩
 |t xs =>
  obtain⟨p,us,rfl,hs,hr⟩:=h.aR
  cases ru
  obtain⟨its,rits,it,_⟩:=I.tuple hs
  cases b with
  |s y=>rw[g.aG]at rv;obtain⟨t',rfl⟩:=rv;unfold T.eqB;exact⟨RcAt.tuple_str _ _ (br it) (by omega),RcNeAt.tuple_str _ _ (br it) (by omega)⟩
  |i y=>rw[g.ef]at rv;obtain⟨t',rfl⟩:=rv;unfold T.eqB;exact⟨RcAt.tuple_int _ _ (br it) (by omega),RcNeAt.tuple_int _ _ (br it) (by omega)⟩
  |n=>unfold Rp at g;rw[g]at rv;cases rv;unfold T.eqB;exact⟨RcAt.tuple_none (br it) (by omega),RcNeAt.tuple_none (br it) (by omega)⟩
  |t ys =>
   obtain⟨q,ws,rfl,hs',hr'⟩:=g.aR
   cases rv
   unfold T.dep at hu
   unfold T.eqB
   exact⟨sM I (fun x _=>JM I x) (by omega) hs hr hs' hr',vN I (fun x _=>JM I x) (by omega) hs hr hs' hr'⟩
noncomputable def Lg(K:PySem.W.Frag):R2:=fun x y H Q=>∃a b,Rp K H a x/\Rp K H b y/\a.dep<=150/\Q (.bl (decide (a=b))) H
theorem Cy(hu:X.A.units+150<cLine):j3 X (compareOp .Eq) (Lg X.K):=by
 intro pins s σ H x y v u Q I rx ry h
 obtain⟨a,b,ha,hb,hd,q⟩:=h
 rw[←T.ER]at q
 exact(Lf I a b X.A (by omega) ha hb rx ry).1 X.prog X.w X.xe _ ⟨.bl _,H,I,rfl,q⟩
theorem ia.JN{k:Nat}{A:Around}(r:ia k A):A.units+150<cLine:=by have:=r.un;omega
end
end L2
namespace L2
open PySem PySem.Spec PyProof.Rows
theorem EW{b:Bool}{A B:Prop}(e:b=true)(h:A):if b=true then A else B:=by rw[if_pos e];exact h
theorem rR{b:Bool}{A B:Prop}(e:b=false)(h:B):if b=true then A else B:=by rw[if_neg (by rw[e];exact Bool.false_ne_true)];exact h
section
variable {X:Cx}
theorem EX{pos:Pos}{es:List Expr}{k:Nat}{t:En}{n:Nat}(K:PySem.W.Frag)(hK:X.K=K)(hc:X.calm=true)(h:Jd X es t)(hn:(assignEach es X.env).length=n:=by rfl)(hst:(assignEach es X.env).findIdx? (·.1)=none:=by rfl):PG X (.Tuple es k pos) (Js K n t):=by
 subst hK
 exact Hw hc h hn hst
theorem vO(K:PySem.W.Frag)(hK:X.K=K):Eo X (HF K):=by subst hK;exact aN
theorem yf(K:PySem.W.Frag)(hK:X.K=K):j3 X (compareOp .In) (K4 K false):=by subst hK;exact iB
theorem lW(K:PySem.W.Frag)(hK:X.K=K):gZ X (.builtin "len") (fun xs H Q=>∃p ys,xs=[.ref p]/\(bB K H p ys\/bf K H p ys)/\Q (.int ys.length) H):=by subst hK;exact aY
noncomputable def EY(w:World):List DictEntry->List (Str×V)->Prop
 | [],kvs=>kvs=[]
 |e::r,kvs=>∃x v q,kvs=(x,v)::q/\(∃t,e.key=.str x t)/\e.hash=hashStr w x/\RelV v e.val/\EY w r q
noncomputable def KD(K:PySem.W.Frag)(w:World)(d:Addr)(kvs:List (Str×V)):Prop :=
 ∃(es:Array DictEntry) (n:Nat),K.lookup d=some {cls:=.type "dict",dict:=none,data:=.dict es n,slots:=#[]}/\EY w es.toList kvs/\(kvs.map (·.1)).Nodup/\(d == sysModules)=false
theorem EY.keys{w:World}{P:Program}:∀{es:List DictEntry}{kvs:List (Str×V)},EY w es kvs->∃vs:List (Str×Value),Pairs (PySem.strKind P w) es vs/\(∀e∈es,∃k,(PySem.strKind P w).is k e.key=true/\e.hash=(PySem.strKind P w).hash k)/\vs.map (·.1)=kvs.map (·.1) /\
  ∀k,mE (kvs.lookup k) (valueAt vs k)
 | [],kvs,h=>by
  obtain rfl:kvs=[]:=h
  exact⟨[],.nil,(fun _ h=>nomatch h),rfl,fun _=>trivial⟩
 |e::r,kvs,h=>by
  obtain⟨x,v,q,rfl,⟨t,hk⟩,hh,rv,hr⟩:=h
  obtain⟨vs,h1,h2,h3,h4⟩:=EY.keys (P:=P) hr
  have ek:(PySem.strKind P w).is x e.key=true:=by rw[hk];exact(by simp[PySem.strKind,Value.isStrOf]:(PySem.strKind P w).is x (.str x t)=true)
  refine⟨(x,e.val)::vs,.cons ek rfl h1,fun e' he=>?_,by rw[List.map_cons,List.map_cons,h3],fun k=>?_⟩
  ·cases he with
   |head=>exact⟨x,ek,hh⟩
   |tail _ he=>exact h2 e' he
  ·rw[List.lookup_cons]
   by_cases c:k=x
   ·subst c
    rw[beq_self_eq_true]
    simp only[valueAt,List.find?_cons,decide_true,Option.map_some]
    exact rv
   ·rw[beq_false_of_ne c]
    have z:=h4 k
    have e1:valueAt ((x,e.val)::vs) k=valueAt vs k:=by
     simp only[valueAt,List.find?_cons]
     rw[decide_eq_false (fun q=>c q.symm)]
    rw[e1]
    exact z
theorem KD.dict{K:PySem.W.Frag}{P:Program}{w:World}{d:Addr}{kvs:List (Str×V)}(D:KD K w d kvs){h:Heap}(X:K.In h):∃vs,h.DictOf (PySem.strKind P w) d vs/\(d == sysModules)=false/\∀k,mE (kvs.lookup k) (valueAt vs k):=by
 obtain⟨es,n,e,hs,nd,hd⟩:=D
 obtain⟨vs,h1,h2,h3,h4⟩:=EY.keys (P:=P) hs
 exact⟨vs,⟨_,es,n,X _ _ e,⟨rfl,rfl,rfl⟩,rfl,fun e' he=>h2 e' (by simpa using he),h1,by rw[h3];exact nd⟩,hd,h4⟩
theorem zA{P:Program}{w:World}{x:Str}{t:Tok}:(PySem.strKind P w).is x (.str x t)=true:=by simp[PySem.strKind,Value.isStrOf]
noncomputable def Lh(K:PySem.W.Frag)(w:World):R2:=fun x y H Q=>∃k d kvs,x=.str k/\y=.ref d/\KD K w d kvs/\Q (.bl (kvs.lookup k).isSome) H
theorem mE.EZ{a:Option V}{b:Option Value}(r:mE a b):b.isSome=a.isSome:=by
 cases a<;>cases b<;>first|rfl|exact r.elim
theorem zB:j3 X (compareOp .In) (Lh X.K X.w):=by
 intro pins s σ H x y v u Q I rx ry h
 obtain⟨k,d,kvs,rfl,rfl,D,q⟩:=h
 obtain⟨t,rfl⟩:=rx
 obtain rfl:u=Value.ref d:=ry
 obtain⟨vs,dd,hd,rel⟩:=D.dict (P:=X.prog) I.Em
 refine wpAny_in_of zA hd dd.mapOf ?_
 rw[(rel k).EZ]
 exact⟨.bl _,H,I.tok _,rfl,q⟩
noncomputable def Gx(K:PySem.W.Frag)(w:World)(td ty:TE):TE:=fun σ H Q=>td σ H fun x H1=>ty σ H1 fun y H2=>∃d kvs k v,x=.ref d/\y=.str k/\KD K w d kvs/\kvs.lookup k=some v/\Q v H2
theorem pW{o i:Expr}{pos:Pos}{td ty:TE}(ho:PE X o td)(hi:PE X i ty)(hs:EM i):PE X (.Subscript o i pos) (Gx X.K X.w td ty):=by
 intro pins s σ H Q I h
 refine zq PySem.F.slot_dict_getitem.lookup hs (cF (ho pins s σ H _ I h) fun u s1 ⟨x,H1,I1,rx,q1⟩=>cF (hi pins s1 σ H1 _ I1 q1) fun iv s2 ⟨y,H2,I2,ry,d,kvs,k,v,ex,ey,D,lk,q2⟩=>?_)
 subst ex ey
 obtain rfl:u=Value.ref d:=rx
 obtain⟨t,rfl⟩:=ry
 obtain⟨vs,dd,hd,rel⟩:=D.dict (P:=X.prog) I2.Em
 obtain⟨w',hw,rw'⟩:=mE.some_of (v:=v) (o:=valueAt vs k) (by rw[←lk];exact rel k)
 exact⟨dd.typeIs,wpAny_getItem_of zA dd.mapOf hw ⟨v,H2,I2.tok _,rw',q2⟩⟩
theorem qF:j3 X (binaryOp .Mult) (fun x y H Q=>∃z n,x=.str z/\y=.int n/\-1000000<=n/\n<=1000000/\z.length*n.toNat<=sizeLine/\Q (.str (Txt.mul z n)) H):=by
 intro pins s σ H x y v u Q I rx ry h
 obtain⟨z,n,rfl,rfl,h1,h2,h3,q⟩:=h
 obtain⟨t,rfl⟩:=rx
 obtain⟨t',rfl⟩:=ry
 refine PySem.SB.mul ⟨by simp;omega,fun a b=>?_,fun a b=>?_⟩ fun t' k=>⟨.str _,H,I.tok _,⟨_,rfl⟩,q⟩
 ·intro c
  have n1:1<=n:=by omega
  have h3':z.length*n.toNat<=16777216:=by rw[←sizeLine_eq];exact h3
  have hz:z.length<=z.length*n.toNat:=Nat.le_mul_of_pos_right _ (by omega)
  have e:(9223372036854:Int)<=(2 ^ 63-1) / n:=Int.le_ediv_of_mul_le (by omega) (by omega)
  omega
 ·unfold Builtin.Str.tooLong
  simp
  exact h3
end
section
variable {g:TG}{tt:TT}{te:TE}{Q:VK}{σ0:St}{H0:Hp}
theorem Cz{K:PySem.W.Frag}{a:Addr}{xs:List V}(Pv:Nat->St->List V->Hp->Prop)(h0:Pv 0 σ0 [] H0)(hlen:∀i σ vs H,i<=xs.length->Pv i σ vs H->vs.length<=i)(hn:xs.length<=sizeLine)(hl:∀i σ vs H,i<=xs.length->Pv i σ vs H->bf K H a xs)
  (hs:∀i x σ vs H,xs[i]?=some x->Pv i σ vs H->g x σ H fun σ2 H2=>tt σ2 H2 fun ok H3=>if ok=true then te σ2 H3 fun v H4=>Pv (i+1) σ2 (vs++[v]) H4 else Pv (i+1) σ2 vs H3)
  (hd:∀σ vs H,Pv xs.length σ vs H->∀p,H p=none->Q (.ref p) (upd H p (.lst vs))):lV (Hy K a) g tt te Q σ0 H0:=by
 refine nJ xs.length Pv h0 hlen hn (fun i σ vs H hi p=>⟨xs,xs[i],hl i σ vs H (Nat.le_of_lt hi) p,by simp[hi]⟩) (fun σ vs H p=>⟨xs,hl _ σ vs H (Nat.le_refl _) p,Nat.le_refl _⟩) (fun i σ vs H x H' hi p y=>?_) hd
 obtain⟨rfl,y⟩:=y
 exact hs i x σ vs _ (y xs (hl i σ vs _ (Nat.le_of_lt hi) p)) p
end
section
variable {X:Cx}{pins:List (Addr×Obj)}{σ:St}{H:Hp}{s:Shared}
end
theorem atS{z:Str}{r:Int}(h0:0<=r)(h:r<(z.length:Int)):∃c,cK z.cps.toList r=some c/\c∈z.cps.toList:=by
 have e:z.cps.toList.length=z.length:=by simp[Str.length]
 have hk:r.toNat<z.cps.toList.length:=by rw[e];omega
 have ek:r=((r.toNat:Nat):Int):=by omega
 have q:cK z.cps.toList ((r.toNat:Nat):Int)=some z.cps.toList[r.toNat]:=bh (List.getElem?_eq_getElem hk)
 rw[←ek]at q
 exact⟨_,q,List.getElem_mem hk⟩
theorem E1(cs:List Nat):Txt.join "" (cs.map fun c=>(⟨#[c]⟩:Str))=⟨cs.toArray⟩:=by
 show Builtin.Str.glued (Str.ofString "") _=_
 rw[StrLaws.glued_eq_join]
 exact PyProof.Rows.join_ones cs
theorem CA(l:List Nat):((l.map fun c=>(⟨#[c]⟩:Str)).map (·.length)).sum=l.length:=by
 induction l with
 |nil=>rfl
 |cons c r ih=>rw[List.map_cons,List.map_cons,List.sum_cons,ih,List.length_cons];show 1+_=_;omega
theorem empty_app{z:Str}:Str.empty++z=z:=by
 cases z with|mk c=>show(⟨#[]++c⟩:Str)=⟨c⟩;rw[Array.empty_append]
noncomputable def yg(v:V)(Q:Str->Prop):Prop:=(∃x,v=.str x/\x.length<=65535/\Q x)\/∃i:Int,v=.int i/\i.natAbs<1000000/\Q (Str.ofString (toString i))
section
variable {X:Cx}{e:Expr}{te:TE}{z z':Str}{k k':Nat}{p1 p2 p3 p4:Pos}
theorem vP{pins:List (Addr×Obj)}{σ:St}{H:Hp}{s:Shared}{R:Str->Hp->Prop}(he:PE X e te)(I:Inv X pins σ H s)(h:te σ H fun v H1=>yg v fun y=>R y H1){Q:Value->Shared->Prop}
  (hq:∀s' H' y t,Inv X pins σ H' s'->R y H'->y.length<=sizeLine->Q (.str y t) s'):wpAny (model X.prog X.w) X.A (eval (.FormattedValue e (-1) none p1) X.env) Q X.xe s:=by
 refine wpAny_FormattedValue_plain (cF (he pins s σ H _ I h) fun u s1 ⟨v,H1,I1,r1,q1⟩=>?_)
 rcases q1 with⟨x,rfl,hx,q⟩|⟨i,rfl,hi,q⟩
 ·obtain⟨t,rfl⟩:=r1
  have hx':x.length<=sizeLine:=by rw[sizeLine_eq];omega
  exact wpAny_formatField_str (hq _ _ _ _ I1 q hx') (hq _ _ _ _ (I1.tok _) q hx') hx'
 ·obtain⟨t,rfl⟩:=r1
  have hl:i.natAbs.log2<1920:=by
   have:i.natAbs.log2<=i.natAbs:=Nat.log2_le_self _
   by_cases h0:i.natAbs=0
   ·rw[h0];decide
   ·exact(Nat.log2_lt h0).mpr (Nat.lt_of_lt_of_le hi (Nat.le_trans (by decide:1000000<=2 ^ 20) (Nat.pow_le_pow_right (by decide) (by decide))))
  exact wpAny_formatField_int hl (hq _ _ _ _ (I1.tok _) q (int_text_fits hl))
noncomputable def L5(z:Str)(te:TE):TE:=fun σ H Q=>te σ H fun v H1=>yg v fun y=>z.length+y.length<=100000/\Q (.str (z++y)) H1
theorem CB(he:PE X e te)(hz:z.length<=1000:=by decide):PE X (.JoinedStr [.Constant (.str z) k p1,.FormattedValue e (-1) none p2] p3) (L5 z te):=by
 intro pins s σ H Q I h
 have hz1:(Str.empty++z).length<=sizeLine:=by rw[empty_app,sizeLine_eq];omega
 refine wpAny_JoinedStr (v₁:=.Constant (.str z) k p1) (v₂:=.FormattedValue e (-1) none p2) (rest:=[]) ?_
 refine Calls.Constant_str ⟨_,_,rfl,hz1,?_⟩
 refine vP (R:=fun y H1=>z.length+y.length<=100000/\Q (.str (z++y)) H1) he (I.tok _) h fun s' H' y t I' ⟨hl,q⟩ hy=>?_
 have e1:Str.empty++z++y=z++y:=by rw[empty_app]
 have hl2:(Str.empty++z++y).length<=sizeLine:=by rw[e1,strLen_append,sizeLine_eq];omega
 exact⟨_,_,rfl,hl2,hl2,.str (z++y),H',I'.tok _,⟨_,by rw[e1]⟩,q⟩
noncomputable def L6(z z':Str)(te:TE):TE:=fun σ H Q=>te σ H fun v H1=>yg v fun y=>z.length+y.length+z'.length<=100000/\Q (.str (z++y++z')) H1
theorem Gy(he:PE X e te)(hz:z.length<=1000:=by decide):PE X (.JoinedStr [.Constant (.str z) k p1,.FormattedValue e (-1) none p2,.Constant (.str z') k' p3] p4) (L6 z z' te):=by
 intro pins s σ H Q I h
 have hz1:(Str.empty++z).length<=sizeLine:=by rw[empty_app,sizeLine_eq];omega
 refine wpAny_JoinedStr (v₁:=.Constant (.str z) k p1) (v₂:=.FormattedValue e (-1) none p2) (rest:=[.Constant (.str z') k' p3]) ?_
 refine Calls.Constant_str ⟨_,_,rfl,hz1,?_⟩
 refine vP (R:=fun y H1=>z.length+y.length+z'.length<=100000/\Q (.str (z++y++z')) H1) he (I.tok _) h fun s' H' y t I' ⟨hl,q⟩ hy=>?_
 have e1:Str.empty++z++y=z++y:=by rw[empty_app]
 have hl2:(Str.empty++z++y).length<=sizeLine:=by rw[e1,strLen_append,sizeLine_eq];omega
 have hl3:(Str.empty++z++y++z').length<=sizeLine:=by rw[e1,strLen_append,strLen_append,sizeLine_eq];omega
 exact⟨_,_,rfl,hl2,Calls.Constant_str ⟨_,_,rfl,hl3,hl3,.str (z++y++z'),H',(I'.tok _),⟨_,by rw[e1]⟩,q⟩⟩
theorem gp:Cf X "str.startswith" (fun x vs H Q=>∃z y,x=.str z/\vs=[.str y]/\Q (.bl (Txt.startswith z y)) H):=by
 intro pins s σ H x xs v us Q I rx rs h
 obtain⟨z,y,rfl,rfl,q⟩:=h
 obtain⟨t,rfl⟩:=rx
 obtain⟨u,rfl,t',rfl⟩:=vals1 rs
 exact call_gives F.slot_str_startswith (typeIs_str _ _ _) F.entry_str_startswith (F.args_str_startswith_2 _ _) (gives_str_startswith z y t t') ⟨.bl _,H,I,rfl,q⟩
theorem sN:∀(l:List (Str×Tok)),Vals ((l.map (·.1)).map V.str) (strValues l)
 | []=>.nil
 |(x,t)::r=>.cons ⟨t,rfl⟩ (sN r)
theorem vQ:Cf X "str.split" (fun x vs H Q=>∃z y,x=.str z/\vs=[.str y]/\(y.length == 0)=false/\z.length<=100000/\∀p,H p=none->Q (.ref p) (upd H p (.lst ((Txt.split z y).map V.str)))):=by
 intro pins s σ H x xs v us Q I rx rs h
 obtain⟨z,y,rfl,rfl,hy,hz,q⟩:=h
 obtain⟨t,rfl⟩:=rx
 obtain⟨u,rfl,t',rfl⟩:=vals1 rs
 have hn:(Builtin.Str.partsBetween z (Builtin.Str.occurrences z y 0 z.length (z.length+1)) y.length).length<=sizeLine:=by
  have e1:=StrLaws.occ_length_le z y 0 z.length (z.length+1)
  rw[length_partsBetween,sizeLine_eq]
  omega
 have fin:∀(l:List (Str×Tok)) (k:Nat),l.map (·.1)=Txt.split z y->l.length<=sizeLine->EP X pins σ Q (.ref s.heap.objs.size) {s with toks:=k,heap:=s.heap.push {cls:=.type "list",data:=.seq (strValues l).toArray}}:=fun l k el hl=>by
  refine⟨.ref s.heap.objs.size,upd H s.heap.objs.size (.lst ((Txt.split z y).map V.str)),I.laid (t':=k) (fun b o e=>Heap.get?_push_of_some _ e) (Nat.le_refl _) ?_,rfl,q _ (I.hok.fresh (Nat.le_refl _))⟩
  refine⟨by rw[List.length_map,←el,List.length_map];exact hl,strValues l,0,?_,Heap.get?_push_size _ rfl⟩
  rw[←el]
  exact sN l
 cases h1:(decide (z.length<y.length)||decide (Builtin.Str.strKind z<Builtin.Str.strKind y))
 ·cases hf:(Builtin.Str.occurrences z y 0 z.length (z.length+1)).isEmpty
  ·refine call_meets F.slot_str_split (typeIs_str _ _ _) F.entry_str_split (F.args_str_split_2 _ _) (meets_str_split_sep z y t t' h1 hy hf (by rw[sizeLine_eq];omega) hn) ?_
   show wants _ _ _ {s with toks:=_,heap:=s.heap.push {cls:=.type "list",data:=.seq (strsFrom s.toks (Builtin.Str.partsBetween z (Builtin.Str.occurrences z y 0 z.length (z.length+1)) y.length)).toArray}}
   rw[strsFrom_eq]
   have e:(numbered s.toks (Builtin.Str.partsBetween z (Builtin.Str.occurrences z y 0 z.length (z.length+1)) y.length)).map (·.1)=Txt.split z y:=((numbered_texts s.toks (Builtin.Str.partsBetween z (Builtin.Str.occurrences z y 0 z.length (z.length+1)) y.length)).trans ((if_neg (ne_true_of_eq_false h1)).trans (if_neg (ne_true_of_eq_false hf))).symm)
   refine fin (numbered s.toks _) _ e ?_
   have e2:=congrArg List.length (numbered_texts s.toks (Builtin.Str.partsBetween z (Builtin.Str.occurrences z y 0 z.length (z.length+1)) y.length))
   rw[List.length_map]at e2
   rw[e2]
   exact hn
  ·exact call_meets F.slot_str_split (typeIs_str _ _ _) F.entry_str_split (F.args_str_split_2 _ _) (meets_str_split_not_found z y t t' h1 hy hf)
    (fin [(z,t)] s.toks ((if_neg (ne_true_of_eq_false h1)).trans (if_pos hf)).symm (by show 1<=sizeLine;decide))
 ·exact call_meets F.slot_str_split (typeIs_str _ _ _) F.entry_str_split (F.args_str_split_2 _ _) (meets_str_split_cannot_occur z y t t' h1)
   (fin [(z,t)] s.toks (if_pos h1).symm (by show 1<=sizeLine;decide))
theorem sO:gZ X (.type "int") (fun xs H Q=>∃n:Int,xs=[.str (Str.ofString (toString n))]/\0<=n/\n<1000000/\Q (.int n) H):=by
 intro pins s σ H xs us Q I r h
 obtain⟨n,rfl,h0,h1,q⟩:=h
 obtain⟨u,rfl,t,rfl⟩:=vals1 r
 exact PySem.W.KIN.call_num h0 (by omega) ⟨.int n,H,I.tok _,⟨_,rfl⟩,q⟩
theorem oQ:gZ X (.type "str") (fun xs H Q=>(∃x,xs=[.str x]/\Q (.str x) H)\/∃i:Int,xs=[.int i]/\i.natAbs<1000000/\Q (.str (Str.ofString (toString i))) H):=by
 intro pins s σ H xs us Q I r h
 rcases h with⟨x,rfl,q⟩|⟨i,rfl,hi,q⟩
 ·obtain⟨u,rfl,t,rfl⟩:=vals1 r
  exact PySem.P.str_of_str ⟨.str x,H,I,⟨_,rfl⟩,q⟩
 ·obtain⟨u,rfl,t,rfl⟩:=vals1 r
  have hl:i.natAbs.log2<1920:=by
   by_cases h0:i.natAbs=0
   ·rw[h0];decide
   ·exact(Nat.log2_lt h0).mpr (Nat.lt_of_lt_of_le hi (Nat.le_trans (by decide:1000000<=2 ^ 20) (Nat.pow_le_pow_right (by decide) (by decide))))
  exact PySem.P.str_of_int hl ⟨.str _,H,I.tok _,⟨_,rfl⟩,q⟩
end
section
variable {X:Cx}{pins:List (Addr×Obj)}{σ:St}{H:Hp}{s:Shared}
theorem pA{M:Model}{A:Around}{E:Value->Shared->Prop}{i:Nat}{x:Str}{v:V}{u:Value}{Q:Unit->Shared->Prop}(I:Inv X pins σ H s)(hN:X.N.Nodup)(hi:X.N[i]?=some x)(hk:X.env.scope.names.lookup x=some .local)(r:RelV v u)
  (h:∀h' m,Inv X pins (σ.set i (some v)) H {s with heap:=h',toks:=s.toks+1}->h'.Ns X.env.locals m->m x=some u->Heap.SameBut X.env.locals s.heap h'->Q () {s with heap:=h',toks:=s.toks+1}):wpAny M A (storeName X.env x u) Q E s:=by
 obtain⟨m,hn,hl⟩:=id I.loc
 obtain⟨oL,_,_,hoL,_⟩:=id hn
 have hiσ:i<σ.length:=by rw[I.len];exact(List.getElem?_eq_some_iff.mp hi).1
 refine wpAny_storeName_local hk hn (fun h' hn' hs=>h h' _ ?_ hn' (by simp) hs) (by rw[I.ok.kind];rfl)
 have old:∀b o,X.s₀.heap.get? b=some o->h'.get? b=s.heap.get? b:=fun b o e=>hs.2 b (Nat.ne_of_lt (Nat.lt_of_lt_of_le (Heap.lt_size e) I.ok.above))
 exact{
  ok:=I.ok
  os:=I.os
  bare:=I.bare
  base:={
   keep:=fun b o e n hb hx=>(old b o e).trans (I.base.keep b o e n hb hx)
   slot:=fun b o e n hb hx=>let⟨sl,q⟩:=I.base.slot b o e n hb hx;⟨sl,(old b o e).trans q⟩
   free:=I.base.free
   there:=fun b o e hx=>let⟨o',q⟩:=I.base.there b o e hx;⟨o',(old b o e).trans q⟩
   tups:=I.base.tups
   frzs:=I.base.frzs
   tbls:=I.base.tbls}
  loc:=⟨_,hn',fun j y v' e1 e2 e3=>by
   by_cases hj:j=i
   ·subst hj
    rw[hi]at e1
    cases e1
    rw[List.getElem?_set_self hiσ]at e2
    cases e2
    exact⟨u,r,.inl ⟨hk,by simp⟩⟩
   ·rw[List.getElem?_set_ne (Ne.symm hj)]at e2
    obtain⟨u',r',q⟩:=hl j y v' e1 e2 e3
    refine⟨u',r',?_⟩
    rcases q with⟨k,e⟩|⟨k,c,e,z⟩
    ·have ne:y≠x:=fun e=>hj (qm hN e1 (e▸hi))
     exact .inl ⟨k,by simp[ne,e]⟩
    ·exact .inr ⟨k,c,e,z.sameBut hs (I.Ey y c e)⟩⟩
  cell:=fun y c e=>let⟨w',z⟩:=I.cell y c e;⟨w',z.sameBut hs (I.Ey y c e)⟩
  free:=I.free
  freeC:=I.freeC
  pin:=fun p hp=>let⟨e,n,ne,nf,d⟩:=I.pin p hp;⟨(hs.2 p.1 ne).trans e,n,ne,nf,d⟩
  hok:=fun b ob e=>by
   refine(I.hok b ob e).stay (fun c w' hc q=>(hs.2 c ?_).trans q) (fun _ q=>q) fun _ _ q=>q
   rintro rfl
   rcases hc with rfl|hc
   ·rw[I.free]at e;cases e
   ·rw[I.free]at hc;cases hc
  len:=by simpa using I.len}
noncomputable def Jo(X:Cx)(sg:Str)(jo:Expr)(g:Nat->Str):Prop:=∀(s:Shared) (m:Str->Option Value) (c:Nat) (t:Tok) (Q E:Value->Shared->Prop),X.env.scope.kind=.function->s.heap.Ns X.env.locals m->m sg=some (.str ⟨#[c]⟩ t) ->
 (∀(v k:Nat),s.toks<=v->v<k->Q (.str (g c) v) {s with toks:=k})->wpAny (model X.prog X.w) X.A (eval jo X.env) Q E s
theorem A1{sg z:Str}{p1 p2 p3 p4:Pos}{k:Nat}(hk:X.env.scope.names.lookup sg=some .local)(hz:z.length<=1000)(hd:(sg == ("__debug__":Str))=false:=by decide) :
  Jo X sg (.JoinedStr [.FormattedValue (.Name sg p1) (-1) none p2,.Constant (.str z) k p3] p4) (fun c=>Str.empty++⟨#[c]⟩++z):=by
 intro s m c t Q E hf hn hm h
 have hs1:(Str.empty++(⟨#[c]⟩:Str)).length<=sizeLine:=by rw[strLen_append];show 0+1<=sizeLine;decide
 have hs2:(Str.empty++(⟨#[c]⟩:Str)++z).length<=sizeLine:=by
  rw[strLen_append,strLen_append]
  show 0+1+z.length<=sizeLine
  have:(1001:Nat)<=sizeLine:=by decide
  omega
 refine wpAny_JoinedStr (v₁:=.FormattedValue (.Name sg p1) (-1) none p2) (v₂:=.Constant (.str z) k p3) (rest:=[]) ?_
 refine wpAny_FormattedValue_plain (wpAny_Name (wpAny_loadName_local hf hk hn hm ?_) hd)
 refine wpAny_formatField_str ?_ ?_ (by show 1<=sizeLine;decide)
 ·exact⟨_,_,rfl,hs1,Calls.Constant_str ⟨_,_,rfl,hs2,hs2,h _ _ (Nat.le_succ _) (Nat.lt_succ_self _)⟩⟩
 ·exact⟨_,_,rfl,hs1,Calls.Constant_str ⟨_,_,rfl,hs2,hs2,h _ _ (Nat.le_trans (Nat.le_succ _) (Nat.le_succ _)) (Nat.lt_succ_self _)⟩⟩
theorem CC{sg z:Str}{p1 p2 p3 p4:Pos}{k:Nat}(hk:X.env.scope.names.lookup sg=some .local)(hz:z.length<=1000)(hd:(sg == ("__debug__":Str))=false:=by decide) :
  Jo X sg (.JoinedStr [.Constant (.str z) k p3,.FormattedValue (.Name sg p1) (-1) none p2] p4) (fun c=>Str.empty++z++⟨#[c]⟩):=by
 intro s m c t Q E hf hn hm h
 have hs1:(Str.empty++z).length<=sizeLine:=by
  rw[strLen_append]
  show 0+z.length<=sizeLine
  have:(1000:Nat)<=sizeLine:=by decide
  omega
 have hs2:(Str.empty++z++(⟨#[c]⟩:Str)).length<=sizeLine:=by
  rw[strLen_append,strLen_append]
  show 0+z.length+1<=sizeLine
  have:(1001:Nat)<=sizeLine:=by decide
  omega
 refine wpAny_JoinedStr (v₁:=.Constant (.str z) k p3) (v₂:=.FormattedValue (.Name sg p1) (-1) none p2) (rest:=[]) ?_
 refine Calls.Constant_str ⟨_,_,rfl,hs1,?_⟩
 refine wpAny_FormattedValue_plain (wpAny_Name (wpAny_loadName_local hf hk hn hm ?_) hd)
 refine wpAny_formatField_str ?_ ?_ (by show 1<=sizeLine;decide)
 ·exact⟨_,_,rfl,hs2,hs2,h _ _ (Nat.le_succ _) (Nat.lt_succ_self _)⟩
 ·exact⟨_,_,rfl,hs2,hs2,h _ _ (Nat.le_trans (Nat.le_succ _) (Nat.le_succ _)) (Nat.lt_succ_self _)⟩
end
noncomputable def repl(g:Nat->Str)(x:Str)(cs:List Nat):Str:=cs.foldl (fun x c=>Txt.replace x ⟨#[c]⟩ (g c)) x
noncomputable def JO(i j:Nat)(g:Nat->Str)(cs:Str):TS:=fun D σ H=>∃x,σ[i]?=some (some (.str x))/\(∀k,(repl g x (cs.cps.toList.take k)).length<=65535)/\D.nx ((σ.set i (some (.str (repl g x cs.cps.toList)))).set j none) H
section
variable {X:Cx}
theorem zC{i j:Nat}{sg tx cs:Str}{jo:Expr}{g:Nat->Str}{k:Nat}{p0 p1 p2 p3 p4 p5 p6 p7 p8:Pos}(hc:X.calm=true)(hN:X.N.Nodup)(hi:X.N[i]?=some tx)(hj:X.N[j]?=some sg)
  (ht:X.env.scope.names.lookup tx=some .local) (hg:X.env.scope.names.lookup sg=some .local) (hjo:Jo X sg jo g) (hgl:∀c,(g c).length<=100) (hgn:∀c,((⟨#[c]⟩:Str) == g c)=false) (hij:i≠j) (hascii:cs.cps.all (· < 128)=true)
  (hd:(tx == ("__debug__":Str))=false:=by decide) (hd2:(sg == ("__debug__":Str))=false:=by decide)
  (hbase:attributeBase (.Name tx p3) "replace" X.env (eval (.Name tx p3) X.env)=eval (.Name tx p3) X.env:=by rfl)
  (hfew:((backTo p6 (starEach [.Name sg p5,jo] X.env)).all (fun x=>!x.1)&&(backToKw p6 (keywordEach [] X.env)).all (fun x=>x.1.isSome)
   && decide (([.Name sg p5,jo]:List Expr).length+([]:List Keyword).length+(if([]:List Keyword).isEmpty then 0 else 1)<30))=true:=by rfl)
  (hline:(p4.endLine == p6.line)=true:=by rfl)
  (hs1:starEach [.Name sg p5,jo] X.env=[(false,eval (.Name sg p5) X.env),(false,eval jo X.env)]:=by rfl)
  (hbt:backTo p6 [(false,eval (.Name sg p5) X.env),(false,eval jo X.env)]=[(false,eval (.Name sg p5) X.env),(false,eval jo X.env)]:=by rfl)
  (hsw:swapsWith (.Call (.Attribute (.Name tx p3) "replace" p4) [.Name sg p5,jo] [] p6) (some (.Name tx p2)) p7.line X.env=pure false:=by rfl)
  (hfs:∀x,foldedSetIterable (.Constant (.str cs) k p1) X.env x=pure x:=by intro _;rfl) :
  PS X (.For (.Name sg p0) (.Constant (.str cs) k p1) [.Assign [.Name tx p2] (.Call (.Attribute (.Name tx p3) "replace" p4) [.Name sg p5,jo] [] p6) p7] [] p8) (JO i j g cs):=by
 intro pins s σ H D I h
 obtain⟨x,hx,hlen,hq⟩:=h
 have hiσ:i<σ.length:=by rw[I.len];exact(List.getElem?_eq_some_iff.mp hi).1
 have hjσ:j<σ.length:=by rw[I.len];exact(List.getElem?_eq_some_iff.mp hj).1
 refine wpAny_For (Calls.Constant_str (wpAny_pyIter_ascii hascii ?_)) hfs
 have hb:s.heap.objs.size<=s.heap.objs.size:=Nat.le_refl _
 have hn0:H s.heap.objs.size=none:=I.hok.fresh hb
 have fpk:nv X pins H s.heap.objs.size:=I.xP hb hn0
 obtain⟨f0,f1,f2,f3,f4,f5⟩:=fpk
 refine codeAny_forLoop_any (fun n s'=>∃a,n=cs.cps.size-a/\a<=cs.cps.size/\1<=s'.toks/\s'.heap.IsStrIter s.heap.objs.size "str_ascii_iterator" cs s.toks a /\
  Inv X pins ((σ.set i (some (.str (repl g x (cs.cps.toList.take a))))).set j none) H s') ?_ cs.cps.size ⟨0,rfl,Nat.zero_le _,Nat.le_add_left 1 s.toks,⟨_,Heap.get?_push_size _ rfl,rfl,rfl⟩,?_⟩
 ·rintro n s3 ⟨a,rfl,ha,ht3,st3,I3⟩
  by_cases hlt:a<cs.cps.size
  ·-- a sign
   have hgc:cs.cps[a]?=some cs.cps[a]:=Array.getElem?_eq_getElem hlt
   refine wpAny_pyNext_ascii_item st3 hgc fun h' st4 sb=>?_
   have I4:Inv X pins ((σ.set i (some (.str (repl g x (cs.cps.toList.take a))))).set j none) H {s3 with heap:=h',toks:=s3.toks+1} :=
    I3.turned (fun b o hb e=>(sb.2 b hb).trans e) f0 f1 f3 f4 f5
   obtain⟨o4,e4,c4,d4⟩:=id st4
   refine vB (s:={s3 with heap:=h',toks:=s3.toks+1}) (n:="str_ascii_iterator") e4 c4 d4 (by decide) ?_
   refine wpAny_assign_Name (pA I4 hN hj hg (v:=.str ⟨#[cs.cps[a]]⟩) ⟨_,rfl⟩ fun h5 m5 I5 n5 m5e sb5=>?_)
   have st5:h5.IsStrIter s.heap.objs.size "str_ascii_iterator" cs s.toks (a+1):=⟨o4,(sb5.2 _ f1).trans e4,c4,d4⟩
   rw[List.set_set]at I5
   refine wpAny_execs_cons (wpAny_Assign_Name ?_ hsw)
   -- the text
   obtain⟨m6,n6,l6⟩:=I5.loc
   obtain⟨u6,⟨t6,rfl⟩,k6⟩:=l6 i tx (.str (repl g x (cs.cps.toList.take a))) hi (by rw[List.getElem?_set_ne (Ne.symm hij),List.getElem?_set_self hiσ]) (.inl ht)
   have k6':m6 tx=some (.str (repl g x (cs.cps.toList.take a)) t6):=by
    rcases k6 with⟨_,e⟩|⟨z,_⟩
    ·exact e
    ·have z':X.env.scope.names.lookup tx=some .cell\/X.env.scope.names.lookup tx=some .free:=z
     rw[ht]at z'
     rcases z' with z'|z'<;>cases z'
   refine wpAny_Call_method_late hbase hfew hline rfl (wpAny_Name (wpAny_loadName_local I5.ok.kind ht n6 k6' ?_) hd)
   refine⟨"str","str.replace",F.plainAttrs_str,F.slot_str_replace,F.type_str_replace,typeIs_str _ _ _,fun a e=>(by cases e),?_⟩
   rw[hs1,hbt]
   refine Calls.callWith_builtin rfl (Calls.evalArgs_plain ?_)
   refine Calls.spliced_cons (wpAny_Name (wpAny_loadName_local I5.ok.kind hg n5 m5e ?_) hd2)
   refine Calls.spliced_cons (hjo _ m5 _ _ _ _ I5.ok.kind n5 m5e fun v kk hv1 hv2=>?_)
   refine Calls.spliced_nil ?_
   have hv1':s3.toks+1+1<=v:=hv1
   have hl:=hlen a
   have hgb:=hgl cs.cps[a]
   refine SC.replace (u:=s3.toks) (v:=v) (by show(s3.toks:Nat)≠0;omega) (by show(v:Nat)≠0;omega) (by show(s3.toks:Nat)≠v;omega) (hgn _) ?_ fun t' k'=>?_
   ·have h1:((repl g x (cs.cps.toList.take a)).length+1)*(g cs.cps[a]).length<=65536*100:=Nat.mul_le_mul (by omega) hgb
    omega
   -- the text is stored
   have tk:cs.cps.toList.take (a+1)=cs.cps.toList.take a++[cs.cps[a]]:=by
    have hla:a<cs.cps.toList.length:=by simpa using hlt
    rw[List.take_succ,List.getElem?_eq_getElem hla]
    simp
   have rp:repl g x (cs.cps.toList.take (a+1))=Txt.replace (repl g x (cs.cps.toList.take a)) ⟨#[cs.cps[a]]⟩ (g cs.cps[a]):=by
    rw[tk]
    unfold repl
    rw[List.foldl_append]
    rfl
   refine pA (I5.tok k') hN hi ht (v:=.str (repl g x (cs.cps.toList.take (a+1)))) ⟨t',by rw[rp]⟩ fun h8 m8 I8 n8 m8e sb8=>?_
   refine wpAny_execs_nil ⟨cs.cps.size - (a+1),by omega,a+1,rfl,hlt,Nat.le_add_left 1 _,⟨o4,(sb8.2 _ f1).trans ((sb5.2 _ f1).trans e4),c4,d4⟩,I8.weak ?_ ?_⟩
   ·simp
   ·intro q v hv
    by_cases hqj:q=j
    ·subst hqj
     rw[List.getElem?_set_self (by simpa using hjσ)]at hv
     cases hv
    ·rw[List.getElem?_set_ne (Ne.symm hqj)]at hv
     by_cases hqi:q=i
     ·subst hqi
      rw[List.getElem?_set_self (by simpa using hiσ)]at hv⊢
      exact hv
     ·rw[List.getElem?_set_ne (Ne.symm hqi)]at hv⊢
      rw[List.getElem?_set_ne (Ne.symm hqj),List.getElem?_set_ne (Ne.symm hqi)]
      exact hv
  ·have ea:a=cs.cps.size:=by omega
   subst ea
   refine wpAny_pyNext_ascii_end (I.ok.hd hc) st3 (by simp) fun h' he=>?_
   have I4:Inv X pins ((σ.set i (some (.str (repl g x (cs.cps.toList.take cs.cps.size))))).set j none) H {s3 with heap:=h'} :=
    I3.turned (t':=s3.toks) (fun b o hb e=>he b o hb e) f0 f1 f3 f4 f5
   refine wpAny_execs_nil ⟨_,H,I4,?_⟩
   have e:cs.cps.toList.take cs.cps.size=cs.cps.toList:=by rw[List.take_of_length_le];simp
   rw[e]
   exact hq
 ·have I1:Inv X pins σ H {s with heap:=s.heap.push {cls:=.type "str_ascii_iterator",data:=.fields #[.str cs s.toks,.int 0 0]},toks:=s.toks+1}:=I.kept (t':=s.toks+1) fun b o e=>Heap.get?_push_of_some _ e
  refine I1.weak (by simp) fun q v hv=>?_
  by_cases hqj:q=j
  ·subst hqj
   rw[List.getElem?_set_self (by simpa using hjσ)]at hv
   cases hv
  ·rw[List.getElem?_set_ne (Ne.symm hqj)]at hv
   by_cases hqi:q=i
   ·subst hqi
    rw[List.getElem?_set_self (by simpa using hiσ)]at hv
    rw[hx]
    exact hv
   ·rw[List.getElem?_set_ne (Ne.symm hqi)]at hv
    exact hv
end
noncomputable def subst1(c:Nat)(z:List Nat)(a:Nat):List Nat:=if a=c then z else [a]
theorem gh{c:Nat}{z:List Nat}:∀{l:List Nat},c∉l->l.flatMap (subst1 c z)=l
 | [],_=>rfl
 |a::r,h=>by
  have e:subst1 c z a=[a]:=by unfold subst1;rw[if_neg];intro e;exact h (by rw[e];exact List.mem_cons_self)
  rw[List.flatMap_cons,e,gh fun m=>h (List.mem_cons_of_mem _ m)]
  rfl
theorem sP{c:Nat}{z:Str}:∀{ps:List Str},(∀p∈ps,c∉p.cps.toList)->(Str.join ⟨#[c]⟩ ps).cps.toList.flatMap (subst1 c z.cps.toList)=(Str.join z ps).cps.toList
 | [],_=>rfl
 | [p],h=>gh (h p (List.mem_singleton.mpr rfl))
 |p::q::r,h=>by
  have ih:=sP (z:=z) (ps:=q::r) fun a ha=>h a (List.mem_cons_of_mem _ ha)
  show(p++⟨#[c]⟩++Str.join ⟨#[c]⟩ (q::r)).cps.toList.flatMap _=(p++z++Str.join z (q::r)).cps.toList
  simp only[Str.cps_append,Array.toList_append,List.flatMap_append]
  rw[ih,gh (h p List.mem_cons_self)]
  simp[subst1]
theorem CD(x z:Str)(c:Nat):(Txt.replace x ⟨#[c]⟩ z).cps.toList=x.cps.toList.flatMap (subst1 c z.cps.toList):=by
 rw[StrLaws.replace_one,←sP (StrLaws.split_free x c),StrLaws.join_split]
noncomputable def sp(c:Nat):List Nat->List (List Nat)
 | []=>[[]]
 |a::l=>if a=c then []::sp c l else match sp c l with
  |p::r=>(a::p)::r
  | []=>[[a]]
theorem ue{c:Nat}:∀{p l:List Nat},c∉p->sp c (p++c::l)=p::sp c l
 | [],l,_=>by show(if c=c then _ else _)=_;rw[if_pos rfl]
 |a::p,l,h=>by
  have ne:a≠c:=fun e=>h (by rw[e];exact List.mem_cons_self)
  have ih:=ue (p:=p) (l:=l) fun m=>h (List.mem_cons_of_mem _ m)
  show(if a=c then _ else match sp c (p++c::l)with|p::r=>(a::p)::r|[]=>[[a]])=_
  rw[if_neg ne,ih]
theorem uf{c:Nat}:∀{p:List Nat},c∉p->sp c p=[p]
 | [],_=>rfl
 |a::p,h=>by
  have ne:a≠c:=fun e=>h (by rw[e];exact List.mem_cons_self)
  show(if a=c then _ else match sp c p with|p::r=>(a::p)::r|[]=>[[a]])=_
  rw[if_neg ne,uf fun m=>h (List.mem_cons_of_mem _ m)]
theorem ug{c:Nat}:∀{ps:List Str},ps≠[]->(∀p∈ps,c∉p.cps.toList)->sp c (Str.join ⟨#[c]⟩ ps).cps.toList=ps.map fun p=>p.cps.toList
 | [],h,_=>absurd rfl h
 | [p],_,h=>uf (h p (List.mem_singleton.mpr rfl))
 |p::q::r,_,h=>by
  have ih:=ug (ps:=q::r) (by simp) fun a ha=>h a (List.mem_cons_of_mem _ ha)
  show sp c (p++⟨#[c]⟩++Str.join ⟨#[c]⟩ (q::r)).cps.toList=_
  simp only[Str.cps_append,Array.toList_append,List.append_assoc]
  show sp c (p.cps.toList++c::(Str.join ⟨#[c]⟩ (q::r)).cps.toList)=_
  rw[ue (h p List.mem_cons_self),ih]
  rfl
theorem vR(x:Str)(c:Nat):(Txt.split x ⟨#[c]⟩).map (fun p=>p.cps.toList)=sp c x.cps.toList:=by
 have h:=ug (c:=c) (ps:=Txt.split x ⟨#[c]⟩) (fun e=>by have:=split_pos x ⟨#[c]⟩;rw[e]at this;cases this) (StrLaws.split_free x c)
 rw[StrLaws.join_split]at h
 exact h.symm
noncomputable def au(l:List Nat):Str:=⟨l.toArray⟩
theorem az(x:Str):au x.cps.toList=x:=by cases x with|mk c=>rfl
theorem aA(l:List Nat):(au l).cps.toList=l:=by unfold au;simp
theorem aI(l:List Nat):(au l).length=l.length:=by unfold au;show l.toArray.size=_;simp
theorem uh{x:Str}{l:List Nat}(h:x.cps.toList=l):x=au l:=by rw[←h,az]
theorem A2(l:List Nat)(c:Nat):Txt.split (au l) ⟨#[c]⟩=(sp c l).map au:=by
 have h:=vR (au l) c
 rw[aA]at h
 rw[←h,List.map_map]
 conv=>lhs;rw[←List.map_id (Txt.split (au l) ⟨#[c]⟩)]
 exact List.map_congr_left fun p _=>(az p).symm
theorem k4(l:List Nat)(z:Str)(c:Nat):Txt.replace (au l) ⟨#[c]⟩ z=au (l.flatMap (subst1 c z.cps.toList)):=by
 have h:=CD (au l) z c
 rw[aA]at h
 exact uh h
noncomputable def wd(l:List Nat):List (List Nat):=(sp 32 l).filter fun p=>!p.isEmpty
theorem CF{w:List Nat}(h:32∉w)(h0:w≠[]):wd w=[w]:=by
 unfold wd
 rw[uf h]
 cases w with
 |nil=>exact absurd rfl h0
 |cons a r=>rfl
theorem um{w l:List Nat}(h:32∉w)(h0:w≠[]):wd (w++32::l)=w::wd l:=by
 unfold wd
 rw[ue h]
 cases w with
 |nil=>exact absurd rfl h0
 |cons a r=>rfl
theorem iH{l:List Nat}:wd (32::l)=wd l:=by
 unfold wd
 rw[show(32::l)=[]++32::l from rfl,ue (by simp)]
 rfl
theorem bZ(a b:List Nat):au a++au b=au (a++b):=uh (by rw[Str.cps_append,Array.toList_append,aA,aA])
end L2
open Lean in
def r2:List Name:=[`ok,`at',`kp,`bd,`qy,`rfl,`nq,`aj,`ao,`K,`PassesOwn.never,`X,`scope,`fp,`z_range]
open Lean in
def r3:List (Name × Name × Nat × List Nat):=[(`Z0,`nA,16,[1000,0,1,1001,1002,1003,2,204,101,3,4,4]),
 (`Z1,`dP,5,[100,101,4]),
 (`Z2,`yZ,99,[100,101,205,5,6]),
 (`Z3,`nB,9,[100,1,101,102,103,3,3,4,4]),
 (`Z4,`cJ,5,[100,101]),
 (`Z5,`sa,6,[100,101,102,103,4,7,8]),
 (`Z6,`AR,9,[100,1,101,102,103,3,3,4,4]),
 (`Z8,`iG,8,[100,101,206]),
 (`Z9,`dP,99,[100,207]),
 (`Za,`fO,11,[100,101,102,9,205,205,205,10,103,104,11,105,12]),
 (`Zb,`iU,99,[100,101,208,13]),
 (`Zc,`aV,3,[100]),
 (`Zd,`cy,8,[100,101,102]),
 (`Ze,`qG,15,[100,101,102,9,205,205,205,10,103,104,11,105,106,7,12]),
 (`Zf,`b7,4,[100]),
 (`Zg,`Ez,99,[100,1,101,10,205]),
 (`Zh,`EX,5,[100,209,205,205,101,4,4]),
 (`Zi,`fN,99,[100,101,102,14]),
 (`Zj,`qv,5,[100]),
 (`Zl,`HA,8,[210,205,100,101,102,12]),
 (`Zm,`cR,99,[211,212,15,213,100,101,102]),
 (`Zn,`oG,6,[1,214,100,4]),
 (`Zo,`Hr,3,[100,12]),
 (`Zp,`iU,7,[100,101,102,13]),
 (`Zq,`bW,5,[100,101,4]),
 (`Zr,`fN,8,[100,101,102,14]),
 (`Zs,`ah,99,[100,16])]
set_option hygiene false in
open Lean in
def r8:Nat->MacroM Term
 | 0=>`(hr.mono (by omega))
 | 1=>`(by show _=_;kernel_rfl)
 | 2=>`(.nil)
 | 3=>`(by decide)
 | 4=>`(by rfl)
 | 5=>`(Or.inl (by kernel_rfl))
 | 6=>`(by first|exact .inl rfl|exact .inr (by kernel_rfl))
 | 7=>`(by kernel_rfl)
 | 8=>`(by exact .inl rfl)
 | 9=>`([])
 | 10=>`(by decide +kernel)
 | 11=>`(fun _ _ _ _=>eU)
 | 12=>`(by intro _;rfl)
 | 13=>`(fun _ _=>rfl)
 | 14=>`(mG _)
 | 15=>`(own++fr.map fun j=>X.N.getD j Str.empty)
 | _=>`(_)
open Lean in
def r4 (f:Name)(a:Array Term):MacroM Term:=do
 let some (_,n,k,c):=r3.find? (·.1==f) | Macro.throwUnsupported
 let b←c.mapM fun i=>do
  if i<100 then r8 i else if i<200 then return a.getD (i-100) ⟨.missing⟩ else if i<1000 then return mkIdent (r2.getD (i-200) .anonymous) else return mkIdent ((a.getD (i/1000-1) ⟨.missing⟩).raw.getId++r2.getD (i%1000) .anonymous)
 let b:=b.toArray
 if k==99 then `($(mkIdent n) $b*) else
 let h←`(_)
 let s:=Array.replicate k h
 `(@$(mkIdent n) $s* $b*)
local macro_rules|`($f:ident $a*)=>r4 f.getId (a.map fun x=>⟨x.raw⟩)
namespace G09
open PySem L2
noncomputable abbrev vS:Str:="abcdefghijklmnopqrstuvwxyz"
noncomputable abbrev vU:Str:="0123456789"
noncomputable def jm:List Str:=["num","row","kind","def","more","first","others","long","match","if","let","fold","call","gap","in","world","fault","left"]
noncomputable abbrev pB:List V:=jm.map V.str
noncomputable def bS(n:Int):List Nat:=(Str.ofString (toString n)).cps.toList
noncomputable def low(c:Nat):Prop:=97<=c/\c<=122
noncomputable def bx(x:Str):Prop:=1<=x.length/\x.length<=6/\(∀c∈x.cps.toList,low c)/\x∉jm
noncomputable def dig(c:Nat):Bool:=decide (c∈vU.cps.toList)
noncomputable def pQ(l:List Nat)(m:Int):Bool:=if 1<=l.length/\(l.length:Int)<=m then(if(l.map dig).all id=true then(decide (l.length=1)||decide (l[0]?≠some 48))else false)else false
theorem yh:∀m:Nat,m<100->(1<=((Nat.toDigits 10 m).map Char.toNat).length/\((Nat.toDigits 10 m).map Char.toNat).length<=2/\(∀c∈(Nat.toDigits 10 m).map Char.toNat,48<=c/\c<=57)/\(((Nat.toDigits 10 m).map Char.toNat).length=1\/((Nat.toDigits 10 m).map Char.toNat)[0]?≠some 48)):=by
 decide +kernel
theorem fP{n:Int}(h:0<=n/\n<100):1<=(bS n).length/\(bS n).length<=2/\(∀c∈bS n,48<=c/\c<=57)/\((bS n).length=1\/(bS n)[0]?≠some 48):=by
 obtain⟨m,rfl⟩:=Int.eq_ofNat_of_zero_le h.1
 unfold bS
 rw[PySem.W.KIN.signs_num]
 exact yh m (by omega)
theorem CG:∀c:Nat,48<=c/\c<=57->c∈vU.cps.toList:=by
 intro c h
 rw[show vU.cps.toList=(List.range 10).map (·+48) by decide +kernel]
 exact List.mem_map.mpr ⟨c-48,List.mem_range.mpr (by omega),by omega⟩
theorem E2:∀c:Nat,c∈vU.cps.toList->48<=c/\c<=57:=by
 intro c h
 rw[show vU.cps.toList=(List.range 10).map (·+48) by decide +kernel]at h
 obtain⟨i,hi,rfl⟩:=List.mem_map.mp h
 have:=List.mem_range.mp hi
 omega
theorem HL:∀c:Nat,low c->c∈vS.cps.toList:=by
 intro c h
 rw[show vS.cps.toList=(List.range 26).map (·+97) by decide +kernel]
 unfold low at h
 exact List.mem_map.mpr ⟨c-97,List.mem_range.mpr (by omega),by omega⟩
theorem CH{x:Str}(h:x∉jm):nh (.str x) pB=false:=by
 unfold nh
 rw[List.any_eq_false]
 intro y hy e
 obtain⟨z,hz,rfl⟩:=List.mem_map.mp hy
 have:z=x:=eq_of_beq (show(z == x)=true from e)
 exact h (this▸hz)
theorem sQ:pB.all dI=true:=by decide +kernel
theorem all_true{f:Nat->Bool}:∀{l:List Nat},(∀a∈l,f a=true)->(l.map f).all id=true
 | [],_=>rfl
 |a::r,h=>by
  rw[List.map_cons,List.all_cons,all_true fun b hb=>h b (.tail _ hb),Bool.and_true]
  exact h a (.head _)
theorem A3{n:Int}(h:0<=n/\n<100):pQ (bS n) 2=true:=by
 obtain⟨d1,d2,d3,d4⟩:=fP h
 unfold pQ
 rw[if_pos ⟨d1,by omega⟩,if_pos (all_true (f:=dig) fun a ha=>decide_eq_true (CG a (d3 a ha)))]
 rcases d4 with e|e
 ·rw[decide_eq_true e];rfl
 ·rw[decide_eq_true e,Bool.or_true]
theorem jI{a:Nat}{l:List Nat}{m:Int}(h:¬(48<=a/\a<=57)):pQ (a::l) m=false:=by
 unfold pQ
 have:((a::l).map dig).all id=false:=by
  rw[List.map_cons,List.all_cons]
  have:dig a=false:=decide_eq_false fun z=>h (E2 a z)
  rw[this]
  rfl
 rw[this]
 split<;>rfl
end G09
namespace L2
open PySem PySem.Spec PyProof.Rows
inductive Bw where
 |a (w:List Nat)
 |g (o:Nat) (ws:List Bw)
theorem Bw.induct{P:Bw->Prop}(ha:∀w,P (.a w))(hg:∀o ws,(∀x∈ws,P x)->P (.g o ws))(b:Bw):P b :=
 Bw.rec (motive_1:=P) (motive_2:=fun xs=>∀x∈xs,P x) ha (fun o ws h=>hg o ws h) (fun _ h=>nomatch h) (fun _ _ h1 h2 y hy=>by
  cases hy with
  |head=>exact h1
  |tail _ h=>exact h2 y h) b
noncomputable def kE(o:Nat):Nat:=if o=40 then 41 else 93
mutual
noncomputable def Bw.toks:Bw->List (List Nat)
 |.a w=>[w]
 |.g o ws=>[o]::(Bw.bY ws++[[kE o]])
noncomputable def Bw.bY:List Bw->List (List Nat)
 | []=>[]
 |x::r=>x.toks++Bw.bY r
end
mutual
noncomputable def Bw.txt:Bw->List Nat
 |.a w=>w
 |.g o ws=>o::(Bw.bC ws++[kE o])
noncomputable def Bw.bC:List Bw->List Nat
 | []=>[]
 |x::r=>x.txt++Bw.bP r
noncomputable def Bw.bP:List Bw->List Nat
 | []=>[]
 |x::r=>32::(x.txt++Bw.bP r)
end
noncomputable def vV(c:Nat):Prop:=c≠32/\c≠40/\c≠41/\c≠91/\c≠93
mutual
noncomputable def Bw.ok:Bw->Prop
 |.a w=>w≠[]/\∀c∈w,vV c
 |.g o ws=>(o=40\/o=91)/\Bw.jF ws
noncomputable def Bw.jF:List Bw->Prop
 | []=>True
 |x::r=>x.ok/\Bw.jF r
end
noncomputable def E3(l:List Nat):List Nat:=(l.flatMap (subst1 40 [40,32])).flatMap (subst1 91 [91,32])
noncomputable def Gz(l:List Nat):List Nat:=(l.flatMap (subst1 41 [32,41])).flatMap (subst1 93 [32,93])
noncomputable def Rb(l:List Nat):List Nat:=Gz (E3 l)
theorem jJ(a b:List Nat):Rb (a++b)=Rb a++Rb b:=by unfold Rb E3 Gz;simp only[List.flatMap_append]
theorem E4{l:List Nat}(h:∀a∈l,vV a):Rb l=l:=by
 unfold Rb E3 Gz
 rw[gh (fun m=>(h _ m).2.1 rfl),gh (fun m=>(h _ m).2.2.2.1 rfl),gh (fun m=>(h _ m).2.2.1 rfl),gh (fun m=>(h _ m).2.2.2.2 rfl)]
theorem Li{o:Nat}(h:o=40\/o=91):Rb [o]=[o,32]:=by rcases h with rfl|rfl<;>rfl
theorem Lj{o:Nat}(h:o=40\/o=91):Rb [kE o]=[32,kE o]:=by rcases h with rfl|rfl<;>rfl
theorem zD:Rb [32]=[32]:=rfl
noncomputable def Tl(t:List Nat):Prop:=t=[]\/∃r,t=32::r
theorem GA(b:Bw):b.ok->∀tl,Tl tl->wd (Rb b.txt++tl)=b.toks++wd tl:=by
 refine Bw.induct (P:=fun b=>b.ok->∀tl,Tl tl->wd (Rb b.txt++tl)=b.toks++wd tl) (fun w h tl ht=>?_) (fun o ws ih h tl ht=>?_) b
 ·unfold Bw.ok at h
  unfold Bw.txt Bw.toks
  have n32:32∉w:=fun m=>(h.2 _ m).1 rfl
  rw[E4 h.2]
  rcases ht with rfl|⟨t,rfl⟩
  ·rw[List.append_nil,CF n32 h.1]
   rfl
  ·rw[um n32 h.1,iH]
   rfl
 ·unfold Bw.ok at h
  obtain⟨ho,hw⟩:=h
  have hr:∀ws:List Bw,(∀x∈ws,x.ok->∀tl,Tl tl->wd (Rb x.txt++tl)=x.toks++wd tl)->Bw.jF ws->∀t,wd (Rb (Bw.bP ws)++32::t)=Bw.bY ws++wd t:=by
   intro ws
   induction ws with
   |nil=>intro _ _ t;unfold Bw.bP Bw.bY;exact iH
   |cons x r ihr =>
    intro hx hw t
    unfold Bw.jF at hw
    unfold Bw.bP Bw.bY
    rw[show 32::(x.txt++Bw.bP r)=[32]++(x.txt++Bw.bP r)from rfl,jJ,jJ,zD]
    show wd (32::((Rb x.txt++Rb (Bw.bP r))++32::t))=_
    rw[iH,List.append_assoc]
    have ht':Tl (Rb (Bw.bP r)++32::t):=by
     cases r with
     |nil=>exact .inr ⟨t,rfl⟩
     |cons y q =>
      refine .inr ?_
      unfold Bw.bP
      rw[show 32::(y.txt++Bw.bP q)=[32]++(y.txt++Bw.bP q)from rfl,jJ,zD]
      exact⟨_,rfl⟩
    rw[hx x (.head _) hw.1 _ ht',ihr (fun z hz=>hx z (.tail _ hz)) hw.2 t,List.append_assoc]
  have hs:wd (Rb (Bw.bC ws)++32::(kE o::tl))=Bw.bY ws++wd (kE o::tl):=by
   cases ws with
   |nil=>unfold Bw.bC Bw.bY;exact iH
   |cons x r =>
    unfold Bw.jF at hw
    have z:=hr (x::r) (fun y hy hk=>ih y hy hk) (by unfold Bw.jF;exact hw) (kE o::tl)
    unfold Bw.bP at z
    rw[show 32::(x.txt++Bw.bP r)=[32]++(x.txt++Bw.bP r)from rfl,jJ,zD]at z
    rw[show([32]++Rb (x.txt++Bw.bP r))++32::kE o::tl=32::(Rb (x.txt++Bw.bP r)++32::kE o::tl)from rfl,iH]at z
    unfold Bw.bC
    exact z
  unfold Bw.txt Bw.toks
  rw[show o::(Bw.bC ws++[kE o])=[o]++(Bw.bC ws++[kE o])from rfl,jJ,jJ,Li ho,Lj ho]
  have e1:[o,32]++(Rb (Bw.bC ws)++[32,kE o])++tl=[o]++32::(Rb (Bw.bC ws)++32::kE o::tl):=by simp
  have no:32∉[o]:=by rcases ho with rfl|rfl<;>decide
  have nc:32∉[kE o]:=by rcases ho with rfl|rfl<;>decide
  have e2:wd (kE o::tl)=[kE o]::wd tl:=by
   rcases ht with rfl|⟨t,rfl⟩
   ·exact CF nc (by simp)
   ·rw[iH]
    exact um nc (by simp)
  rw[e1,um no (by simp),hs,e2]
  simp
noncomputable abbrev ni:=List (Nat×List Bw)
noncomputable def stp:ni->List Nat->Option ni
 |(o,xs)::st,w =>
  if w=[40]\/w=[91]then some ((w.headD 0,[])::(o,xs)::st)
  else if w=[41]\/w=[93]then(match st with
   |(o',ys)::st'=>if w=[kE o]then some ((o',ys++[.g o xs])::st')else none
   | []=>none)
  else some ((o,xs++[.a w])::st)
 | [],_=>none
theorem vW{o:Nat}{xs:List Bw}{st:ni}{w:List Nat}(h:w=[40]\/w=[91]):stp ((o,xs)::st) w=some ((w.headD 0,[])::(o,xs)::st):=by
 show(if w=[40]\/w=[91]then _ else _)=_
 rw[if_pos h]
theorem vX{o:Nat}{xs:List Bw}{st:ni}{w:List Nat}(h:¬(w=[40]\/w=[91]))(h2:¬(w=[41]\/w=[93])):stp ((o,xs)::st) w=some ((o,xs++[.a w])::st):=by
 show(if w=[40]\/w=[91]then _ else if w=[41]\/w=[93]then _ else _)=_
 rw[if_neg h,if_neg h2]
theorem A4{c o:Nat}{ws xs:List Bw}{st:ni}(hc:c=40\/c=91):stp ((c,ws)::(o,xs)::st) [kE c]=some ((o,xs++[.g c ws])::st):=by
 rw[stp,if_neg (by rcases hc with rfl|rfl<;>decide),if_pos (by rcases hc with rfl|rfl<;>decide)]
 exact if_pos rfl
noncomputable def mQ:ni->List (List Nat)->Option ni
 |st,[]=>some st
 |st,w::r=>(stp st w).bind fun st'=>mQ st' r
theorem nM:∀(l r:List (List Nat)) (st:ni),mQ st (l++r)=(mQ st l).bind fun st'=>mQ st' r
 | [],r,st=>rfl
 |w::l,r,st=>by
  show(stp st w).bind (fun st'=>mQ st' (l++r))=((stp st w).bind fun st'=>mQ st' l).bind _
  cases stp st w with
  |none=>rfl
  |some st'=>exact nM l r st'
theorem HM(b:Bw):b.ok->∀(o:Nat) (xs:List Bw) (st:ni),mQ ((o,xs)::st) b.toks=some ((o,xs++[b])::st):=by
 refine Bw.induct (P:=fun b=>b.ok->∀(o:Nat) (xs:List Bw) (st:ni),mQ ((o,xs)::st) b.toks=some ((o,xs++[b])::st)) (fun w h o xs st=>?_) (fun c ws ih h o xs st=>?_) b
 ·unfold Bw.ok at h
  have n:∀k,(k=40\/k=41\/k=91\/k=93)->w≠[k]:=fun k hk e=>by
   have:=h.2 k (by rw[e];exact .head _)
   unfold vV at this
   omega
  unfold Bw.toks
  show(stp ((o,xs)::st) w).bind _=_
  rw[vX (by rintro(e|e);exact n 40 (by simp) e;exact n 91 (by simp) e) (by rintro(e|e);exact n 41 (by simp) e;exact n 93 (by simp) e)]
  rfl
 ·unfold Bw.ok at h
  obtain⟨hc,hw⟩:=h
  have all:∀(l:List Bw),(∀x∈l,x.ok->∀(o:Nat) (xs:List Bw) (st:ni),mQ ((o,xs)::st) x.toks=some ((o,xs++[x])::st))->Bw.jF l->∀(o:Nat) (ys:List Bw) (st:ni),mQ ((o,ys)::st) (Bw.bY l)=some ((o,ys++l)::st):=by
   intro l
   induction l with
   |nil=>intro _ _ o ys st;unfold Bw.bY;rw[List.append_nil];rfl
   |cons x r ihr =>
    intro hx hk o ys st
    unfold Bw.jF at hk
    unfold Bw.bY
    rw[nM,hx x (.head _) hk.1,Option.bind_some,ihr (fun z hz=>hx z (.tail _ hz)) hk.2,List.append_assoc]
    rfl
  unfold Bw.toks
  show(stp ((o,xs)::st) [c]).bind _=_
  have e1:stp ((o,xs)::st) [c]=some ((c,[])::(o,xs)::st):=vW (by rcases hc with rfl|rfl<;>simp)
  rw[e1,Option.bind_some,nM,all ws (fun x hx hk=>ih x hx hk) hw,Option.bind_some,List.nil_append]
  show(stp ((c,ws)::(o,xs)::st) [kE c]).bind _=_
  have e2:stp ((c,ws)::(o,xs)::st) [kE c]=some ((o,xs++[.g c ws])::st):=A4 hc
  rw[e2]
  rfl
end L2
namespace G09
open PySem L2
inductive Cr|num|kd (x:Str)|op (n:Int)
noncomputable def Cr.L:Cr->List Nat
 |.num=>[110,117,109]
 |.kd x=>x.cps.toList
 |.op n=>63::bS n
noncomputable def Cr.ok:Cr->Prop
 |.num=>True
 |.kd x=>bx x
 |.op n=>0<=n/\n<100
noncomputable def CI:Cr->T
 |.num=>.s "num"
 |.kd x=>.t [.s "kind",.s x]
 |.op n=>.t [.s "open",.i n]
noncomputable def kT(c:Cr):Nat->T
 |0=>CI c
 |d+1=>.t [.s "row",kT c d]
noncomputable def kL(c:Cr):Nat->List Nat
 |0=>c.L
 |d+1=>40::114::111::119::32::(kL c d++[41])
noncomputable abbrev kS(c:Cr)(d:Nat):Str:=au (kL c d)
theorem Cr.sg:∀{c:Cr},c.ok->∀a∈c.L,vV a
 |.num,_,a,ha=>by
  have ha:a∈[110,117,109]:=ha
  simp at ha
  unfold vV
  omega
 |.kd x,h,a,ha=>by
  have:=h.2.2.1 a ha
  unfold low at this
  unfold vV
  omega
 |.op n,h,a,ha=>by
  unfold vV
  cases ha with
  |head=>omega
  |tail _ ha=>have:=(fP h).2.2.1 a ha;omega
theorem Cr.len:∀{c:Cr},c.ok->1<=c.L.length/\c.L.length<=6
 |.num,_=>⟨by decide,by decide⟩
 |.kd x,h=>by
  have e:(Cr.kd x).L.length=x.length:=by show x.cps.toList.length=x.cps.size;simp
  rw[e]
  exact⟨h.1,h.2.1⟩
 |.op n,h=>by have:=fP h;show 1<=(bS n).length+1/\(bS n).length+1<=6;omega
theorem Cr.ne{c:Cr}(h:c.ok):c.L≠[]:=fun e=>by have:=(c.len h).1;rw[e]at this;cases this
theorem yi{c:Cr}(h:c.ok):∀d,(kL c d).length<=6*d+6
 |0=>Nat.le_trans (c.len h).2 (by omega)
 |d+1=>by
  have:=yi h d
  show((kL c d++[41]).length+1+1+1+1+1)<=_
  rw[List.length_append]
  show(kL c d).length+1+1+1+1+1+1<=_
  omega
noncomputable def Cr.cl:Cr->Bool
 |.op _=>false
 |_=>true
noncomputable def kB(c:Cr):Nat->Bw
 |0=>.a c.L
 |d+1=>.g 40 [.a [114,111,119],kB c d]
theorem yj(c:Cr):∀d,(kB c d).txt=kL c d
 |0=>by unfold kB kL;rw[Bw.txt]
 |d+1=>by
  have:=yj c d
  unfold kB kL
  rw[Bw.txt,Bw.bC,Bw.bP,Bw.bP,Bw.txt,this]
  simp[kE]
theorem CJ{c:Cr}(h:c.ok):∀d,(kB c d).ok
 |0=>by unfold kB;rw[Bw.ok];exact⟨c.ne h,fun a ha=>c.sg h a ha⟩
 |d+1=>by
  have:=CJ h d
  unfold kB
  rw[Bw.ok,Bw.jF,Bw.jF,Bw.jF,Bw.ok]
  refine⟨.inl rfl,⟨by simp,fun a ha=>?_⟩,this,trivial⟩
  simp at ha
  unfold vV
  omega
end G09
namespace L2
open PySem
inductive Hd where
 |num (n:Int)|name (x:Str)|gap (n:Int)|op (s:Str)|row|more|first|others|long|tag (t:Str)|call (f:Str)|mat (arms:List (Str×List Str))|ife|lt (x:Str)|fold (x y:Str)
inductive Tm where
 |mk (h:Hd) (ks:List Tm)
noncomputable def Tm.hd:Tm->Hd|.mk h _=>h
noncomputable def Tm.ks:Tm->List Tm|.mk _ ks=>ks
theorem Tm.induct{P:Tm->Prop}(hm:∀h ks,(∀k∈ks,P k)->P (.mk h ks))(a:Tm):P a :=
 Tm.rec (motive_1:=P) (motive_2:=fun xs=>∀x∈xs,P x) hm (fun _ h=>nomatch h) (fun _ _ h1 h2 y hy=>by
  cases hy with
  |head=>exact h1
  |tail _ h=>exact h2 y h) a
noncomputable def CK:Hd->Nat->Bool
 |.num _,n=>n == 0
 |.name _,n=>n == 0
 |.gap _,n=>n == 0
 |.op _,n=>n == 2
 |.row,_=>true
 |.more,n=>n == 2
 |.first,n=>n == 1
 |.others,n=>n == 1
 |.long,n=>n == 1
 |.tag _,_=>true
 |.call _,_=>true
 |.mat arms,n=>n == arms.length+1
 |.ife,n=>n == 3
 |.lt _,n=>n == 2
 |.fold _ _,n=>n == 3
noncomputable def jd(a:Str×List Str)(k:T):T:=.t [.s a.1,.t (a.2.map .s),k]
noncomputable def vY:Hd->List T->T
 |.num n,_=>.t [.s "num",.i n]
 |.name x,_=>.t [.s "name",.s x]
 |.gap n,_=>.t [.s "gap",.i n]
 |.op s,ks=>.t (.s "op"::.s s::ks)
 |.row,ks=>.t [.s "row",.t ks]
 |.more,ks=>.t (.s "more"::ks)
 |.first,ks=>.t (.s "first"::ks)
 |.others,ks=>.t (.s "others"::ks)
 |.long,ks=>.t (.s "long"::ks)
 |.tag t,ks=>.t [.s "tag",.s t,.t ks]
 |.call f,ks=>.t [.s "call",.s f,.t ks]
 |.mat arms,ks=>.t [.s "match",ks.headD .n,.t (List.zipWith jd arms ks.tail)]
 |.ife,ks=>.t (.s "if"::ks)
 |.lt x,ks=>.t (.s "let"::.s x::ks)
 |.fold x y,ks=>.t [.s "fold",ks.getD 0 .n,.s x,.s y,ks.getD 1 .n,ks.getD 2 .n]
mutual
noncomputable def enc:Tm->T
 |.mk h ks=>vY h (E5 ks)
noncomputable def E5:List Tm->List T
 | []=>[]
 |k::r=>enc k::E5 r
end
theorem vZ:∀ks:List Tm,E5 ks=ks.map enc
 | []=>rfl
 |k::r=>by unfold E5;rw[vZ r];rfl
theorem cS(h:Hd)(ks:List Tm):enc (.mk h ks)=vY h (ks.map enc):=by unfold enc;rw[vZ]
mutual
noncomputable def Tm.size:Tm->Nat
 |.mk _ ks=>Tm.sizes ks+1
noncomputable def Tm.sizes:List Tm->Nat
 | []=>0
 |k::r=>k.size+Tm.sizes r
end
mutual
noncomputable def Tm.depth:Tm->Nat
 |.mk _ []=>0
 |.mk _ (k::r)=>Tm.oR (k::r)+1
noncomputable def Tm.oR:List Tm->Nat
 | []=>0
 |k::r=>max k.depth (Tm.oR r)
end
theorem Tm.cT(k:Tm)(r:List Tm):Tm.sizes (k::r)=k.size+Tm.sizes r:=by rw[Tm.sizes]
theorem Tm.uo(h:Hd)(ks:List Tm):(Tm.mk h ks).size=Tm.sizes ks+1:=by rw[Tm.size]
theorem Tm.yk(h:Hd)(k:Tm)(r:List Tm):(Tm.mk h (k::r)).depth=Tm.oR (k::r)+1:=by rw[Tm.depth]
theorem Tm.nN:∀(a b:List Tm),Tm.sizes (a++b)=Tm.sizes a+Tm.sizes b
 | [],b=>by simp[Tm.sizes]
 |k::r,b=>by rw[List.cons_append,Tm.cT,Tm.cT,Tm.nN r b];omega
theorem Tm.yl{ks:List Tm}{k:Tm}(h:k∈ks):k.depth<=Tm.oR ks:=by
 induction ks with
 |nil=>cases h
 |cons y r ih =>
  unfold Tm.oR
  cases h with
  |head=>exact Nat.le_max_left _ _
  |tail _ h=>exact Nat.le_trans (ih h) (Nat.le_max_right _ _)
theorem Tm.sR{h:Hd}{ks:List Tm}{k:Tm}(m:k∈ks):k.depth<(Tm.mk h ks).depth:=by
 cases ks with
 |nil=>cases m
 |cons y r=>rw[Tm.yk];exact Nat.lt_succ_of_le (Tm.yl m)
theorem Tm.CL{h:Hd}{ks:List Tm}{n:Nat}(a:∀k∈ks,k.depth<=n):(Tm.mk h ks).depth<=n+1:=by
 cases ks with
 |nil=>unfold Tm.depth;omega
 |cons y r =>
  unfold Tm.depth
  refine Nat.succ_le_succ ?_
  generalize(y::r)=l at a
  induction l with
  |nil=>exact Nat.zero_le _
  |cons z q ih=>unfold Tm.oR;exact Nat.max_le.mpr ⟨a z (.head _),ih fun k hk=>a k (.tail _ hk)⟩
theorem v9(h:Hd)(ks:List T){n:Nat}(a:∀k∈ks,k.dep<=n):(vY h ks).dep<=n+4:=by
 have big:∀xs:List T,(∀x∈xs,x.dep<=n+3)->(T.t xs).dep<=n+4:=fun xs z=>T.vI z
 have s0:∀x:Str,(T.s x).dep<=n+3:=fun _=>by unfold T.dep;omega
 have i0:∀x:Int,(T.i x).dep<=n+3:=fun _=>by unfold T.dep;omega
 have n0:(T.n).dep<=n:=by unfold T.dep;omega
 have k0:∀x∈ks,x.dep<=n+3:=fun x hx=>Nat.le_trans (a x hx) (by omega)
 have t0:(T.t ks).dep<=n+3:=Nat.le_trans (T.vI a) (by omega)
 have g0:∀i,(ks.getD i .n).dep<=n+3:=fun i=>by
  rw[List.getD_eq_getElem?_getD]
  cases e:ks[i]? with
  |none=>exact Nat.le_trans n0 (by omega)
  |some x=>exact k0 x (List.mem_of_getElem? e)
 have nms:∀xs:List Str,(T.t (xs.map .s)).dep<=1:=fun xs=>T.vI (n:=0) fun x hx=>by
  obtain⟨y,_,rfl⟩:=List.mem_map.mp hx
  unfold T.dep;omega
 have arm:∀(as:List (Str×List Str)) (q:List T),(∀k∈q,k.dep<=n)->∀x∈List.zipWith jd as q,x.dep<=n+2:=by
  intro as q hq x hx
  obtain⟨i,hi⟩:=List.getElem?_of_mem hx
  rw[List.getElem?_zipWith]at hi
  split at hi
  ·rename_i a' b' _ h2
   cases hi
   unfold jd
   have hb:=hq b' (List.mem_of_getElem? h2)
   have e:=nms a'.2
   refine T.vI fun y hy=>?_
   simp only[List.mem_cons,List.not_mem_nil,or_false]at hy
   rcases hy with rfl|rfl|rfl
   ·unfold T.dep;omega
   ·omega
   ·omega
  ·cases hi
 have mem2:∀(x:T) (l:List T),x.dep<=n+3->(∀y∈l,y.dep<=n+3)->∀y∈x::l,y.dep<=n+3:=fun x l h1 h2 y hy=>by
  cases hy with
  |head=>exact h1
  |tail _ h=>exact h2 y h
 have mem0:∀y∈([]:List T),y.dep<=n+3:=fun _ h=>nomatch h
 cases h<;>unfold vY<;>refine big _ ?_
 case num=>exact mem2 _ _ (s0 _) (mem2 _ _ (i0 _) mem0)
 case name=>exact mem2 _ _ (s0 _) (mem2 _ _ (s0 _) mem0)
 case gap=>exact mem2 _ _ (s0 _) (mem2 _ _ (i0 _) mem0)
 case op=>exact mem2 _ _ (s0 _) (mem2 _ _ (s0 _) k0)
 case row=>exact mem2 _ _ (s0 _) (mem2 _ _ t0 mem0)
 case tag=>exact mem2 _ _ (s0 _) (mem2 _ _ (s0 _) (mem2 _ _ t0 mem0))
 case call=>exact mem2 _ _ (s0 _) (mem2 _ _ (s0 _) (mem2 _ _ t0 mem0))
 case mat arms =>
  refine mem2 _ _ (s0 _) (mem2 _ _ ?_ (mem2 _ _ (T.vI (arm arms ks.tail fun k hk=>a k (List.mem_of_mem_tail hk))) mem0))
  cases ks with
  |nil=>exact Nat.le_trans n0 (by omega)
  |cons k r=>exact k0 k (.head _)
 case lt=>exact mem2 _ _ (s0 _) (mem2 _ _ (s0 _) k0)
 case fold=>exact mem2 _ _ (s0 _) (mem2 _ _ (g0 _) (mem2 _ _ (s0 _) (mem2 _ _ (s0 _) (mem2 _ _ (g0 _) (mem2 _ _ (g0 _) mem0)))))
 all_goals exact mem2 _ _ (s0 _) k0
theorem E6(a:Tm):(enc a).dep<=4*a.depth+4:=by
 induction a using Tm.induct with
 |hm h ks ih =>
  rw[cS]
  cases ks with
  |nil=>exact Nat.le_trans (v9 h _ (n:=0) fun k hk=>nomatch hk) (by omega)
  |cons k r =>
   refine v9 h _ (n:=4*(Tm.mk h (k::r)).depth) fun x hx=>?_
   obtain⟨y,hy,rfl⟩:=List.mem_map.mp hx
   have z:=Tm.sR (h:=h) hy
   have q:=ih y hy
   omega
end L2
namespace L2
open PySem
noncomputable def di(H:Hp)(f:Addr):Prop:=∃p q:Int,H f=some (.lst [.int p,.int q])
noncomputable def Ext(f:Addr)(H H':Hp):Prop:=(∀b o,b≠f->H b=some o->H' b=some o)/\di H' f
theorem Ext.refl{f:Addr}{H:Hp}(h:di H f):Ext f H H:=⟨fun _ _ _ e=>e,h⟩
theorem Ext.trans{f:Addr}{H H1 H2:Hp}(a:Ext f H H1)(b:Ext f H1 H2):Ext f H H2:=⟨fun c o n e=>b.1 c o n (a.1 c o n e),b.2⟩
theorem Ext.same{f:Addr}{H H1 H2:Hp}(a:Ext f H H1)(s:aL H1 H2):Ext f H H2:=⟨fun c o n e=>s c o (a.1 c o n e),let⟨p,q,e⟩:=a.2;⟨p,q,s f _ e⟩⟩
theorem ah{H:Hp}{p:Addr}(h:H p=none)(o:HO):aL H (upd H p o):=fun b u q=>by rw[ay (bG q h)];exact q
theorem di.same{f:Addr}{H H':Hp}(h:di H f)(s:aL H H'):di H' f:=let⟨p,q,e⟩:=h;⟨p,q,s f _ e⟩
theorem Ext.tup{f:Addr}{H H':Hp}(e:Ext f H H')(hf:di H f){a:Addr}{xs:List V}(h:H a=some (.tup xs)):H' a=some (.tup xs):=by
 refine e.1 a _ ?_ h
 obtain⟨p,q,hf⟩:=hf
 exact su h hf (by intro z;cases z)
noncomputable def iI:Sp:=fun vs H Q _=>∃(f:Addr) (m:Int),vs=[.ref f,.int m]/\0<m/\m<1073741824/\di H f/\∀(r:Int) (H':Hp),0<=r->r<m->Ext f H H'->Q (.int r) H'
noncomputable def CM(K:PySem.W.Frag):Sp:=fun vs H Q _=>∃(a:Addr) (ns:List Int) (k:Int),vs=[.ref a,.int k]/\bB K H a (ns.map V.int)/\ns.length<=63/\0<=k/\k<=100 /\
 ∀(r:Addr) (H':Hp),aL H H'->H r=none->di H' r->Q (.ref r) H'
theorem small{n:Nat}(h:n<=1000):n<=sizeLine:=Nat.le_of_lt (kZ h)
theorem zE{ns:List Int}{k:Int}(h0:0<=k)(h:k<(ns.length:Int)):∃v:Int,cK (ns.map V.int) k=some (.int v):=by
 have hk:k.toNat<ns.length:=by omega
 have ek:k=((k.toNat:Nat):Int):=by omega
 have q:cK (ns.map V.int) ((k.toNat:Nat):Int)=some (.int ns[k.toNat]):=bh (by rw[List.getElem?_map,List.getElem?_eq_getElem hk]<;>rfl)
 rw[←ek]at q
 exact⟨_,q⟩
theorem uq{α:Type}{xs:List α}{k:Int}(h0:0<=k)(h:k<(xs.length:Int)):∃v:α,cK xs k=some v/\v∈xs:=by
 have hk:k.toNat<xs.length:=by omega
 have ek:k=((k.toNat:Nat):Int):=by omega
 have q:cK xs ((k.toNat:Nat):Int)=some xs[k.toNat]:=bh (List.getElem?_eq_getElem hk)
 rw[←ek]at q
 exact⟨_,q,List.getElem_mem hk⟩
theorem Ext.kt{f:Addr}{H H':Hp}(e:Ext f H H')(hf:di H f):Kt H H':=fun a xs r=>by
 obtain⟨p,q,hf⟩:=hf
 rcases r with h|⟨o,h⟩
 ·exact .inl (e.1 a _ (su h hf (by intro z;cases z)) h)
 ·exact .inr ⟨o,e.1 a _ (su h hf (by intro z;cases z)) h⟩
theorem Ext.lst{f:Addr}{H H':Hp}(e:Ext f H H'){l:Addr}{xs:List V}(n:l≠f)(h:H l=some (.lst xs)):H' l=some (.lst xs):=e.1 l _ n h
theorem Ext.new{f:Addr}{H H':Hp}(e:Ext f H H'){p:Addr}(h:H' p=none)(o:HO):Ext f H (L2.upd H' p o):=e.same (ah h o)
structure bE(P:Program) (w:World) (K:PySem.W.Frag) (mg:Str->Option Value) (base:Heap) (x:Str) (k:Nat) (ps:List Str) (sp:Sp) (f:Addr) (fd:FuncData):Prop where
 ok:bK P w K mg base d8 k f fd ps sp
 at':mg x=some (.ref f)
 kp:PySem.W.keepIn K (.ref f)=true
 bd:Binds K fd ps []
theorem pX{P:Program}{w:World}{K:PySem.W.Frag}{mg:Str->Option Value}{base:Heap}{k:Nat}{f:Addr}{fd:FuncData}{ps:List Str}{sp:Sp}(h:∀vs H Q E,¬sp vs H Q E):bK P w K mg base d8 k f fd ps sp :=
 ⟨fun vs H Q E z=>(h vs H Q E z).elim,fun _ _ _ _ _ _ _ _ _ _ _ _ _ z=>(h _ _ _ _ z).elim⟩
end L2
namespace L2
open PySem PySem.Spec PyProof.Rows
theorem bf.same{K:PySem.W.Frag}{H H':Hp}(e:aL H H'){a:Addr}{xs:List V}(h:bf K H a xs):bf K H' a xs:=h.kt (Kt.same e)
theorem Rp.same{K:PySem.W.Frag}{H H':Hp}(e:aL H H'){x:T}{v:V}(h:Rp K H x v):Rp K H' x v:=h.kt (Kt.same e)
theorem aX.same{K:PySem.W.Frag}{H H':Hp}(e:aL H H'){x:List T}{v:List V}(h:aX K H x v):aX K H' x v:=h.kt (Kt.same e)
theorem Rp.new{K:PySem.W.Frag}{H:Hp}{p:Addr}(hp:H p=none){xs:List T}{vs:List V}(h:aX K H xs vs):Rp K (upd H p (.tup vs)) (.t xs) (.ref p):=.t (.of aa) (h.same (Zs hp))
section
variable {K:PySem.W.Frag}{Q:VK}{H0:Hp}
end
theorem j1{α β:Type}(f:α->Option β)(g:α->β):∀(l:List α),(∀a∈l,f a=some (g a))->l.filterMap f=l.map g
 | [],_=>rfl
 |a::r,h=>by rw[List.filterMap_cons,h a (.head _),List.map_cons,j1 f g r fun b hb=>h b (.tail _ hb)]
theorem A5{α:Type}(xs:List α):((List.range xs.length).map fun k=>xs.length-1-k).filterMap (xs[·]?)=xs.reverse:=by
 cases xs with
 |nil=>rfl
 |cons x r =>
  rw[List.filterMap_map,j1 _ (fun k=>(x::r).reverse.getD k x)]
  ·apply List.ext_getElem
   ·simp
   ·intro i h1 h2
    simp only[List.getElem_map,List.getElem_range]
    simp at h1
    simp only[List.getD_eq_getElem?_getD]
    rw[List.getElem?_eq_getElem h2]
    rfl
  ·intro k hk
   have hk':=List.mem_range.mp hk
   show(x::r)[(x::r).length-1-k]?=_
   have h2:k<(x::r).reverse.length:=by simpa using hk'
   simp only[List.getD_eq_getElem?_getD]
   rw[List.getElem?_eq_getElem h2,List.getElem_reverse,List.getElem?_eq_getElem (by omega)]
   rfl
theorem A6(n:Nat):sliceRange (sliceBounds none none (some (-1)) n).1 (sliceBounds none none (some (-1)) n).2.1 (sliceBounds none none (some (-1)) n).2.2=(List.range n).map fun k=>n-1-k:=by
 show sliceRange ((n:Int) - 1) (-1) (-1)=_
 unfold sliceRange
 have c:(if(-1:Int)>0 then(if(n:Int) - 1 < -1 then(-1 - ((n:Int) - 1)+-1-1) / -1 else 0)else(if(n:Int) - 1 > -1 then((n:Int) - 1 - -1 - -1-1) / (- -1)else 0))=(n:Int):=by
  rw[if_neg (by decide)]
  split
  ·rw[show(- -1:Int)=1 from rfl,Int.ediv_one];omega
  ·omega
 simp only[c,Int.toNat_natCast]
 refine List.map_congr_left fun k hk=>?_
 have:=List.mem_range.mp hk
 omega
theorem CN(xs:List V):qE xs none none (some (-1))=xs.reverse:=by
 rw[ET (A6 xs.length)]
 exact A5 xs
section
variable {K:PySem.W.Frag}{Q:VK}{H0:Hp}
end
noncomputable def JP(sc:Scope)(y:Str):Bool:=(sc.names.lookup y == some .local||sc.names.lookup y == some .cell||sc.names.lookup y == some .free)&&!(y == ("__debug__":Str))&&!(y == ("__classdict__":Str))
noncomputable abbrev Nm(N:List Str)(sc:Scope):Prop:=N.all (JP sc)=true
noncomputable def JQ(sc:Scope)(y:Str):Bool:=sc.names.lookup y == some .local||sc.names.lookup y == some .cell
noncomputable abbrev Lm(N:List Str)(sc:Scope):Prop:=N.all (JQ sc)=true
theorem Nm.get{N:List Str}{sc:Scope}(h:Nm N sc){i:Nat}{x:Str}(e:N[i]?=some x):Jh sc x/\(x == ("__debug__":Str))=false/\(x == ("__classdict__":Str))=false:=by
 have z:=List.all_eq_true.mp h x (List.mem_of_getElem? e)
 unfold JP at z
 simp only[Bool.and_eq_true,Bool.or_eq_true,Bool.not_eq_true']at z
 obtain⟨⟨z1,z2⟩,z3⟩:=z
 refine⟨?_,z2,z3⟩
 rcases z1 with(z1|z1)|z1
 ·exact Or.inl (eq_of_beq z1)
 ·exact Or.inr (Or.inl (eq_of_beq z1))
 ·exact Or.inr (Or.inr (eq_of_beq z1))
theorem Lm.get{N:List Str}{sc:Scope}(h:Lm N sc){i:Nat}{x:Str}(e:N[i]?=some x):Loc sc x:=by
 have z:=List.all_eq_true.mp h x (List.mem_of_getElem? e)
 unfold JQ at z
 simp only[Bool.or_eq_true]at z
 rcases z with z|z
 ·exact Or.inl (eq_of_beq z)
 ·exact Or.inr (eq_of_beq z)
section
variable {X:Cx}
theorem va{x:Str}{pos:Pos}(h:Nm X.N X.env.scope)(i:Nat)(hN:X.N[i]?=some x:=by rfl):PE X (.Name x pos) (Hq i):=BS hN (h.get hN).1 (h.get hN).2.1 (h.get hN).2.2
theorem sa{x:Str}{e:Expr}{te:TE}{pos pos':Pos}(hN:X.N.Nodup)(h:Lm X.N X.env.scope)(i:Nat)(he:PE X e te)(hi:X.N[i]?=some x:=by rfl)(hs:swapsWith e (some (.Name x pos')) pos.line X.env=pure false:=by kernel_rfl)
  (hf:X.fn x=true\/X.env.scope.names.lookup x=some .local:=by exact .inl rfl):PS X (.Assign [.Name x pos'] e pos) (AH te (vA i)):=j9 hN hi (h.get hi) he hs hf
theorem ga{x:Str}{pos:Pos}(hN:X.N.Nodup)(h:Lm X.N X.env.scope)(i:Nat)(hi:X.N[i]?=some x:=by rfl)(hf:X.fn x=true\/X.env.scope.names.lookup x=some .local:=by first|exact .inl rfl|exact .inr (by kernel_rfl)):PG X (.Name x pos) (vA i):=yZ hN hi (h.get hi) hf
end
section
variable {X:Cx}
theorem E7{y:Str}{posn posa:Pos}{gg:TG}{elt iter tg:Expr}{ifs:List Expr}{scope:Scope}{pos:Pos}{wi:TI}{g:TG}{tt:TT}{te:TE}(own:List Str)(fr:List Nat)(hc:X.calm=true)
  (hkind:scope.kind=.function) (hcell:∀x∈scope.names,x.2≠.cell) (hnames:∀x∈scope.names,x.2=.local->scope.names.lookup x.1=some .local)
  (hfr:∀x∈scope.names,x.2=.free->X.env.scope.names.lookup x.1=some .cell\/X.env.scope.names.lookup x.1=some .free)
  (hin:∀j∈fr,scope.names.lookup (X.N.getD j Str.empty)=some .free)
  (hi:PI X tg iter wi) (hg:∀fp C s H,PG (Zm C s H) tg g)
  (ht:∀fp C s H,AZ (Zm C s H) ifs tt)
  (he:∀fp C s H,PE (Zm C s H) elt te)
  (hgg:PG X (.Name y posn) gg) (hsw:swapsWith (.ListComp elt [⟨tg,iter,ifs,0⟩] scope pos) (some (.Name y posn)) posa.line X.env=pure true)
  (hs:∀x,foldedSetIterable iter X.env x=pure x:=by intro _;rfl):PS X (.Assign [.Name y posn] (.ListComp elt [⟨tg,iter,ifs,0⟩] scope pos) posa) (AH (zx own.length fr wi g tt te) gg):=by
 intro pins s σ H D0 I h
 rw[exec_Assign_Name_used _ _ _ _ hsw,arm_evalThenUse_ListComp]
 refine wpAny_bind (wpAny_standAt (wpAny_bind (wpAny_bind ?_)))
 have hfree:∀x∈scope.names,x.2=.free->∃c,X.env.cells.lookup x.1=some c:=fun x hx e=>I.ok.has x.1 (hfr x hx e)
 refine cF (wpAny_comprehension_free (use:=some (assign (.Name y posn) X.env)) (Q:=fun _ s'=>SP X pins D0 .next s') rfl hs (lT hfree) hkind hnames ?_) fun _ _ q=>wpAny_pure (wpAny_pure q)
 refine cF (hi pins s σ H _ I h) fun v s1 h1=>cF h1 fun itv s2 h2=>?_
 obtain⟨it,fp,tn,J,H2,e,I2,T,st2,f2,W,⟨m0,w0⟩,turn⟩:=h2
 subst e
 have hfo:∀b∈fp,b<s2.heap.objs.size:=fun b hb=>by obtain⟨o,e,_⟩:=T.obj 0 _ st2 b hb;exact Heap.lt_size e
 refine wpAny_newObj_type (wpAny_newFunctionEnv hcell (by intro y hy;simp at hy) (fun h₁ hns₁ hsb₁=>?_) hkind)
 dsimp only at hns₁ hsb₁⊢
 generalize hH2:s2.heap.push {cls:=.type "list",dict:=none,data:=.seq ([]:List Value).toArray}=G2 at hns₁ hsb₁⊢
 have hC:G2.objs.size=s2.heap.objs.size+1:=by rw[←hH2,Heap.size_push]
 have hDC:s2.heap.objs.size≠G2.objs.size:=by rw[hC];exact Nat.ne_of_lt (Nat.lt_succ_self _)
 have hCle:s2.heap.objs.size<=G2.objs.size:=by rw[hC];exact Nat.le_succ _
 have old:∀b o,s2.heap.get? b=some o->h₁.get? b=some o:=fun b o e=>hsb₁.extBut b o (by rw[hC];exact Nat.ne_of_lt (Nat.lt_succ_of_lt (Heap.lt_size e))) (Heap.get?_push_of_some _ (hH2▸Heap.get?_push_of_some _ e))
 have hacc:h₁.PlainList s2.heap.objs.size #[]:=⟨_,hsb₁.extBut _ _ hDC (Heap.get?_push_of_some _ (hH2▸Heap.get?_push_size _ rfl))⟩
 have I3:Inv (Zm G2.objs.size s2 H2) [] (iV own.length fr σ) H2 {s2 with heap:=h₁,toks:=s2.toks+([]:List (Str×Value)).length} :=
  qC I2 hkind hcell hfr hin hCle f2 hfo old hns₁
 have st3:tn 0 h₁:=T.keep 0 _ _ st2 fun b _ o e=>old b o e
 have hDf:s2.heap.objs.size∉fp:=fun hm=>Nat.lt_irrefl _ (hfo _ hm)
 have hDn2:H2 s2.heap.objs.size=none:=I2.hok.fresh (Nat.le_refl _)
 have sub:∀y c,(cD X.env scope.names []).lookup y=some c->X.env.cells.lookup y=some c:=ig _ _ hfree (by intro y c e;simp at e)
 have cellD:∀y c,(cD X.env scope.names []).lookup y=some c->c≠s2.heap.objs.size:=fun y c e=>by
  obtain⟨_,o,ho,_⟩:=I2.cell y c (sub y c e)
  exact Nat.ne_of_lt (Heap.lt_size ho)
 have Dfs:s2.heap.objs.size∉frs X.stack:=fun z=>by
  rcases List.mem_cons.mp (I2.qk _ z)with e|e
  ·exact absurd I2.lt (by rw[←e];exact Nat.lt_irrefl _)
  ·exact I2.Ex (Nat.le_refl _) e
 -- the iterator's records,in the block's context
 have stat:∀{H':Hp}{pl:List (Addr×Obj)},(∀b∈fp,H' b=none)->(∀p∈pl,p.1=s2.heap.objs.size)->∀b∈fp,nv (Zm G2.objs.size s2 H2) pl H' b:=fun{H' pl} hn hp b hb=>by
  refine⟨hn b hb,(I3.ok.exf b hb).1,I3.ok.exfs b hb,.inl hb,(I3.ok.exf b hb).2,fun p hpp z=>?_⟩
  have hpp':p∈pl:=by simpa[cR]using hpp
  exact hDf (by rw[←hp p hpp',z];exact hb)
 have pinD:∀{σ':St}{H':Hp}{s':Shared}{ys:Array Value}{n:Nat},Inv (Zm G2.objs.size s2 H2) [] σ' H' s'->H' s2.heap.objs.size=none->s'.heap.get? s2.heap.objs.size=some {cls:=.type "list",data:=.seq ys n} ->
   Inv (Zm G2.objs.size s2 H2) [(s2.heap.objs.size,{cls:=.type "list",data:=.seq ys n})] σ' H' s':=fun{σ' H' s' ys n} J hn e=>J.gn fun p hp=>by
  have e':p=(s2.heap.objs.size,{cls:=.type "list",data:=.seq ys n}):=by simpa using hp
  subst e'
  exact⟨e,hn,hDC,Dfs,fun v z=>nomatch z⟩
 have loop:codeAny (model X.prog X.w) X.A (.compLoop (.ListComp elt [⟨tg,iter,ifs,0⟩] scope pos) 0 (.ref it) (.ref s2.heap.objs.size) (compEnvC scope (cD X.env scope.names []) G2.objs.size X.env))
   (compPost (model X.prog X.w) X.A X.xe (some (assign (.Name y posn) X.env)) (fun _ s'=>SP X pins D0 .next s') (.ref s2.heap.objs.size) G2.objs.size) {s2 with heap:=h₁,toks:=s2.toks+([]:List (Str×Value)).length}:=by
  refine gw (E:=fun _ _=>False) (fun n s'=>∃i σ' H' vs ys,Inv (Zm G2.objs.size s2 H2) [] σ' H' s'/\tn i s'.heap/\(∀b∈fp,H' b=none)/\H' s2.heap.objs.size=none/\s'.heap.PlainList s2.heap.objs.size ys/\Vals vs ys.toList/\W i n σ' vs H')
   ?_ (fun _ _ z=>z.elim) m0 ⟨0,_,H2,[],#[],I3,st3,fun b hb=>(f2 b hb).1,hDn2,hacc,.nil,w0⟩
  rintro n s3 ⟨i,σ3,H3,vs,ys,J3,st3,fr3,dn3,⟨pn,pl3⟩,rv,w3⟩
  have J3':=pinD J3 dn3 pl3
  have hpins:∀p∈[(s2.heap.objs.size,({cls:=.type "list",data:=.seq ys pn}:Obj))],p.1=s2.heap.objs.size:=fun p hp=>by
   have e':p=(s2.heap.objs.size,{cls:=.type "list",data:=.seq ys pn}):=by simpa using hp
   rw[e']
  rcases turn i n σ3 vs H3 w3 with⟨stop,hz,q⟩|⟨go,hz,N,hN,step⟩
  ·refine cF (T.done (Zm G2.objs.size s2 H2) rfl rfl rfl hc i _ s3 σ3 H3 (fun _ _=>False) J3' (stat fr3 hpins) st3 stop) fun r s4 ⟨hr,J4⟩=>?_
   subst hr
   obtain⟨m4,hn4,_⟩:=id J4.loc
   have e4:s4.heap.get? s2.heap.objs.size=some {cls:=.type "list",data:=.seq ys pn}:=(J4.pin (s2.heap.objs.size,{cls:=.type "list",data:=.seq ys pn}) (List.mem_append_right _ (by simp))).1
   obtain⟨oC,es,ep,eC,dC,kC,fC⟩:=hn4
   have I4:Inv X pins σ (upd H3 s2.heap.objs.size (.lst vs)) s4:=qD (h'':=s4.heap) I2 f2 J4 hCle (Nat.le_refl _) hDC dn3 ⟨pn,e4⟩ rv hz ⟨rfl,fun _ _=>rfl⟩
   have cL:G2.objs.size≠X.env.locals:=fun z=>absurd I2.lt (by rw[←z];exact Nat.not_lt.mpr hCle)
   have I5:Inv X (pins++[(G2.objs.size,oC)]) σ (upd H3 s2.heap.objs.size (.lst vs)) s4:=I4.gn fun p hp=>by
    rcases List.mem_append.mp hp with z|z
    ·exact I4.pin p (List.mem_append_right _ z)
    ·have z:p=(G2.objs.size,oC):=by simpa using z
     subst z
     exact⟨eC,by rw[ay hDC.symm];exact J4.free,cL,I2.Ex hCle,fun v zv=>by rw[dC]at zv;cases zv⟩
   show wpAny _ _ (assign (.Name y posn) X.env (.ref s2.heap.objs.size)) _ _ _
   refine cF (hgg _ s4 σ _ (.ref s2.heap.objs.size) _ _ I5 rfl (q _ dn3)) fun _ s5 ⟨σ5,H5,I6,q6⟩=>?_
   have pC:=I6.pin (G2.objs.size,oC) (List.mem_append_right _ (List.mem_append_right _ (by simp)))
   refine⟨m4,⟨oC,es,ep,pC.1,dC,kC,fC⟩,fun h' hs'=>?_⟩
   have I7:Inv X pins σ5 H5 s5:=I6.gn fun p hp=>I6.pin p (List.mem_append_right _ (List.mem_append_left _ hp))
   refine⟨σ5,H5,I7.turned (t':=s5.toks) (it:=G2.objs.size) (fun b o hb e=>(hs'.2 b hb).trans e) pC.2.1 cL (.inr (Nat.le_trans I2.sz hCle)) (fun x c e z=>?_) (fun p hp z=>?_),q6⟩
   ·obtain⟨_,o,ho,_⟩:=I2.cell x c e
    exact absurd (Heap.lt_size ho) (by rw[z];exact Nat.not_lt.mpr hCle)
   ·exact absurd (Heap.lt_size (I2.pin p hp).1) (by rw[z];exact Nat.not_lt.mpr hCle)
  ·refine cF (T.item (Zm G2.objs.size s2 H2) rfl rfl rfl hc i _ s3 σ3 H3 (fun _ _=>False) J3' (stat fr3 hpins) st3 go) fun r s4 ⟨u,hr,h4⟩=>?_
   subst hr
   refine cF h4 fun _ s5 ⟨x,H5,J5,r5,y5,st5,fr5⟩=>?_
   have J5':=J5.pinned (stat fr5 hpins) (T.obj _ _ st5)
   refine cF (hg fp _ s2 H2 _ s5 σ3 H5 x u _ J5' r5 (step x H5 y5)) fun _ s6 ⟨σ6,H6,J6,q6⟩=>?_
   refine cF (ht fp _ s2 H2 _ s6 σ6 H6 _ J6 q6) fun ok s7 ⟨H7,J7,q7⟩=>?_
   -- what stood pinned through the turn
   have after:∀{s8:Shared}{H8:Hp},Inv (Zm G2.objs.size s2 H2) ([(s2.heap.objs.size,({cls:=.type "list",data:=.seq ys pn}:Obj))]++oH fp s5.heap) σ6 H8 s8 ->
     tn (i+1) s8.heap/\(∀b∈fp,H8 b=none)/\H8 s2.heap.objs.size=none/\s8.heap.get? s2.heap.objs.size=some {cls:=.type "list",data:=.seq ys pn}:=fun{s8 H8} J8=>by
    refine⟨T.keep _ _ _ st5 fun b hb o e=>(J8.pin (b,o) (List.mem_append_right _ (List.mem_append_right _ (gc hb e)))).1,fun b hb=>?_,?_,?_⟩
    ·obtain⟨o,e,d⟩:=T.obj _ _ st5 b hb
     exact(J8.pin (b,o) (List.mem_append_right _ (List.mem_append_right _ (gc hb e)))).2.1
    ·exact(J8.pin (s2.heap.objs.size,{cls:=.type "list",data:=.seq ys pn}) (List.mem_append_right _ (List.mem_append_left _ (by simp)))).2.1
    ·exact(J8.pin (s2.heap.objs.size,{cls:=.type "list",data:=.seq ys pn}) (List.mem_append_right _ (List.mem_append_left _ (by simp)))).1
   cases ok with
   |false =>
    obtain⟨m',hm,w7⟩:=hN _ _ _ q7
    obtain⟨a1,a2,a3,a4⟩:=after J7
    exact⟨m',hm,i+1,σ6,H7,vs,ys,J7.gn (fun p hp=>absurd hp (by simp)),a1,a2,a3,⟨pn,a4⟩,rv,w7⟩
   |true =>
    refine cF (he fp _ s2 H2 _ s7 σ6 H7 _ J7 q7) fun y s8 ⟨v8,H8,J8,r8,n8⟩=>?_
    obtain⟨m',hm,w8⟩:=hN _ _ _ n8
    obtain⟨a1,a2,a3,a4⟩:=after J8
    have J9:Inv (Zm G2.objs.size s2 H2) [] σ6 H8 s8:=J8.gn (fun p hp=>absurd hp (by simp))
    have hys:ys.size<=sizeLine:=by
     have e1:vs.length=ys.toList.length:=rv.length
     have e2:ys.toList.length=ys.size:=by simp
     omega
    refine wpAny_list_append_plain (hsz:=hys) ⟨pn,a4⟩ fun h₅ hl₅ hs₅=>?_
    refine⟨m',hm,i+1,σ6,H8,vs++[v8],ys.push y,J9.turned (t':=s8.toks) (it:=s2.heap.objs.size) (fun b o hb e=>by rw[hs₅.2 b hb];exact e) a3 hDC (.inr (Nat.le_refl _)) cellD (fun p hp=>absurd (show p∈([]:List (Addr×Obj))from hp) (by simp)),
     T.keep _ _ _ a1 fun b hb o e=>(hs₅.2 b (fun z=>hDf (z▸hb))).trans e,a2,a3,hl₅,?_,w8⟩
    have:Vals (vs++[v8]) (ys.toList++[y]):=rv.append (.cons r8 .nil)
    simpa using this
 exact codeAny_compStart_list loop (T.self X.A 0 _ _ _ st3 loop)
end
theorem qG{X:Cx}{y:Str}{posn posa:Pos}{gg:TG}{elt iter tg:Expr}{ifs:List Expr}{scope:Scope}{pos:Pos}{wi:TI}{g:TG}{tt:TT}{te:TE}(sc:Scope)(N0 own:List Str)(fr:List Nat)(hc:X.calm=true)(hsc:X.env.scope=sc)(hN:X.N=N0)
  (ok:t9 scope sc N0 fr=true) (hi:PI X tg iter wi) (hg:∀fp C s H,PG (cR X scope (own++fr.map fun j=>N0.getD j Str.empty) fp C s H) tg g)
  (ht:∀fp C s H,AZ (cR X scope (own++fr.map fun j=>N0.getD j Str.empty) fp C s H) ifs tt)
  (he:∀fp C s H,PE (cR X scope (own++fr.map fun j=>N0.getD j Str.empty) fp C s H) elt te)
  (hgg:PG X (.Name y posn) gg) (hsw:swapsWith (.ListComp elt [⟨tg,iter,ifs,0⟩] scope pos) (some (.Name y posn)) posa.line X.env=pure true:=by kernel_rfl)
  (hs:∀x,foldedSetIterable iter X.env x=pure x:=by intro _;rfl):PS X (.Assign [.Name y posn] (.ListComp elt [⟨tg,iter,ifs,0⟩] scope pos) posa) (AH (zx own.length fr wi g tt te) gg):=by
 subst hsc hN
 unfold t9 at ok
 simp only[Bool.and_eq_true,List.all_eq_true,bne_iff_ne,beq_iff_eq,Bool.or_eq_true]at ok
 obtain⟨⟨k1,k2⟩,k3⟩:=ok
 refine E7 own fr hc k1 (fun x hx=>(k2 x hx).1.1) (fun x hx e=>?_) (fun x hx e=>?_) (fun j hj=>k3 j hj) hi hg ht he hgg hsw hs
 ·rcases(k2 x hx).1.2 with z|z
  ·exact absurd e z
  ·exact z
 ·rcases(k2 x hx).2 with(z|z)|z
  ·exact absurd e z
  ·exact .inl z
  ·exact .inr z
end L2
namespace G09
open PySem L2
noncomputable def top(i:Nat):Stmt:=PySem.Challenge.pw_gapwork_k09_whole_programs_written_and_r.main.body.getD i (.Pass ⟨0,0,0,0⟩)
noncomputable abbrev gx:Stmt:=top 6
noncomputable abbrev jn:Stmt:=top 7
noncomputable abbrev lg:Stmt:=top 8
noncomputable abbrev dj:Stmt:=top 9
noncomputable abbrev eV:Stmt:=top 10
noncomputable abbrev jq:Stmt:=top 11
noncomputable abbrev eW:Stmt:=top 12
noncomputable abbrev gy:Stmt:=top 14
noncomputable abbrev gz:Stmt:=top 15
noncomputable abbrev jt:Stmt:=top 16
noncomputable abbrev ju:Stmt:=top 21
noncomputable abbrev fQ:Stmt:=top 22
noncomputable abbrev lj:Stmt:=top 26
noncomputable abbrev fk:Stmt:=top 27
noncomputable abbrev ly:Stmt:=top 28
noncomputable abbrev iX:Stmt:=top 29
noncomputable abbrev jv:Stmt:=top 30
noncomputable abbrev jw:Stmt:=top 31
noncomputable abbrev iJ:Stmt:=top 32
noncomputable abbrev nO:Stmt:=top 33
noncomputable abbrev kG:Stmt:=top 34
noncomputable abbrev eX:Stmt:=top 35
noncomputable abbrev eG:Stmt:=top 36
noncomputable abbrev iY:Stmt:=top 37
noncomputable abbrev ej:Stmt:=top 38
noncomputable abbrev kH:Stmt:=top 39
noncomputable abbrev jK:Stmt:=top 40
noncomputable abbrev cY:Stmt:=top 41
noncomputable abbrev dJ:Stmt:=top 42
noncomputable abbrev eo:Stmt:=top 43
noncomputable abbrev iZ:Stmt:=top 45
noncomputable abbrev gG:Stmt:=top 46
noncomputable abbrev eY:Stmt:=top 47
noncomputable abbrev fR:Stmt:=top 48
noncomputable abbrev i6:Stmt:=top 49
noncomputable abbrev fE:Stmt:=top 50
noncomputable abbrev iC:Stmt:=top 51
noncomputable abbrev cU:Stmt:=top 52
noncomputable abbrev qH:Stmt:=top 54
noncomputable abbrev qI:Stmt:=top 55
noncomputable abbrev iK:Stmt:=top 56
noncomputable abbrev fS:Stmt:=top 57
noncomputable abbrev jx:Stmt:=top 58
noncomputable abbrev fT:Stmt:=top 59
noncomputable abbrev fU:Stmt:=top 60
noncomputable abbrev dm:Stmt:=top 61
noncomputable abbrev eI:Stmt:=top 62
noncomputable abbrev dO:Stmt:=top 63
noncomputable abbrev eZ:Stmt:=top 64
noncomputable abbrev iD:Stmt:=top 65
noncomputable abbrev cQ:Stmt:=top 66
noncomputable abbrev eJ:Stmt:=top 67
noncomputable abbrev fG:Stmt:=top 68
noncomputable abbrev cB:Stmt:=top 69
noncomputable abbrev bu:Stmt:=top 70
noncomputable abbrev iE:Stmt:=top 71
noncomputable abbrev lX:Stmt:=top 72
section
variable {P:Program}{w:World}{K:PySem.W.Frag}{mg:Str->Option Value}{base:Heap}
theorem ym:aH ["_law_feed_here","_law_many","_law_digit","_law_one"] ["_law_feed_here","_law_many"] (ae qI):=⟨rfl,rfl,rfl,by decide +kernel,rfl,by decide +kernel,by decide +kernel⟩
theorem E8{f:Addr}{fd:FuncData}(F:eN K "_law_take" "_law_take" qI f fd):bK P w K mg base d8 1 f fd ["_law_feed_here","_law_many"] iI:=by
 refine F.ok ym (fun vs H Q E h=>?_) (fun cdv A outer s H vs Q E hr h=>?_)
 ·obtain⟨a,m,rfl,_⟩:=h
  rfl
 obtain⟨a,m,rfl,m0,m1,⟨p,q,hf⟩,k⟩:=h
 refine⟨_,cJ (iG (Zi sy (Zb aN (pv 0)) ao)
   (cJ (j9 (i:=2) ym.nd rfl (Or.inl rfl) (cy ki (Zb aN (pv 0)) (pv 1)))
   (cJ (oF (cy tR (Zb aN (pv 0)) (pv 1)) (BV (pv 0) ao set_list))
   (aV (b7 (pv 2))))) nq)
  (cJ (j9 (i:=3) ym.nd rfl (Or.inl rfl) (cy ki (cy kh (Zb aN (pv 0)) ao) ao))
  (cJ (oF (cy fL (cy ki (cy fL (cy kh (pv 3) ao) ao) ao) ao) (BV (pv 0) ao set_list))
  (aV (b7 (cy ki (cy tR (cy fL (cy kh (pv 3) ao) (Zb aN (pv 0))) ao) (pv 1)))))),?_⟩
 have ext:∀p' q':Int,Ext a H (upd H a (.lst [.int p',.int q'])):=fun p' q'=>⟨fun b o n e=>by rw[ay n];exact e,p',q',aa⟩
 refine⟨_,rfl,a,_,0,_,rfl,rfl,bB.of hf,rfl,_,_,rfl,rfl,_,rfl,?_⟩
 refine dG (fun _=>?_) (fun _=>?_)
 ·refine⟨_,rfl,a,_,0,_,rfl,rfl,bB.of hf,rfl,_,rfl,_,_,rfl,rfl,m0,?_⟩
  refine⟨_,rfl,a,_,0,_,rfl,rfl,bB.of hf,rfl,_,rfl,_,_,rfl,rfl,⟨m0,m1⟩,?_⟩
  refine⟨_,rfl,a,_,0,0,rfl,rfl,hf,rfl,?_⟩
  refine⟨_,rfl,?_⟩
  exact k _ _ (Int.emod_nonneg _ (by omega)) (Int.emod_lt_of_pos _ m0) (ext _ _)
 ·refine⟨_,rfl,a,_,1,_,rfl,rfl,bB.of hf,rfl,_,_,rfl,rfl,.inr ⟨by decide,by decide⟩,_,_,rfl,rfl,(by show(0:Int)<2147483647;decide),?_⟩
  refine⟨_,rfl,_,_,rfl,rfl,.inr ⟨by decide,by decide⟩,_,_,rfl,rfl,_,_,rfl,rfl,(by show(0:Int)<2147483399;decide),_,_,rfl,rfl,?_⟩
  refine⟨_,rfl,a,_,1,1,rfl,rfl,hf,rfl,?_⟩
  refine⟨_,rfl,_,_,rfl,rfl,.inr ⟨by decide,by decide⟩,_,rfl,a,_,1,_,rfl,rfl,bB.of aa,rfl,_,_,rfl,rfl,_,_,rfl,rfl,⟨by decide,by decide⟩,_,rfl,_,_,rfl,rfl,m0,?_⟩
  exact k _ _ (Int.emod_nonneg _ (by omega)) (Int.emod_lt_of_pos _ m0) (ext _ _)
end
section
variable {P:Program}{w:World}{K:PySem.W.Frag}{mg:Str->Option Value}{base:Heap}
theorem oS:aH ["_law_script","_law_k","_law_cell","_law_own"] ["_law_script","_law_k"] (ae qH):=⟨rfl,rfl,rfl,by decide +kernel,rfl,by decide +kernel,by decide +kernel⟩
theorem E9{f:Addr}{fd:FuncData}(F:eN K "_law_feed" "_law_feed" qH f fd)(ml:mg "len"=none):bK P w K mg base d8 1 f fd ["_law_script","_law_k"] (CM K):=by
 refine F.ok oS (fun vs H Q E h=>?_) (fun cdv A outer s H vs Q E hr h=>?_)
 ·obtain⟨a,ns,m,rfl,_⟩:=h
  rfl
 obtain⟨a,ns,k,rfl,hS,hn,k0,k1,kk⟩:=h
 refine⟨_,cJ (j9 (i:=2) oS.nd rfl (Or.inl rfl) (cy fL (cy kh ao (pv 1)) ao))
  (cJ (iG (Zi ny (pv 1) (nB aY (by rfl) ml PySem.boot_len (cf (pv 0) aj)))
   (aV (j9 (i:=2) oS.nd rfl (Or.inl rfl) (iU aN (pv 0) (pv 1) (fun _ _=>rfl))))
   (aV (iG (Zi sy (nB aY (by rfl) ml PySem.boot_len (cf (pv 0) aj)) ao)
    (aV (j9 (i:=2) oS.nd rfl (Or.inl rfl) (cy fL (cy kh (cy ki (iU aN (pv 0) (cy ki (pv 1) (nB aY (by rfl) ml PySem.boot_len (cf (pv 0) aj))) (fun _ _=>rfl)) ao) ao) (cy kh ao (pv 1)))))
    nq)))
  (cJ (j9 (i:=3) oS.nd rfl (Or.inl rfl) ao)
  (cJ (iG (Zi JA (pv 2) (cy HC ao ao)) (aV (j9 (i:=3) oS.nd rfl (Or.inl rfl) (pv 2))) nq)
  (aV (b7 (bq (cf (pv 3) (cf (cy fL (cy ki (cy fL (cy kh (cy ki (pv 2) ao) ao) (cy kh ao (pv 1))) ao) ao) aj)))))))),?_⟩
 have hl:(ns.map V.int).length=ns.length:=List.length_map _
 refine⟨_,rfl,_,_,rfl,rfl,.inl ⟨by decide,by decide⟩,_,_,rfl,rfl,?_⟩
 refine⟨_,rfl,_,rfl,a,_,rfl,.inl hS,_,_,rfl,rfl,_,rfl,?_⟩
 refine dG (fun c=>?_) (fun c=>?_)
 ·have c':k<((ns.map V.int).length:Int):=of_decide_eq_true c
  rw[hl]at c'
  obtain⟨v,hv⟩:=zE (ns:=ns) k0 c'
  refine⟨_,rfl,_,rfl,a,_,_,_,rfl,rfl,hS,hv,?_⟩
  refine⟨_,rfl,_,_,rfl,rfl,⟨by decide,by decide,by decide⟩,_,_,rfl,rfl,_,rfl,dG (fun _=>?_) (fun _=>?_)⟩
  ·refine⟨_,rfl,_,rfl,_,rfl,_,_,rfl,rfl,(by show(0:Int)<2147483629;decide),_,_,rfl,rfl,.inr ⟨by decide,by decide⟩,_,rfl,_,_,rfl,rfl,.inl ⟨by decide,by decide⟩,_,_,rfl,rfl,_,_,rfl,rfl,(by show(0:Int)<2147483629;decide),_,_,rfl,rfl,(by show 2<=sizeLine;decide),fun l hl=>?_⟩
   exact kk l _ (Zs hl) hl ⟨_,_,aa⟩
  ·refine⟨_,rfl,_,rfl,_,_,rfl,rfl,(by show(0:Int)<2147483629;decide),_,_,rfl,rfl,.inr ⟨by decide,by decide⟩,_,rfl,_,_,rfl,rfl,.inl ⟨by decide,by decide⟩,_,_,rfl,rfl,_,_,rfl,rfl,(by show(0:Int)<2147483629;decide),_,_,rfl,rfl,(by show 2<=sizeLine;decide),fun l hl=>?_⟩
   exact kk l _ (Zs hl) hl ⟨_,_,aa⟩
 ·refine⟨_,rfl,a,_,rfl,.inl hS,_,_,rfl,rfl,_,rfl,?_⟩
  refine dG (fun d=>?_) (fun d=>?_)
  ·have d':(0:Int)<((ns.map V.int).length:Int):=of_decide_eq_true d
   have d2:(0:Int)<(ns.length:Int):=by rw[hl]at d';exact d'
   obtain⟨v,hv⟩:=zE (ns:=ns) (k:=k % (((ns.map V.int).length:Nat):Int)) (Int.emod_nonneg _ (by omega)) (by rw[hl];exact Int.emod_lt_of_pos _ d2)
   refine⟨_,rfl,_,rfl,_,rfl,a,_,rfl,.inl hS,_,_,rfl,rfl,d',a,_,_,_,rfl,rfl,hS,hv,_,_,rfl,rfl,(by show(0:Int)<2147483629;decide),_,_,rfl,rfl,.inr ⟨by decide,by decide⟩,_,rfl,_,_,rfl,rfl,.inl ⟨by decide,by decide⟩,_,_,rfl,rfl,?_⟩
   refine⟨_,rfl,_,_,rfl,rfl,⟨by decide,by decide,by decide⟩,_,_,rfl,rfl,_,rfl,dG (fun _=>?_) (fun _=>?_)⟩
   ·refine⟨_,rfl,_,rfl,_,rfl,_,_,rfl,rfl,(by show(0:Int)<2147483629;decide),_,_,rfl,rfl,.inr ⟨by decide,by decide⟩,_,rfl,_,_,rfl,rfl,.inl ⟨by decide,by decide⟩,_,_,rfl,rfl,_,_,rfl,rfl,(by show(0:Int)<2147483629;decide),_,_,rfl,rfl,(by show 2<=sizeLine;decide),fun l hl=>?_⟩
    exact kk l _ (Zs hl) hl ⟨_,_,aa⟩
   ·refine⟨_,rfl,_,rfl,_,_,rfl,rfl,(by show(0:Int)<2147483629;decide),_,_,rfl,rfl,.inr ⟨by decide,by decide⟩,_,rfl,_,_,rfl,rfl,.inl ⟨by decide,by decide⟩,_,_,rfl,rfl,_,_,rfl,rfl,(by show(0:Int)<2147483629;decide),_,_,rfl,rfl,(by show 2<=sizeLine;decide),fun l hl=>?_⟩
    exact kk l _ (Zs hl) hl ⟨_,_,aa⟩
  ·refine⟨_,rfl,_,_,rfl,rfl,⟨by decide,by decide,by decide⟩,_,_,rfl,rfl,_,rfl,dG (fun _=>?_) (fun _=>?_)⟩
   ·refine⟨_,rfl,_,rfl,_,rfl,_,_,rfl,rfl,(by show(0:Int)<2147483629;decide),_,_,rfl,rfl,.inr ⟨by decide,by decide⟩,_,rfl,_,_,rfl,rfl,.inl ⟨by decide,by decide⟩,_,_,rfl,rfl,_,_,rfl,rfl,(by show(0:Int)<2147483629;decide),_,_,rfl,rfl,(by show 2<=sizeLine;decide),fun l hl=>?_⟩
    exact kk l _ (Zs hl) hl ⟨_,_,aa⟩
   ·refine⟨_,rfl,_,rfl,_,_,rfl,rfl,(by show(0:Int)<2147483629;decide),_,_,rfl,rfl,.inr ⟨by decide,by decide⟩,_,rfl,_,_,rfl,rfl,.inl ⟨by decide,by decide⟩,_,_,rfl,rfl,_,_,rfl,rfl,(by show(0:Int)<2147483629;decide),_,_,rfl,rfl,(by show 2<=sizeLine;decide),fun l hl=>?_⟩
    exact kk l _ (Zs hl) hl ⟨_,_,aa⟩
end
end G09
namespace L2
open PySem PySem.Spec PyProof.Rows
noncomputable def bV(c:Nat):Str:=if c=32 then "blank" else if c=40\/c=91 then "start" else if c=41\/c=93 then "end" else "word"
noncomputable def kI(a:Str):List V:=if a="blank" then [.str "start",.str "word"]else if a="start" then [.str "start",.str "word",.str "end"]else if a="word" then [.str "word",.str "blank",.str "end"]else [.str "end",.str "blank"]
noncomputable def qJ(a b:Str):Bool:=nh (.str b) (kI a)
noncomputable def qL(l:List Nat):Prop:=(List.zipWith (fun a b=>qJ (bV a) (bV b)) l (l.drop 1)).all id=true
theorem uu{a:Nat}(h:vV a):bV a="word":=by
 unfold bV
 unfold vV at h
 rw[if_neg h.1,if_neg (by omega),if_neg (by omega)]
theorem yn{o:Nat}(h:o=40\/o=91):bV o="start":=by rcases h with rfl|rfl<;>decide +kernel
theorem yo{o:Nat}(h:o=40\/o=91):bV (kE o)="end":=by rcases h with rfl|rfl<;>decide +kernel
theorem kJ{a b:Nat}{l:List Nat}(h1:qJ (bV a) (bV b)=true)(h2:qL (b::l)):qL (a::b::l):=by
 unfold qL at h2⊢
 show(List.zipWith _ (a::b::l) (b::l)).all id=true
 rw[List.zipWith_cons_cons,List.all_cons,Bool.and_eq_true]
 exact⟨h1,h2⟩
noncomputable def Eb(l:List Nat):Prop:=∃h tl,l=h::tl/\(bV h="end"\/bV h="blank")
noncomputable def Sb(l:List Nat):Prop:=∃h tl,l=h::tl/\(bV h="start"\/bV h="word")
theorem wc:∀(l:List Nat),(∀a∈l,vV a)->∀(m:List Nat),Eb m->qL m->qL (l++m)
 | [],_,_,_,ad=>ad
 | [a],hl,m,⟨h,tl,e,hf⟩,ad=>by
  subst e
  exact kJ (by rw[uu (hl a (.head _))];rcases hf with e|e<;>rw[e]<;>decide +kernel) ad
 |a::b::l,hl,m,hm,ad=>kJ (by rw[uu (hl a (.head _)),uu (hl b (.tail _ (.head _)))];decide +kernel) (wc (b::l) (fun x hx=>hl x (.tail _ hx)) m hm ad)
theorem Bw.sb{b:Bw}(h:b.ok)(m:List Nat):Sb (b.txt++m):=by
 cases b with
 |a w =>
  unfold Bw.ok at h
  unfold Bw.txt
  cases w with
  |nil=>exact absurd rfl h.1
  |cons c r=>exact⟨c,r++m,rfl,.inr (uu (h.2 c (.head _)))⟩
 |g o ws =>
  unfold Bw.ok at h
  unfold Bw.txt
  exact⟨o,_,rfl,.inl (yn h.1)⟩
theorem uv{a:Nat}{l:List Nat}(ha:bV a="start"\/bV a="blank")(h:Sb l)(ad:qL l):qL (a::l):=by
 obtain⟨c,tl,rfl,hc⟩:=h
 refine kJ ?_ ad
 rcases ha with e|e<;>rcases hc with e2|e2<;>rw[e,e2]<;>decide +kernel
theorem CO(b:Bw):b.ok->∀m,Eb m->qL m->qL (b.txt++m):=by
 refine Bw.induct (P:=fun b=>b.ok->∀m,Eb m->qL m->qL (b.txt++m)) (fun w h m hm ad=>?_) (fun o ws ih h m hm ad=>?_) b
 ·unfold Bw.ok at h
  unfold Bw.txt
  exact wc w h.2 m hm ad
 ·unfold Bw.ok at h
  obtain⟨ho,hw⟩:=h
  have hcl:qL (kE o::m):=by
   obtain⟨c,tl,rfl,hc⟩:=hm
   refine kJ ?_ ad
   rw[yo ho]
   rcases hc with e|e<;>rw[e]<;>decide +kernel
  have all:∀(l:List Bw),(∀x∈l,x.ok->∀m,Eb m->qL m->qL (x.txt++m))->Bw.jF l->∀m,Eb m->qL m->Eb (Bw.bP l++m)/\qL (Bw.bP l++m):=by
   intro l
   induction l with
   |nil=>intro _ _ m hm ad;unfold Bw.bP;exact⟨hm,ad⟩
   |cons x r ihr =>
    intro hx hk m hm ad
    unfold Bw.jF at hk
    obtain⟨e1,a1⟩:=ihr (fun z hz=>hx z (.tail _ hz)) hk.2 m hm ad
    unfold Bw.bP
    show Eb (32::((x.txt++Bw.bP r)++m))/\qL (32::((x.txt++Bw.bP r)++m))
    rw[List.append_assoc]
    exact⟨⟨32,_,rfl,.inr (by decide +kernel)⟩,uv (.inr (by decide +kernel)) (x.sb hk.1 _) (hx x (.head _) hk.1 _ e1 a1)⟩
  have ec:Eb (kE o::m):=⟨_,_,rfl,.inl (yo ho)⟩
  unfold Bw.txt
  show qL (o::((Bw.bC ws++[kE o])++m))
  rw[List.append_assoc]
  show qL (o::(Bw.bC ws++(kE o::m)))
  cases ws with
  |nil =>
   unfold Bw.bC
   refine kJ ?_ hcl
   rw[yn ho,yo ho]
   decide +kernel
  |cons x r =>
   unfold Bw.jF at hw
   unfold Bw.bC
   rw[List.append_assoc]
   obtain⟨e1,a1⟩:=all r (fun y hy=>ih y (.tail _ hy)) hw.2 _ ec hcl
   exact uv (.inl (yn ho)) (x.sb hw.1 _) (ih x (.head _) hw.1 _ e1 a1)
theorem mR{c:Nat}{z:List Nat}(hz:z.length<=2):∀l:List Nat,(l.flatMap (subst1 c z)).length<=2*l.length
 | []=>Nat.le_refl _
 |a::l=>by
  have:=mR (c:=c) hz l
  have h1:(subst1 c z a).length<=2:=by
   unfold subst1
   split
   ·exact hz
   ·show 1<=2;decide
  rw[List.flatMap_cons,List.length_append,List.length_cons]
  omega
theorem CP(l:List Nat):(E3 l).length<=4*l.length:=by
 have h1:=mR (c:=40) (z:=[40,32]) (by decide) l
 have h2:=mR (c:=91) (z:=[91,32]) (by decide) (l.flatMap (subst1 40 [40,32]))
 unfold E3
 omega
theorem CQ(l:List Nat):(Gz l).length<=4*l.length:=by
 have h1:=mR (c:=41) (z:=[32,41]) (by decide) l
 have h2:=mR (c:=93) (z:=[32,93]) (by decide) (l.flatMap (subst1 41 [32,41]))
 unfold Gz
 omega
section
variable {X:Cx}
theorem iL:j3 X (compareOp .In) (fun x y H Q=>∃c j,x=.str ⟨#[c]⟩/\y=.str j/\Q (.bl (decide (c∈j.cps.toList))) H):=by
 intro pins s σ H x y v u Q I rx ry h
 obtain⟨c,j,rfl,rfl,q⟩:=h
 refine AL pins s σ H (.str ⟨#[c]⟩) (.str j) v u Q I rx ry ⟨_,_,rfl,rfl,?_⟩
 rw[StrLaws.found_one]
 exact q
theorem A7{a:Expr}{ta:TE}(K:PySem.W.Frag)(hK:X.K=K)(ha:PE X a ta)(he:∀whole,isTrue a X.env whole=(do let v ←whole;standAt a.pos;holding [v] (truthy v))) :
  PT X a (fun σ H Q=>ta σ H fun x H'=>∃k,xS K x H' k/\Q k H'):=by
 subst hK
 exact eT ha he
theorem CS{o i:Expr}{pos:Pos}{td ty:TE}(K:PySem.W.Frag)(w:World)(hK:X.K=K)(hw:X.w=w)(ho:PE X o td)(hi:PE X i ty)(hs:EM i):PE X (.Subscript o i pos) (Gx K w td ty):=by
 subst hK hw
 exact pW ho hi hs
end
theorem oT{t:Str}{f:Nat->V}{g:TG}{te:TE}{Q:VK}{σ0:St}{H0:Hp}(hg:∀(v:V) (σ:St) (H:Hp) K,g v σ H K=K (σ.set 0 (some v)) H)
  (ht:∀c∈t.cps.toList,∀(H:Hp) (K:VK),aL H0 H->K (f c) H->te [some (.str ⟨#[c]⟩)] H K) (hl:σ0.length=1) (hn:t.cps.size<=sizeLine)
  (hd:∀p,H0 p=none->Q (.ref p) (upd H0 p (.lst (t.cps.toList.map f)))):lV (Lb t) g Gw te Q σ0 H0:=by
 refine nJ t.cps.size (fun i σ vs H1=>σ.length=1/\H1=H0/\vs=(t.cps.toList.take i).map f) ⟨hl,rfl,rfl⟩ (fun i σ vs H1 hi ⟨_,_,e⟩=>by rw[e,List.length_map,List.length_take];omega) hn (fun _ _ _ _ h _=>h) (fun _ _ _ _=>rfl) ?_ ?_
 ·rintro i σ vs H1 x H' hi ⟨hσ,rfl,rfl⟩ ⟨rfl,c,hc,rfl⟩
  obtain⟨o,rfl⟩:∃o,σ=[o]:=by
   match σ,hσ with
   | [o],_=>exact⟨o,rfl⟩
  have hc':t.cps.toList[i]?=some c:=by simpa using hc
  rw[hg]
  refine ht c (List.mem_of_getElem? hc') _ _ (aL.refl _) ?_
  refine⟨rfl,rfl,?_⟩
  rw[List.take_add_one,hc',List.map_append]
  rfl
 ·rintro σ vs H1 ⟨_,rfl,rfl⟩ p hp
  have e:t.cps.toList.take t.cps.size=t.cps.toList:=List.take_of_length_le (by simp)
  rw[e]
  exact hd p hp
end L2
namespace L2
open PySem
theorem qM{f:Str}{v:V}{n:Nat}(k:Nat):∀{fs:List (Str×V)},fs.length+(k+1)<n->(ED f v fs).length+k<n
 | [],h=>by show 1+k<n;simp at h;omega
 |(g,x)::r,h=>by
  unfold ED
  split
  ·rw[List.length_cons]at h⊢;omega
  ·rw[List.length_cons]at h⊢
   have:=qM (f:=f) (v:=v) (n:=n) (k+1) (fs:=r) (by omega)
   omega
theorem CT{f:Str}{v:V}{n:Nat}{fs:List (Str×V)}(h:fs.length+1<n):(ED f v fs).length<n:=qM 0 h
theorem aU{X0:zh}{P:Program}{w:World}{K:PySem.W.Frag}{mg:Str->Option Value}{base:Heap}{N:List Str}{nm:Str}{sc:Scope}{f:Addr}{cdv:Value}{A:Around}{outer:List PySem.Env}{s:Shared}{H:Hp}{E:XK}:(rP X0 P w K mg base N nm sc f cdv A outer s H E).Ht.K=K:=rfl
noncomputable def Cut(b:TS)(D:Ends)(N:St->Hp->Prop):Prop:=∀σ H,b D σ H->N σ H
theorem gq{a b:TS}{D:Ends}{σ:St}{H:Hp}(h:∀N:St->Hp->Prop,Cut b D N->a {D with nx:=N} σ H):bj a b D σ H:=h (b D) (fun _ _ x=>x)
theorem Fb{D:Ends}{σ:St}{H:Hp}(h:D.nx σ H):Gk D σ H:=h
theorem Fc{D:Ends}{σ:St}{H:Hp}{v:V}{i:Nat}(h:D.nx (σ.set i (some v)) H):AH (tC v) (vA i) D σ H:=h
theorem fV{t0 t1 t2:TS}{D:Ends}{σ:St}{H:Hp}(h:∀N1 N2:St->Hp->Prop,Cut t1 {D with nx:=N2} N1->Cut t2 D N2->t0 {D with nx:=N1} σ H):bj t0 (bj t1 t2) D σ H:=h (bj t1 t2 D) (t2 D) (fun _ _ x=>x) (fun _ _ x=>x)
theorem dR{t0 t1 t2 t3:TS}{D:Ends}{σ:St}{H:Hp}(h:∀N1 N2 N3:St->Hp->Prop,Cut t1 {D with nx:=N2} N1->Cut t2 {D with nx:=N3} N2->Cut t3 D N3->t0 {D with nx:=N1} σ H):bj t0 (bj t1 (bj t2 t3)) D σ H:=h (bj t1 (bj t2 t3) D) (bj t2 t3 D) (t3 D) (fun _ _ x=>x) (fun _ _ x=>x) (fun _ _ x=>x)
theorem CU{t0 t1 t2 t3 t4:TS}{D:Ends}{σ:St}{H:Hp}(h:∀N1 N2 N3 N4:St->Hp->Prop,Cut t1 {D with nx:=N2} N1->Cut t2 {D with nx:=N3} N2->Cut t3 {D with nx:=N4} N3->Cut t4 D N4->t0 {D with nx:=N1} σ H):bj t0 (bj t1 (bj t2 (bj t3 t4))) D σ H:=h (bj t1 (bj t2 (bj t3 t4)) D) (bj t2 (bj t3 t4) D) (bj t3 t4 D) (t4 D) (fun _ _ x=>x) (fun _ _ x=>x) (fun _ _ x=>x) (fun _ _ x=>x)
theorem nP{t0 t1 t2 t3 t4 t5:TS}{D:Ends}{σ:St}{H:Hp}(h:∀N1 N2 N3 N4 N5:St->Hp->Prop,Cut t1 {D with nx:=N2} N1->Cut t2 {D with nx:=N3} N2->Cut t3 {D with nx:=N4} N3->Cut t4 {D with nx:=N5} N4->Cut t5 D N5->t0 {D with nx:=N1} σ H):bj t0 (bj t1 (bj t2 (bj t3 (bj t4 t5)))) D σ H:=h (bj t1 (bj t2 (bj t3 (bj t4 t5))) D) (bj t2 (bj t3 (bj t4 t5)) D) (bj t3 (bj t4 t5) D) (bj t4 t5 D) (t5 D) (fun _ _ x=>x) (fun _ _ x=>x) (fun _ _ x=>x) (fun _ _ x=>x) (fun _ _ x=>x)
theorem wg{t0 t1 t2 t3 t4 t5 t6:TS}{D:Ends}{σ:St}{H:Hp}(h:∀N1 N2 N3 N4 N5 N6:St->Hp->Prop,Cut t1 {D with nx:=N2} N1->Cut t2 {D with nx:=N3} N2->Cut t3 {D with nx:=N4} N3->Cut t4 {D with nx:=N5} N4->Cut t5 {D with nx:=N6} N5->Cut t6 D N6->t0 {D with nx:=N1} σ H):bj t0 (bj t1 (bj t2 (bj t3 (bj t4 (bj t5 t6))))) D σ H:=h (bj t1 (bj t2 (bj t3 (bj t4 (bj t5 t6)))) D) (bj t2 (bj t3 (bj t4 (bj t5 t6))) D) (bj t3 (bj t4 (bj t5 t6)) D) (bj t4 (bj t5 t6) D) (bj t5 t6 D) (t6 D) (fun _ _ x=>x) (fun _ _ x=>x) (fun _ _ x=>x) (fun _ _ x=>x) (fun _ _ x=>x) (fun _ _ x=>x)
theorem qN{t0 t1 t2 t3 t4 t5 t6 t7 t8:TS}{D:Ends}{σ:St}{H:Hp}(h:∀N1 N2 N3 N4 N5 N6 N7 N8:St->Hp->Prop,Cut t1 {D with nx:=N2} N1->Cut t2 {D with nx:=N3} N2->Cut t3 {D with nx:=N4} N3->Cut t4 {D with nx:=N5} N4->Cut t5 {D with nx:=N6} N5->Cut t6 {D with nx:=N7} N6->Cut t7 {D with nx:=N8} N7->Cut t8 D N8->t0 {D with nx:=N1} σ H):bj t0 (bj t1 (bj t2 (bj t3 (bj t4 (bj t5 (bj t6 (bj t7 t8))))))) D σ H:=h (bj t1 (bj t2 (bj t3 (bj t4 (bj t5 (bj t6 (bj t7 t8)))))) D) (bj t2 (bj t3 (bj t4 (bj t5 (bj t6 (bj t7 t8))))) D) (bj t3 (bj t4 (bj t5 (bj t6 (bj t7 t8)))) D) (bj t4 (bj t5 (bj t6 (bj t7 t8))) D) (bj t5 (bj t6 (bj t7 t8)) D) (bj t6 (bj t7 t8) D) (bj t7 t8 D) (t8 D) (fun _ _ x=>x) (fun _ _ x=>x) (fun _ _ x=>x) (fun _ _ x=>x) (fun _ _ x=>x) (fun _ _ x=>x) (fun _ _ x=>x) (fun _ _ x=>x)
theorem Ep{d:Nat}:T.lN []<=d:=by rw[T.lN];exact Nat.zero_le _
theorem uw{x:T}{xs:List T}{d:Nat}(h:x.dep<=d)(r:T.lN xs<=d):T.lN (x::xs)<=d:=by rw[T.lN];exact Nat.max_le.mpr ⟨h,r⟩
theorem zF{xs:List T}{d:Nat}(h:T.lN xs<=d):T.dep (.t xs)<=d+1:=by rw[T.dep];exact Nat.succ_le_succ h
theorem Fd{x:Str}{d:Nat}:T.dep (.s x)<=d:=by simp[T.dep]
theorem LG{x:Int}{d:Nat}:T.dep (.i x)<=d:=by simp[T.dep]
end L2
open L2 in
local macro_rules | `(tactic| fail "Z") => `(tactic| first | exact bB.of (by first | assumption | exact aa) | exact bf.of (by first | assumption | exact aa) | omega | (dsimp only [List.length_cons, List.length_nil]; decide) | decide | exact Nat.zero_le _ | (refine CT ?_; (repeat with_reducible refine qM _ ?_); decide))
open L2 in
local macro_rules | `(tactic| fail "S") => `(tactic| first
  | ((with_reducible change @Eq _ _ _); (first | exact rfl | assumption | exact aa | (rw [ay (by assumption)]; first | exact aa | assumption | (rw [ay (by assumption)]; first | exact aa | assumption)) | omega))
  | ((with_reducible first | change @LT.lt _ _ _ _ | change @LE.le _ _ _ _); (first | omega | with_reducible assumption | fail "Z"))
  | assumption
  | ((with_reducible refine And.intro ?_ ?_) <;> fail "S")
  | ((with_reducible refine Or.inl ?_); fail "S")
  | ((with_reducible refine Or.inr ?_); fail "S")
  | ((with_reducible apply Exists.intro); fail "S")
  | ((with_reducible first | change Ci _ _ _ _ | change xS _ _ _ _ | change Jx _ _ | change EB _ _ | change Jy _ _); first | ((first | refine (?_ : @Eq _ _ _) | refine (?_ : And _ _) | refine (?_ : Or _ _) | refine (?_ : Exists _)); fail "S") | exact True.intro)
  | fail "Z")
open L2 in
local macro_rules | `(tactic| fail "T") => `(tactic| first
  | ((with_reducible first | refine qN ?_ | refine wg ?_ | refine nP ?_ | refine CU ?_ | refine dR ?_ | refine fV ?_ | refine gq ?_); intros)
  | (refine (?_ : Exists _); first
     | with_reducible first | apply @Exists.intro Hp | apply @Exists.intro Sp
     | ((fail_if_success (with_reducible apply @Exists.intro (_ → _))); apply Exists.intro))
  | (refine And.intro ?_ ?_; fail "S")
  | ((try with_reducible first | refine Fb ?_ | refine Fc ?_); refine (by with_reducible assumption : Cut _ _ _) _ _ ?_))
local macro_rules | `(tactic| fail "R") => `(tactic| first | (fail "T"; fail "R") | refine And.intro ?_ ?_ | refine (?_ : @ite _ _ _ _ _) | skip)
local macro_rules | `(tactic| fail "F") => `(tactic| first | ((with_reducible apply Exists.intro); fail "F") | ((with_reducible refine And.intro ?_ ?_); fail "S"))
local macro_rules | `(tactic| fail "O") => `(tactic| first | (fail "T"; fail "O") | refine And.intro ?_ ?_ | ((first | (refine Or.inl ?_; fail "F") | (refine Or.inr ?_; fail "F")); fail "O") | refine (?_ : @ite _ _ _ _ _) | skip)
open L2 in
local macro_rules | `(tactic| fail "D") => `(tactic| repeat' first | exact Ep | exact Fd | exact LG | assumption | exact Nat.le_trans (by assumption) (by decide) | refine zF ?_ | refine uw ?_ ?_)
namespace L2
open PySem
@[irreducible] noncomputable def A8 (X:Cx) (st:List Stmt):TS:=fun D σ H=>∃u,vt X st u/\u D σ H
theorem zG{X:Cx}{st:List Stmt}:vt X st (A8 X st):=fun pins s σ H D I h=>by
 unfold A8 at h
 obtain⟨u,hu,q⟩:=h
 exact hu pins s σ H D I q
theorem CV{X:Cx}{st:List Stmt}{D:Ends}{σ:St}{H:Hp}{u:TS}(h:vt X st u)(q:u D σ H):A8 X st D σ H:=by
 unfold A8
 exact⟨u,h,q⟩
noncomputable def isStar:Expr->Bool
 |.Starred _ _=>true
 |_=>false
theorem CW{e:Expr}{es:List Expr}{env:PySem.Env}(h:isStar e=false):starEach (e::es) env=(false,eval e env)::starEach es env:=by
 cases e<;>first|rfl|cases h
theorem dP{X:Cx}{e:Expr}{es:List Expr}{te:TE}{t:TA}(ha:PE X e te)(hr:PA X es t)(hs:isStar e=false:=by rfl):PA X (e::es) (Gq te t):=cf ha hr (CW hs)
end L2
namespace L2
open PySem PySem.Spec PyProof.Rows
section
variable {prog:Program}{w:World}{A:Around}{E:Value->Shared->Prop}{s:Shared}
end
section
variable {prog:Program}{w:World}{A:Around}{R:Result->Shared->Prop}{s:Shared}
end
section
variable {prog:Program}{w:World}{A:Around}{E:Value->Shared->Prop}{s:Shared}
end
section
variable {prog:Program}{w:World}{A:Around}{E:Value->Shared->Prop}{s:Shared}
end
section
variable {X:Cx}{a b:Expr}{t:TA}{p1 p2 p3 p4:Pos}
end
noncomputable def pD(b:Bool)(h:Heap)(l:Addr)(xs:Array Value):Prop:=match b with|false=>h.IsList l xs|true=>h.IsTuple l xs
noncomputable def ow(b:Bool)(h:Heap)(i l:Addr)(k:Nat):Prop:=match b with|false=>h.IsListIter i l k|true=>h.IsTupleIter i l k
theorem pD.at{b:Bool}{h h':Heap}{l:Addr}{xs:Array Value}(x:pD b h l xs)(k:∀o,h.get? l=some o->h'.get? l=some o):pD b h' l xs:=by
 cases b with
 |false=>exact Heap.IsList.at (show h.IsList l xs from x) k
 |true=>obtain⟨o,e,r⟩:=(show h.IsTuple l xs from x);exact⟨o,k o e,r⟩
theorem ow.at{b:Bool}{h h':Heap}{i l:Addr}{n:Nat}(x:ow b h i l n)(k:∀o,h.get? i=some o->h'.get? i=some o):ow b h' i l n:=by
 cases b with
 |false=>exact Heap.IsListIter.at (show h.IsListIter i l n from x) k
 |true=>obtain⟨o,e,r⟩:=(show h.IsTupleIter i l n from x);exact⟨o,k o e,r⟩
theorem pD.extBut{b:Bool}{h h':Heap}{l c:Addr}{xs:Array Value}(x:pD b h l xs)(hs:Heap.ExtBut c h h')(hc:l≠c):pD b h' l xs:=x.at fun o e=>hs l o hc e
theorem ow.extBut{b:Bool}{h h':Heap}{i l c:Addr}{n:Nat}(x:ow b h i l n)(hs:Heap.ExtBut c h h')(hc:i≠c):ow b h' i l n:=x.at fun o e=>hs i o hc e
theorem pD.got{b:Bool}{h:Heap}{l:Addr}{xs:Array Value}(x:pD b h l xs):∃o,h.get? l=some o:=by
 cases b with
 |false=>obtain⟨o,e,_⟩:=(show h.IsList l xs from x);exact⟨o,e⟩
 |true=>obtain⟨o,e,_⟩:=(show h.IsTuple l xs from x);exact⟨o,e⟩
theorem ow.got{b:Bool}{h:Heap}{i l:Addr}{n:Nat}(x:ow b h i l n):∃o,h.get? i=some o:=by
 cases b with
 |false=>obtain⟨o,e,_⟩:=(show h.IsListIter i l n from x);exact⟨o,e⟩
 |true=>obtain⟨o,e,_⟩:=(show h.IsTupleIter i l n from x);exact⟨o,e⟩
section
variable {prog:Program}{w:World}{A:Around}{E:Value->Shared->Prop}{s:Shared}
theorem rS{it t:Addr}{i:Nat}{items:Array Value}{x:Value}{Q:Value->Shared->Prop}(hit:s.heap.IsTupleIter it t i)(ht:s.heap.IsTuple t items)(hx:items[i]?=some x)
  (hQ:∀h',h'.IsTupleIter it t (i+1)->Heap.SameBut it s.heap h'->Q x {s with heap:=h'}):wpAny (model prog w) A (Builtin.SmallTypes.nextOf (.ref it)) Q E s:=by
 obtain⟨o,ho,hc,hd⟩:=id hit
 obtain⟨ol,hol,_,nl,hdl⟩:=ht
 have hT:=hit.typeIs
 unfold Builtin.SmallTypes.nextOf
 refine wpAny_bind (wpAny_callSpecial?_slot (name:=Str.ofString "__next__") hT PySem.F.slot_tuple_iterator_next (wpAny_call_entry PySem.F.slot_tuple_iterator_next hT PySem.F.entry_tuple_iterator_next ?_ (PySem.F.args_tuple_iterator_next_1 _)))
 show wpAny _ _ (field (.ref it) 0>>=_) _ _ s
 refine wpAny_bind (wpAny_field ho hd (x:=.ref t) rfl ?_)
 show wpAny _ _ (if(Value.ref t == Value.none)=true then _ else _) _ _ s
 rw[if_neg (show ¬((Value.ref t == Value.none)=true)from Bool.false_ne_true)]
 show wpAny _ _ (field (.ref it) 1>>=_) _ _ s
 refine wpAny_bind (wpAny_field ho hd (x:=.int i 0) rfl ?_)
 show wpAny _ _ (seqItems? (.ref t)>>=_) _ _ s
 refine wpAny_bind (wpAny_seqItems hol hdl ?_)
 simp only[Int.toNat_natCast,hx]
 refine wpAny_bind (wpAny_setField ho hd (by simp) (wpAny_pure ⟨x,rfl,wpAny_pure (hQ _ ⟨_,Heap.get?_update_self _ ho (Obj.isFreed_of_fields (Obj.data_mapFields hd _)),(Obj.cls_mapFields ..).trans hc,?_⟩ (Heap.SameBut.update ..))⟩))
 rw[Obj.data_mapFields hd];simp[rawInt]
theorem ux{it t:Addr}{i:Nat}{items:Array Value}{Q:Value->Shared->Prop}(hh:A.handled=none)(hit:s.heap.IsTupleIter it t i)(ht:s.heap.IsTuple t items)(hx:items[i]?=none)
  (hE:∀h' e,Heap.ExtBut it s.heap h'->(∃o,h'.get? e=some o/\o.cls=.type "StopIteration")->E (.ref e) {s with heap:=h'}):wpAny (model prog w) A (Builtin.SmallTypes.nextOf (.ref it)) Q E s:=by
 obtain⟨o,ho,hc,hd⟩:=id hit
 obtain⟨ol,hol,_,nl,hdl⟩:=ht
 have hT:=hit.typeIs
 unfold Builtin.SmallTypes.nextOf
 refine wpAny_bind (wpAny_callSpecial?_slot (name:=Str.ofString "__next__") hT PySem.F.slot_tuple_iterator_next (wpAny_call_entry PySem.F.slot_tuple_iterator_next hT PySem.F.entry_tuple_iterator_next ?_ (PySem.F.args_tuple_iterator_next_1 _)))
 show wpAny _ _ (field (.ref it) 0>>=_) _ _ s
 refine wpAny_bind (wpAny_field ho hd (x:=.ref t) rfl ?_)
 show wpAny _ _ (if(Value.ref t == Value.none)=true then _ else _) _ _ s
 rw[if_neg (show ¬((Value.ref t == Value.none)=true)from Bool.false_ne_true)]
 show wpAny _ _ (field (.ref it) 1>>=_) _ _ s
 refine wpAny_bind (wpAny_field ho hd (x:=.int i 0) rfl ?_)
 show wpAny _ _ (seqItems? (.ref t)>>=_) _ _ s
 refine wpAny_bind (wpAny_seqItems hol hdl ?_)
 simp only[Int.toNat_natCast,hx]
 refine wpAny_bind (wpAny_rule (wpAny_bind (wpAny_setField ho hd (by simp) ?_)))
 show wpAny _ _ (newExc (.type "StopIteration") []>>=_) _ _ _
 refine wpAny_bind ?_
 simp only[newExc,newTuple]
 refine wpAny_bind (wpAny_newObj_type ?_ (by size_fits))
 refine wpAny_bind (m:=firstArgMember _ _) (wpAny_of_eq (a:=Value.none) (by first|rfl|(simp only[firstArgMember];rfl)) ?_)
 refine wpAny_newObj_type ?_ (by size_fits)
 simp only[raiseNew]
 refine wpAny_bind (wpAny_handled ?_)
 first|rw[show A.in1.handled=none from hh]|rw[hh]
 refine wpAny_bind (wpAny_pure (wpAny_throw ?_))
 exact hE _ _ (((Heap.SameBut.update ..).extBut.push _).push _) ⟨_,Heap.get?_push_size _ rfl,rfl⟩
theorem nQ{b:Bool}{it l:Addr}{i:Nat}{items:Array Value}{x:Value}{Q:Value->Shared->Prop}(hit:ow b s.heap it l i)(hl:pD b s.heap l items)(hx:items[i]?=some x)
  (hQ:∀h',ow b h' it l (i+1)->Heap.SameBut it s.heap h'->Q x {s with heap:=h'}):wpAny (model prog w) A (Builtin.SmallTypes.nextOf (.ref it)) Q E s:=by
 cases b with
 |false=>exact wpAny_nextOf_list_item hit hl hx hQ
 |true=>exact rS hit hl hx hQ
theorem uy{b:Bool}{it l:Addr}{i:Nat}{items:Array Value}{Q:Value->Shared->Prop}(hh:A.handled=none)(hit:ow b s.heap it l i)(hl:pD b s.heap l items)(hx:items[i]?=none)
  (hE:∀h' e,Heap.ExtBut it s.heap h'->(∃o,h'.get? e=some o/\o.cls=.type "StopIteration")->E (.ref e) {s with heap:=h'}):wpAny (model prog w) A (Builtin.SmallTypes.nextOf (.ref it)) Q E s:=by
 cases b with
 |false=>exact wpAny_nextOf_list_end hh hit hl hx hE
 |true=>exact ux hh hit hl hx hE
noncomputable abbrev kK(b:Bool)(l:Addr):Obj:={cls:=.type (cond b "tuple_iterator" "list_iterator"),data:=.fields #[.ref l,.int 0 0]}
theorem wj{b:Bool}{l:Addr}{items:Array Value}{Q:Value->Shared->Prop}(hl:pD b s.heap l items)(hQ:Q (.ref s.heap.objs.size) {s with heap:=s.heap.push (kK b l)}):wpAny (model prog w) A (pyIter (.ref l)) Q E s:=by
 cases b with
 |false=>exact wpAny_pyIter_list hl hQ
 |true=>exact wpAny_pyIter_tuple hl hQ
end
noncomputable abbrev Kr(b1:Bool)(h:Heap)(l1:Addr):Heap:=h.push (kK b1 l1)
noncomputable abbrev Ks(b1 b2:Bool)(h:Heap)(l1 l2:Addr):Heap:=(Kr b1 h l1).push (kK b2 l2)
noncomputable abbrev Ku(b1 b2:Bool)(h:Heap)(l1 l2:Addr):Heap:=(Ks b1 b2 h l1 l2).push {cls:=.type "tuple",data:=.seq #[.ref h.objs.size,.ref (Kr b1 h l1).objs.size]}
noncomputable abbrev Kv(b1 b2:Bool)(h:Heap)(l1 l2:Addr):Heap:=(Ku b1 b2 h l1 l2).push {cls:=.type "tuple",data:=.seq #[.none,.none]}
noncomputable abbrev HN(b1 b2:Bool)(h:Heap)(l1 l2:Addr):Heap:=(Kv b1 b2 h l1 l2).push {cls:=.type "zip",data:=.fields #[.none,.bool false,.bool false,.ref (Ks b1 b2 h l1 l2).objs.size,.ref (Ku b1 b2 h l1 l2).objs.size]}
theorem HP(b1 b2:Bool)(l1 l2:Addr)(xs ys:Array Value) :
  Meets (Builtin.«zip.__new__» ⟨[.type "zip",.ref l1,.ref l2],[]⟩) (fun _ R s=>pD b1 s.heap l1 xs/\pD b2 s.heap l2 ys/\R (.ok (.ret (.ref (Kv b1 b2 s.heap l1 l2).objs.size))) {s with heap:=HN b1 b2 s.heap l1 l2}) :=
 .of_wp fun prog w A R s h=>by
  obtain⟨hp,g,d,tk,os⟩:=s
  obtain⟨hl1,hl2,h⟩:=h
  have hsub:=sub_zip
  have hL1:pD b1 (Shared.heap ⟨hp,g,d,tk,os⟩) l1 xs:=hl1
  have hL2:pD b2 (Shared.heap ⟨hp.push (kK b1 l1),g,d,tk,os⟩) l2 ys:=hl2.at fun o e=>Heap.get?_push_of_some _ e
  wp_walk using wj hL1,wj hL2
  exact⟨_,rfl,h⟩
section
variable {prog:Program}{w:World}{A:Around}{E:Value->Shared->Prop}{s:Shared}{b1 b2:Bool}
theorem CY{b:Bool}{h:Heap}{i l:Addr}(e:h.get? i=some (kK b l)):ow b h i l 0:=by
 cases b with
 |false=>exact⟨_,e,rfl,rfl⟩
 |true=>exact⟨_,e,rfl,rfl⟩
theorem Fe{l1 l2:Addr}{xs ys:Array Value}{Q:Value->Shared->Prop}(hl1:pD b1 s.heap l1 xs)(hl2:pD b2 s.heap l2 ys)
  (h:∀h',IsZip h' (s.heap.objs.size+4) (s.heap.objs.size+2) (s.heap.objs.size+3) .none->IsPair h' (s.heap.objs.size+2) (.ref s.heap.objs.size) (.ref (s.heap.objs.size+1)) ->
   IsPair h' (s.heap.objs.size+3) .none .none->ow b1 h' s.heap.objs.size l1 0->ow b2 h' (s.heap.objs.size+1) l2 0->h'.objs.size=s.heap.objs.size+5 ->
   (∀c o,s.heap.get? c=some o->h'.get? c=some o)->Q (.ref (s.heap.objs.size+4)) {s with heap:=h'}) :
  wpAny (model prog w) A (call (.type "zip") [.ref l1,.ref l2]) Q E s:=by
 refine callType_new PySem.F.called_zip (by decide) (PySem.F.typeCall_zip_2 _ _) (PySem.F.newCall_zip_2 _ _) (fun obj=>PySem.F.args_object_init_3 obj _ _) PySem.F.entry_zip_new (HP b1 b2 l1 l2 xs ys) ⟨hl1,hl2,?_⟩
 have z1:(Kr b1 s.heap l1).objs.size=s.heap.objs.size+1:=Heap.size_push ..
 have z2:(Ks b1 b2 s.heap l1 l2).objs.size=s.heap.objs.size+2:=by rw[Heap.size_push,z1]
 have z3:(Ku b1 b2 s.heap l1 l2).objs.size=s.heap.objs.size+3:=by rw[Heap.size_push,z2]
 have z4:(Kv b1 b2 s.heap l1 l2).objs.size=s.heap.objs.size+4:=by rw[Heap.size_push,z3]
 have z5:(HN b1 b2 s.heap l1 l2).objs.size=s.heap.objs.size+5:=by rw[Heap.size_push,z4]
 have up:∀{h:Heap}{c:Addr}{o:Obj}(x:Obj),h.get? c=some o->(h.push x).get? c=some o:=fun x e=>Heap.get?_push_of_some _ e
 have g5:(HN b1 b2 s.heap l1 l2).get? (Kv b1 b2 s.heap l1 l2).objs.size=some _:=Heap.get?_push_size _ rfl
 have g4:(HN b1 b2 s.heap l1 l2).get? (Ku b1 b2 s.heap l1 l2).objs.size=some _:=up _ (Heap.get?_push_size _ rfl)
 have g3:(HN b1 b2 s.heap l1 l2).get? (Ks b1 b2 s.heap l1 l2).objs.size=some _:=up _ (up _ (Heap.get?_push_size _ rfl))
 have g2:(HN b1 b2 s.heap l1 l2).get? (Kr b1 s.heap l1).objs.size=some (kK b2 l2):=up _ (up _ (up _ (Heap.get?_push_size _ rfl)))
 have g1:(HN b1 b2 s.heap l1 l2).get? s.heap.objs.size=some (kK b1 l1):=up _ (up _ (up _ (up _ (Heap.get?_push_size _ rfl))))
 show _/\_
 rw[z2,z3,z4]at g5
 rw[z1,z2]at g3
 rw[z3]at g4
 rw[z1]at g2
 rw[z4]
 exact⟨⟨_,g5,rfl⟩,h _ g5 g3 g4 (CY g1) (CY g2) z5 fun c o x=>up _ (up _ (up _ (up _ (up _ x))))⟩
theorem Ff{z TI TO i1 i2 l1 l2:Addr}{k1 k2:Nat}{xs ys:Array Value}{x y a b:Value}{Q:Option Value->Shared->Prop}(D:ZipApart z TI TO i1 i2 l1 l2)(hz:IsZip s.heap z TI TO .none)(hTI:IsPair s.heap TI (.ref i1) (.ref i2))(hTO:IsPair s.heap TO a b)
  (h1:ow b1 s.heap i1 l1 k1) (h2:ow b2 s.heap i2 l2 k2) (hl1:pD b1 s.heap l1 xs) (hl2:pD b2 s.heap l2 ys) (hx:xs[k1]?=some x) (hy:ys[k2]?=some y)
  (hQ:∀h',IsZip h' z TI TO (rawInt s.heap.objs.size)->IsPair h' TO x y->ow b1 h' i1 l1 (k1+1)->ow b2 h' i2 l2 (k2+1)->IsPair h' s.heap.objs.size x y->h'.objs.size=s.heap.objs.size+1 ->
   (∀c o,c≠z->c≠TO->c≠i1->c≠i2->s.heap.get? c=some o->h'.get? c=some o)->Q (some (.ref s.heap.objs.size)) {s with heap:=h'}) :
  wpAny (model prog w) A (pyNext (.ref z)) Q E s:=by
 have hTy:s.TypeIs (.ref z) "zip":=⟨_,hz,rfl⟩
 unfold pyNext
 refine wpAny_bind (wpAny_attempt (wpAny_callSpecial?_slot (name:=Str.ofString "__next__") hTy PySem.F.slot_zip_next (wpAny_call_entry PySem.F.slot_zip_next hTy PySem.F.entry_zip_next ?_ (PySem.F.args_zip_next_1 _))))
 show wpAny _ _ (field (.ref z) 2>>=_) _ _ _
 refine wpAny_bind (wpAny_field hz rfl (x:=.bool false) rfl ?_)
 show wpAny _ _ (field (.ref z) 3>>=_) _ _ _
 refine wpAny_bind (wpAny_field hz rfl (x:=.ref TI) rfl (wpAny_bind (wpAny_seqItems hTI rfl ?_)))
 show wpAny _ _ (Builtin.SmallTypes.ownedTupleIsFree (.ref z)>>=_) _ _ _
 refine wpAny_bind ?_
 unfold Builtin.SmallTypes.ownedTupleIsFree
 refine wpAny_bind (wpAny_field hz rfl (x:=.none) rfl (wpAny_pure ?_))
 simp only[if_true]
 refine wpAny_bind (wpAny_rule (wpAny_bind (wpAny_field hz rfl (x:=.ref TO) rfl ?_)))
 refine wpAny_bind (wpAny_setField_rec hz (by simp) fun h₁ hz₁ hs₁=>?_)
 replace hz₁:IsZip h₁ z TI TO .ellipsis:=hz₁
 refine wpAny_bind ?_
 simp only[List.zipIdx_cons,List.zipIdx_nil,List.forIn_cons,List.forIn_nil]
 refine wpAny_bind (wpAny_bind (wpAny_onRaise ?_))
 show wpAny _ _ (Builtin.SmallTypes.nextOf (.ref i1)>>=_) _ _ _
 refine wpAny_bind (nQ (h1.extBut hs₁.extBut D.i1z) (hl1.extBut hs₁.extBut D.l1z) hx fun h₂ h1₂ hs₂=>wpAny_pure ?_)
 have hTO₂:IsPair h₂ TO a b:=hs₂.extBut _ _ D.TOi1 (hs₁.extBut _ _ D.TOz hTO)
 refine wpAny_bind (wpAny_seqItems hTO₂ rfl (wpAny_bind (wpAny_updateSeq_pair hTO₂ fun h₃ hTO₃ hs₃=>?_)))
 replace hTO₃:IsPair h₃ TO x b:=hTO₃
 refine wpAny_bind (wpAny_letGo (wpAny_pure ?_))
 refine wpAny_bind (wpAny_bind (wpAny_onRaise ?_))
 show wpAny _ _ (Builtin.SmallTypes.nextOf (.ref i2)>>=_) _ _ _
 refine wpAny_bind (nQ (((h2.extBut hs₁.extBut D.i2z).extBut hs₂.extBut D.i12.symm).extBut hs₃.extBut D.TOi2.symm) (((hl2.extBut hs₁.extBut D.l2z).extBut hs₂.extBut D.l2i1).extBut hs₃.extBut D.l2TO) hy fun h₄ h2₄ hs₄=>wpAny_pure ?_)
 have hTO₄:IsPair h₄ TO x b:=hs₄.extBut _ _ D.TOi2 hTO₃
 refine wpAny_bind (wpAny_seqItems hTO₄ rfl (wpAny_bind (wpAny_updateSeq_pair hTO₄ fun h₅ hTO₅ hs₅=>?_)))
 replace hTO₅:IsPair h₅ TO x y:=hTO₅
 refine wpAny_bind (wpAny_letGo (wpAny_pure (wpAny_pure (wpAny_bind (wpAny_seqItems hTO₅ rfl (wpAny_bind (wpAny_newTuple ?_)))))))
 have hsz:h₅.objs.size=s.heap.objs.size:=by rw[hs₅.1,hs₄.1,hs₃.1,hs₂.1,hs₁.1]
 have hz₅:IsZip h₅ z TI TO .ellipsis:=hs₅.extBut _ _ D.TOz.symm (hs₄.extBut _ _ D.i2z.symm (hs₃.extBut _ _ D.TOz.symm (hs₂.extBut _ _ D.i1z.symm hz₁)))
 have hk₅:∀c o,c≠z->c≠TO->c≠i1->c≠i2->s.heap.get? c=some o->h₅.get? c=some o:=fun c o c1 c2 c3 c4 e=>hs₅.extBut _ _ c2 (hs₄.extBut _ _ c4 (hs₃.extBut _ _ c2 (hs₂.extBut _ _ c3 (hs₁.extBut _ _ c1 e))))
 have h1₅:ow b1 h₅ i1 l1 (k1+1):=((h1₂.extBut hs₃.extBut D.TOi1.symm).extBut hs₄.extBut D.i12).extBut hs₅.extBut D.TOi1.symm
 have h2₅:ow b2 h₅ i2 l2 (k2+1):=h2₄.extBut hs₅.extBut D.TOi2.symm
 have hzlt:z<h₅.objs.size:=Heap.lt_size hz₅
 show wpAny _ _ (Builtin.SmallTypes.ownedTupleHandOut (.ref z) (.ref h₅.objs.size)>>=_) _ _ _
 refine wpAny_bind ?_
 unfold Builtin.SmallTypes.ownedTupleHandOut
 have hz₆:IsZip (h₅.push {cls:=.type "tuple",data:=.seq #[x,y]}) z TI TO .ellipsis:=Heap.get?_push_of_some _ hz₅
 refine wpAny_bind (wpAny_setField_rec hz₆ (by simp) fun h₇ hz₇ hs₇=>?_)
 replace hz₇:IsZip h₇ z TI TO (rawInt h₅.objs.size):=hz₇
 refine wpAny_setField_rec hz₇ (by simp) fun h₈ hz₈ hs₈=>?_
 replace hz₈:IsZip h₈ z TI TO (rawInt h₅.objs.size):=hz₈
 have up:∀c o,c≠z->h₅.get? c=some o->h₈.get? c=some o:=fun c o c1 e=>hs₈.extBut _ _ c1 (hs₇.extBut _ _ c1 (Heap.get?_push_of_some _ e))
 have hT₈:IsPair h₈ h₅.objs.size x y:=hs₈.extBut _ _ (Nat.ne_of_gt hzlt) (hs₇.extBut _ _ (Nat.ne_of_gt hzlt) (Heap.get?_push_size _ rfl))
 have hz8:h₈.objs.size=h₅.objs.size+1:=by rw[hs₈.1,hs₇.1,Heap.size_push]
 rw[hsz]at hz₈ hT₈ hz8
 refine wpAny_pure ⟨_,rfl,wpAny_pure ?_⟩
 show Q (some (.ref h₅.objs.size)) _
 rw[hsz]
 exact hQ h₈ hz₈ (up _ _ D.TOz hTO₅) (h1₅.at fun o e=>up _ o D.i1z e) (h2₅.at fun o e=>up _ o D.i2z e) hT₈ hz8 fun c o c1 c2 c3 c4 e=>up c o c1 (hk₅ c o c1 c2 c3 c4 e)
theorem HQ{z TI TO i1 i2 l1 l2:Addr}{k1 k2:Nat}{xs ys:Array Value}{a b:Value}{Q:Option Value->Shared->Prop}(hh:A.handled=none)(D:ZipApart z TI TO i1 i2 l1 l2)(hz:IsZip s.heap z TI TO .none)(hTI:IsPair s.heap TI (.ref i1) (.ref i2))(hTO:IsPair s.heap TO a b)
  (h1:ow b1 s.heap i1 l1 k1) (h2:ow b2 s.heap i2 l2 k2) (hl1:pD b1 s.heap l1 xs) (hl2:pD b2 s.heap l2 ys) (hend:xs[k1]?=none\/ys[k2]?=none)
  (hQ:∀h',(∀c o,c≠z->c≠TO->c≠i1->c≠i2->s.heap.get? c=some o->h'.get? c=some o)->Q none {s with heap:=h'}):wpAny (model prog w) A (pyNext (.ref z)) Q E s:=by
 have hTy:s.TypeIs (.ref z) "zip":=⟨_,hz,rfl⟩
 have stop:∀(h':Heap) (e:Addr),(∀c o,c≠z->c≠TO->c≠i1->c≠i2->s.heap.get? c=some o->h'.get? c=some o)->(∃o,h'.get? e=some o/\o.cls=.type "StopIteration") ->
   wpAny (model prog w) A (do if(←isInstance (.ref e) (.type "StopIteration"))then pure none else throw (.ref e)) Q E {s with heap:=h'}:=fun h' e hk ⟨o,ho,hc⟩ =>
  wpAny_bind (wpAny_isInstance (T:="StopIteration") (b:=true) ⟨o,ho,hc⟩ isSubtype_stop (wpAny_pure (hQ _ hk)))
 unfold pyNext
 refine wpAny_bind (wpAny_attempt (wpAny_callSpecial?_slot (name:=Str.ofString "__next__") hTy PySem.F.slot_zip_next (wpAny_call_entry PySem.F.slot_zip_next hTy PySem.F.entry_zip_next ?_ (PySem.F.args_zip_next_1 _))))
 show wpAny _ _ (field (.ref z) 2>>=_) _ _ _
 refine wpAny_bind (wpAny_field hz rfl (x:=.bool false) rfl ?_)
 show wpAny _ _ (field (.ref z) 3>>=_) _ _ _
 refine wpAny_bind (wpAny_field hz rfl (x:=.ref TI) rfl (wpAny_bind (wpAny_seqItems hTI rfl ?_)))
 show wpAny _ _ (Builtin.SmallTypes.ownedTupleIsFree (.ref z)>>=_) _ _ _
 refine wpAny_bind ?_
 unfold Builtin.SmallTypes.ownedTupleIsFree
 refine wpAny_bind (wpAny_field hz rfl (x:=.none) rfl (wpAny_pure ?_))
 simp only[if_true]
 refine wpAny_bind (wpAny_rule (wpAny_bind (wpAny_field hz rfl (x:=.ref TO) rfl ?_)))
 refine wpAny_bind (wpAny_setField_rec hz (by simp) fun h₁ hz₁ hs₁=>?_)
 replace hz₁:IsZip h₁ z TI TO .ellipsis:=hz₁
 refine wpAny_bind ?_
 simp only[List.zipIdx_cons,List.zipIdx_nil,List.forIn_cons,List.forIn_nil]
 refine wpAny_bind (wpAny_bind (wpAny_onRaise ?_))
 show wpAny _ _ (Builtin.SmallTypes.nextOf (.ref i1)>>=_) _ _ _
 cases hx:xs[k1]? with
 |none =>
  refine wpAny_bind (uy hh (h1.extBut hs₁.extBut D.i1z) (hl1.extBut hs₁.extBut D.l1z) hx fun h₂ e hs₂ he=>?_)
  obtain⟨oe,hoe,hce⟩:=he
  have hz₂:IsZip h₂ z TI TO .ellipsis:=hs₂ _ _ D.i1z.symm hz₁
  have hez:e≠z:=fun x=>by subst x;rw[hz₂]at hoe;cases hoe;simp at hce
  exact wpAny_setField_rec hz₂ (by simp) fun h₃ _ hs₃=>stop h₃ e (fun c o c1 _ c3 _ x=>hs₃.extBut _ _ c1 (hs₂ _ _ c3 (hs₁.extBut _ _ c1 x))) ⟨oe,hs₃.extBut _ _ hez hoe,hce⟩
 |some x =>
  have hy:ys[k2]?=none:=by
   rcases hend with h|h
   ·rw[hx]at h;cases h
   ·exact h
  refine wpAny_bind (nQ (h1.extBut hs₁.extBut D.i1z) (hl1.extBut hs₁.extBut D.l1z) hx fun h₂ h1₂ hs₂=>wpAny_pure ?_)
  have hTO₂:IsPair h₂ TO a b:=hs₂.extBut _ _ D.TOi1 (hs₁.extBut _ _ D.TOz hTO)
  refine wpAny_bind (wpAny_seqItems hTO₂ rfl (wpAny_bind (wpAny_updateSeq_pair hTO₂ fun h₃ hTO₃ hs₃=>?_)))
  refine wpAny_bind (wpAny_letGo (wpAny_pure ?_))
  refine wpAny_bind (wpAny_bind (wpAny_onRaise ?_))
  show wpAny _ _ (Builtin.SmallTypes.nextOf (.ref i2)>>=_) _ _ _
  refine wpAny_bind (uy hh (((h2.extBut hs₁.extBut D.i2z).extBut hs₂.extBut D.i12.symm).extBut hs₃.extBut D.TOi2.symm) (((hl2.extBut hs₁.extBut D.l2z).extBut hs₂.extBut D.l2i1).extBut hs₃.extBut D.l2TO) hy fun h₄ e hs₄ he=>?_)
  obtain⟨oe,hoe,hce⟩:=he
  have hz₄:IsZip h₄ z TI TO .ellipsis:=hs₄ _ _ D.i2z.symm (hs₃.extBut _ _ D.TOz.symm (hs₂.extBut _ _ D.i1z.symm hz₁))
  have hez:e≠z:=fun x=>by subst x;rw[hz₄]at hoe;cases hoe;simp at hce
  exact wpAny_setField_rec hz₄ (by simp) fun h₅ _ hs₅=>stop h₅ e (fun c o c1 c2 c3 c4 x=>hs₅.extBut _ _ c1 (hs₄ _ _ c4 (hs₃.extBut _ _ c2 (hs₂.extBut _ _ c3 (hs₁.extBut _ _ c1 x))))) ⟨oe,hs₅.extBut _ _ hez hoe,hce⟩
end
section
variable {prog:Program}{w:World}{A:Around}{E:Value->Shared->Prop}{s:Shared}{b1 b2:Bool}
end
section
variable {prog:Program}{w:World}{A:Around}{R:Result->Shared->Prop}{s:Shared}{b1 b2:Bool}
end
section
variable {prog:Program}{w:World}{A:Around}{E:Value->Shared->Prop}{s:Shared}{b1 b2:Bool}
end
noncomputable def nj(K:PySem.W.Frag)(b:Bool)(H:Hp)(p:Addr)(xs:List V):Prop:=match b with|false=>bB K H p xs|true=>bf K H p xs
section
variable {X:Cx}{a b:Expr}{t:TA}{p1 p2 p3 p4:Pos}
theorem jL{c:Bool}{pins:List (Addr×Obj)}{σ:St}{H:Hp}{s:Shared}{p:Addr}{xs:List V}(I:Inv X pins σ H s)(h:nj X.K c H p xs):∃its:List Value,Vals xs its/\pD c s.heap p its.toArray/\xs.length<=sizeLine:=by
 cases c with
 |false =>
  obtain⟨its,rv,pl,hz⟩:=I.list h
  exact⟨its,rv,pl.isList,hz⟩
 |true =>
  obtain⟨its,rv,pl,hz⟩:=I.tuple h
  exact⟨its,rv,(show Heap.IsTuple _ _ _ by obtain⟨o,e,r⟩:=pl;exact⟨o,e,r⟩),hz⟩
end
section
variable {X:Cx}{pins:List (Addr×Obj)}{σ:St}{H:Hp}{s:Shared}{h':Heap}
theorem Inv.zH{t':Nat}{fp:List Addr}(I:Inv X pins σ H s)(hf:∀b∈fp,nv X pins H b)(k:∀b o,b∉fp->s.heap.get? b=some o->h'.get? b=some o):Inv X pins σ H {s with heap:=h',toks:=t'}:=by
 have nit:∀b u,H b=some u->b∉fp:=fun b u e z=>by rw[(hf b z).1]at e;cases e
 have hL:X.env.locals∉fp:=fun z=>(hf _ z).2.1 rfl
 refine I.step (g':=s.gens) (d':=s.drawn) (ch:=fp) (fun b hb=>?_) (fun b o _ _ hc e _=>k b o hc e) (fun b o _ _ hc e _=>⟨o.slots,k b o hc e⟩) (fun _ _ _ _ n=>n)
  (fun b o hc e=>⟨o,k b o hc e⟩) (fun _ _ e=>e) (fun _ _ _ e=>e) (fun b ps e=>⟨#[],by rw[e];simp⟩) (fun m hm=>?_) (fun b u e=>?_) I.bare
 ·obtain⟨_,f1,_,f3,f4,f5⟩:=hf b hb
  exact⟨f3,f1,f4,f5⟩
 ·obtain⟨o,es,ep,ho,r⟩:=hm
  exact⟨o,es,ep,k _ o hL ho,r⟩
 ·refine(I.hok b u e).stay (fun c v hc q=>k c v ?_ q) (fun _ q=>q) fun _ _ q=>q
  rcases hc with z|z
  ·rw[z];exact nit b u e
  ·exact nit c _ z
theorem Inv.zI{t':Nat}{fp:List Addr}{a:Addr}{o:HO}(I:Inv X pins σ H s)(hf:∀b∈fp,nv X pins H b)(k:∀b o,b∉fp->s.heap.get? b=some o->h'.get? b=some o)(ha:s.heap.objs.size<=a)(new:eS X.prog X.w (upd H a o) h' a o) :
  Inv X pins σ (upd H a o) {s with heap:=h',toks:=t'}:=by
 have nit:∀b u,H b=some u->b∉fp:=fun b u e z=>by rw[(hf b z).1]at e;cases e
 have hL:X.env.locals∉fp:=fun z=>(hf _ z).2.1 rfl
 have hn:H a=none:=I.hok.fresh ha
 have up:∀b u,H b=some u->upd H a o b=some u:=fun b u e=>by rw[ay (bG e hn)];exact e
 refine I.step (g':=s.gens) (d':=s.drawn) (ch:=fp) (fun b hb=>?_) (fun b o _ _ hc e _=>k b o hc e) (fun b o _ _ hc e _=>⟨o.slots,k b o hc e⟩) (fun b ob _ e n=>?_)
  (fun b o hc e=>⟨o,k b o hc e⟩) (fun b _ e=>up b _ e) (fun b _ _ e=>up b _ e) (fun b ps e=>⟨#[],by rw[up b _ e];simp⟩) (fun m hm=>?_) (fun b u e=>?_) I.bare
 ·obtain⟨_,f1,_,f3,f4,f5⟩:=hf b hb
  exact⟨f3,f1,f4,f5⟩
 ·rw[ay (Nat.ne_of_lt (Nat.lt_of_lt_of_le (Heap.lt_size e) ha))];exact n
 ·obtain⟨o,es,ep,ho,r⟩:=hm
  exact⟨o,es,ep,k _ o hL ho,r⟩
 ·by_cases hb:b=a
  ·subst hb;rw[aa]at e;cases e;exact new
  ·rw[ay hb]at e
   refine(I.hok b u e).stay (fun c v hc q=>k c v ?_ q) (fun c q=>up c _ q) fun c _ q=>up c _ q
   rcases hc with z|z
   ·rw[z];exact nit b u e
   ·exact nit c _ z
end
noncomputable def Lk (K : PySem.W.Frag) (b1 : Bool) (l1 : Addr) (b2 : Bool) (l2 : Addr) : It :=
  ⟨fun i H => ∃ xs ys x y, nj K b1 H l1 xs ∧ nj K b2 H l2 ys ∧ xs[i]? = some x ∧ ys[i]? = some y,
   fun i H v H' => ∃ p x y, H p = none ∧ v = .ref p ∧ H' = upd H p (.tup [x, y]) ∧ (∀ xs, nj K b1 H l1 xs → xs[i]? = some x) ∧ ∀ ys, nj K b2 H l2 ys → ys[i]? = some y,
   fun i H => ∃ xs ys, nj K b1 H l1 xs ∧ nj K b2 H l2 ys ∧ (xs.length ≤ i ∨ ys.length ≤ i)⟩
theorem nj.inj{X:Cx}{pins:List (Addr×Obj)}{σ:St}{H:Hp}{s:Shared}{b:Bool}{a:Addr}{xs ys:List V}(I:Inv X pins σ H s)(h:nj X.K b H a xs)(h2:nj X.K b H a ys):xs=ys:=by
 cases b with
 |false=>exact I.vz h h2
 |true=>exact I.oE h h2
theorem CZ{P:Program}{w:World}{K:PySem.W.Frag}{elts:List Expr}{x1:Nat}{pos:Pos}{b1 b2:Bool}(z TI TO i1 i2 l1 l2:Addr)(D:ZipApart z TI TO i1 i2 l1 l2):Turn P w K (.Tuple elts x1 pos) (Lk K b1 l1 b2 l2) [z,TI,TO,i1,i2] z
  (fun i h=>IsZip h z TI TO .none/\IsPair h TI (.ref i1) (.ref i2)/\(∃a b,IsPair h TO a b)/\ow b1 h i1 l1 i/\ow b2 h i2 l2 i) where
 mem:=by simp
 obj:=fun i h st b hb=>by
  obtain⟨hz,hTI,⟨a,c,hTO⟩,h1,h2⟩:=st
  have itc:∀{b:Bool}{i l:Addr}{k:Nat},ow b h i l k->∃o,h.get? i=some o/\∀v,o.data≠.cell v:=fun{b i l k} q=>by
   cases b with
   |false=>obtain⟨o,e,_,d⟩:=(show h.IsListIter i l k from q);exact⟨o,e,fun v z=>by rw[d]at z;cases z⟩
   |true=>obtain⟨o,e,_,d⟩:=(show h.IsTupleIter i l k from q);exact⟨o,e,fun v z=>by rw[d]at z;cases z⟩
  simp only[List.mem_cons,List.not_mem_nil,or_false]at hb
  rcases hb with rfl|rfl|rfl|rfl|rfl
  ·exact⟨_,hz,fun v z=>by cases z⟩
  ·exact⟨_,hTI,fun v z=>by cases z⟩
  ·exact⟨_,hTO,fun v z=>by cases z⟩
  ·exact itc h1
  ·exact itc h2
 keep:=fun i h h' st k=>by
  obtain⟨hz,hTI,⟨a,c,hTO⟩,h1,h2⟩:=st
  exact⟨k z (by simp) _ hz,k TI (by simp) _ hTI,⟨a,c,k TO (by simp) _ hTO⟩,h1.at fun o e=>k i1 (by simp) o e,h2.at fun o e=>k i2 (by simp) o e⟩
 item:=by
  intro X hP hw hK hc i pins s σ H E I hf st hg
  subst hP hw hK
  obtain⟨xs,ys,x,y,hq1,hq2,hx,hy⟩:=hg
  obtain⟨hz,hTI,⟨a,c,hTO⟩,h1,h2⟩:=st
  obtain⟨its,rv,p1,_⟩:=jL I hq1
  obtain⟨jts,rw',p2,_⟩:=jL I hq2
  obtain⟨u,hu,ru⟩:=rv.get hx
  obtain⟨v,hv,rv2⟩:=rw'.get hy
  refine Ff D hz hTI hTO h1 h2 p1 p2 (x:=u) (y:=v) (by simpa using hu) (by simpa using hv) fun h' a1 a2 a3 a4 a5 a6 hk=>?_
  refine⟨.ref s.heap.objs.size,rfl,wpAny_letOwnedTupleGo_zip (s:={s with heap:=h'}) a1 fun h2' hz' hs'=>?_⟩
  have np:∀b∈[z,TI,TO,i1,i2],b≠s.heap.objs.size:=fun b hb e=>by
   obtain⟨o,e2⟩:∃o,s.heap.get? b=some o:=by
    simp only[List.mem_cons,List.not_mem_nil,or_false]at hb
    rcases hb with rfl|rfl|rfl|rfl|rfl
    ·exact⟨_,hz⟩
    ·exact⟨_,hTI⟩
    ·exact⟨_,hTO⟩
    ·exact h1.got
    ·exact h2.got
   have:=Heap.lt_size e2
   rw[e]at this
   exact Nat.lt_irrefl _ this
  have kk:∀b o,b∉[z,TI,TO,i1,i2]->s.heap.get? b=some o->h2'.get? b=some o:=fun b o hb e=>by
   simp only[List.mem_cons,List.not_mem_nil,or_false,not_or]at hb
   obtain⟨n1,n2,n3,n4,n5⟩:=hb
   exact hs'.extBut _ _ n1 (hk b o n1 n3 n4 n5 e)
  have a5':IsPair h2' s.heap.objs.size u v:=hs'.extBut _ _ (np z (by simp)).symm a5
  refine⟨.ref s.heap.objs.size,upd H s.heap.objs.size (.tup [x,y]),I.zI (t':=s.toks) hf kk (Nat.le_refl _) ⟨(by show 2<=sizeLine;decide),_,.cons ru (.cons rv2 .nil),⟨_,a5',rfl,_,rfl⟩,_,a5',rfl⟩,rfl,
   ⟨_,x,y,I.hok.fresh (Nat.le_refl _),rfl,rfl,fun zs hz2=>by rw[nj.inj I hz2 hq1];exact hx,fun zs hz2=>by rw[nj.inj I hz2 hq2];exact hy⟩,?_,fun b hb=>?_⟩
  ·exact⟨hz',hs'.extBut _ _ D.TIz (hk TI _ D.TIz D.TITO D.TIi1 D.TIi2 hTI),⟨u,v,hs'.extBut _ _ D.TOz a2⟩,a3.extBut hs'.extBut D.i1z,a4.extBut hs'.extBut D.i2z⟩
  ·rw[ay (np b hb)];exact(hf b hb).1
 done:=by
  intro X hP hw hK hc i pins s σ H E I hf st hg
  subst hP hw hK
  obtain⟨xs,ys,hq1,hq2,hl⟩:=hg
  obtain⟨hz,hTI,⟨a,c,hTO⟩,h1,h2⟩:=st
  obtain⟨its,rv,p1,_⟩:=jL I hq1
  obtain⟨jts,rw',p2,_⟩:=jL I hq2
  have e1:=rv.length
  have e2:=rw'.length
  refine HQ (I.ok.hd hc) D hz hTI hTO h1 h2 p1 p2 ?_ fun h' hk=>⟨rfl,I.zH (t':=s.toks) hf fun b o hb e=>?_⟩
  ·rcases hl with hl|hl
   ·left;simp;omega
   ·right;simp;omega
  ·simp only[List.mem_cons,List.not_mem_nil,or_false,not_or]at hb
   exact hk b o hb.1 hb.2.2.1 hb.2.2.2.1 hb.2.2.2.2 e
 self:=fun _ _ _ _ _ st h=>wpAny_pyIter_zip st.1 h
noncomputable def Ll(K:PySem.W.Frag)(t:TA):TI:=fun σ H R=>t σ H fun vs H2=>∃b1 b2 p q xs ys,vs=[.ref p,.ref q]/\nj K b1 H2 p xs/\nj K b2 H2 q ys/\R (Lk K b1 p b2 q) H2
theorem yp{X:Cx}{a b:Expr}{t:TA}{p1 p2 pos:Pos}{elts:List Expr}{x1:Nat}(K:PySem.W.Frag)(hK:X.K=K)(hg:Gl X "zip")(hm:X.mg "zip"=none)(ha:PA X [a,b] t)
  (he:starEach [a,b] X.env=(false,eval a X.env)::starEach [b] X.env:=by rfl) (hpl:(backTo p2 (starEach [b] X.env)).any (·.1)=false:=by rfl):PI X (.Tuple elts x1 pos) (.Call (.Name "zip" p1) [a,b] [] p2) (Ll K t):=by
 subst hK
 intro pins s σ H R I h
 refine wpAny_Call_Name_kw (oB I hg hm boot_zip ?_ (by decide) (by decide))
 refine PyProof.Rows.callWith_type1 ?_ he hpl
 refine cF (ha p2 pins s σ H _ I h) fun us s1 ⟨vs,H1,I1,r1,q1⟩=>?_
 obtain⟨c1,c2,p,q,xs,ys,rfl,hx,hy,hq⟩:=q1
 obtain⟨u,w',rfl,r1,r2⟩:=vals2 r1
 cases r1
 cases r2
 obtain⟨its,rv,pl,_⟩:=jL I1 hx
 obtain⟨jts,rw',pm,_⟩:=jL I1 hy
 have lt1:@LT.lt Nat _ p s1.heap.objs.size:=by obtain⟨_,e⟩:=pl.got;exact Heap.lt_size e
 have lt2:@LT.lt Nat _ q s1.heap.objs.size:=by obtain⟨_,e⟩:=pm.got;exact Heap.lt_size e
 refine Fe pl pm fun g hz hTI hTO h1 h2 hsz hk=>?_
 have D:ZipApart (s1.heap.objs.size+4) (s1.heap.objs.size+2) (s1.heap.objs.size+3) s1.heap.objs.size (s1.heap.objs.size+1) p q:=by
  refine⟨?_,?_,?_,?_,?_,?_,?_,?_,?_,?_,?_,?_,?_,?_,?_,?_,?_,?_⟩<;>(show @Ne Nat _ _;omega)
 refine wpAny_pyIter_zip (s:={s1 with heap:=g}) hz ?_
 refine⟨s1.heap.objs.size+4,[s1.heap.objs.size+4,s1.heap.objs.size+2,s1.heap.objs.size+3,s1.heap.objs.size,s1.heap.objs.size+1],_,_,H1,rfl,I1.kept (t':=s1.toks) hk,CZ _ _ _ _ _ p q D,⟨hz,hTI,⟨_,_,hTO⟩,h1,h2⟩,fun b hb=>?_,hq⟩
 have hb':s1.heap.objs.size<=b:=by
  simp only[List.mem_cons,List.not_mem_nil,or_false]at hb
  rcases hb with rfl|rfl|rfl|rfl|rfl
  ·exact Nat.le_add_right _ 4
  ·exact Nat.le_add_right _ 2
  ·exact Nat.le_add_right _ 3
  ·exact Nat.le_refl _
  ·exact Nat.le_add_right _ 1
 exact I1.xP hb' (I1.hok.fresh hb')
section
variable {g:TG}{tt:TT}{te:TE}{Q:VK}{σ0:St}{H0:Hp}
theorem qP{K:PySem.W.Frag}{b1 b2:Bool}{a b:Addr}{xs ys:List V}(Pv:Nat->St->List V->Hp->Prop)(h0:Pv 0 σ0 [] H0)(hlen:∀i σ vs H,i<=min xs.length ys.length->Pv i σ vs H->vs.length<=i)(hn:min xs.length ys.length<=sizeLine)
  (hl1:∀i σ vs H,i<=min xs.length ys.length->Pv i σ vs H->nj K b1 H a xs) (hl2:∀i σ vs H,i<=min xs.length ys.length->Pv i σ vs H->nj K b2 H b ys)
  (hs:∀i x y σ vs H p,xs[i]?=some x->ys[i]?=some y->Pv i σ vs H->H p=none->g (.ref p) σ (upd H p (.tup [x,y])) fun σ2 H2=>tt σ2 H2 fun ok H3=>if ok=true then te σ2 H3 fun v H4=>Pv (i+1) σ2 (vs++[v]) H4 else Pv (i+1) σ2 vs H3)
  (hd:∀σ vs H,Pv (min xs.length ys.length) σ vs H->∀p,H p=none->Q (.ref p) (upd H p (.lst vs))):lV (Lk K b1 a b2 b) g tt te Q σ0 H0:=by
 refine nJ (min xs.length ys.length) Pv h0 hlen hn (fun i σ vs H hi p=>?_) (fun σ vs H p=>⟨xs,ys,hl1 _ σ vs H (Nat.le_refl _) p,hl2 _ σ vs H (Nat.le_refl _) p,by omega⟩) (fun i σ vs H x H' hi p y=>?_) hd
 ·have k1:i<xs.length:=by omega
  have k2:i<ys.length:=by omega
  exact⟨xs,ys,xs[i],ys[i],hl1 i σ vs H (Nat.le_of_lt hi) p,hl2 i σ vs H (Nat.le_of_lt hi) p,by simp[k1],by simp[k2]⟩
 ·obtain⟨pp,x',y',hp,rfl,rfl,e1,e2⟩:=y
  exact hs i x' y' σ vs H pp (e1 xs (hl1 i σ vs H (Nat.le_of_lt hi) p)) (e2 ys (hl2 i σ vs H (Nat.le_of_lt hi) p)) p hp
end
end L2
namespace L2
open PySem
theorem aL.lO{H H1:Hp}{l:Addr}(s:aL H H1)(h:H l=none)(o:HO):aL H (upd H1 l o):=fun b o' e=>by rw[ay (bG e h)];exact s b o' e
structure Ln(K:PySem.W.Frag) (Ps:St->Prop) (H2:Hp) (us:List V) (ys:List T) (σ:St) (H5:Hp):Prop where
 p:Ps σ
 s:aL H2 H5
 r:aX K H5 ys us
section
variable {K:PySem.W.Frag}{σ0:St}{H0:Hp}{g:TG}{tt:TT}{te:TE}{Q:VK}
theorem uz{α β:Type}{φ:α->List β}(h1:∀p,(φ p).length<=1):∀ps:List α,(ps.flatMap φ).length<=ps.length
 | []=>Nat.zero_le _
 |x::r=>by
  rw[List.flatMap_cons,List.length_append,List.length_cons]
  have:=h1 x
  have:=uz h1 r
  omega
theorem cH{α β:Type}(f:α->β):∀l:List α,(l.flatMap fun p=>[f p])=l.map f
 | []=>rfl
 |x::r=>by rw[List.flatMap_cons,cH f r];rfl
theorem bR{α:Type}{e:α->T}{φ:α->List T}{ps:List α}{vs:List V}{a:Addr}(Ps:St->Prop)(hS:bf K H0 a vs)(hr:aX K H0 (ps.map e) vs)(hl:ps.length<=900)(h1:∀p,(φ p).length<=1)(h0:Ps σ0)
  (hs:∀p∈ps,∀x σ H2 (N:List V->St->Hp->Prop),aL H0 H2->Ps σ->Rp K H2 (e p) x->(∀us σ2 H5,Ln K Ps H2 us (φ p) σ2 H5->N us σ2 H5)->g x σ H2 fun σ2 H3=>tt σ2 H3 fun ok H4=>if ok=true then te σ2 H4 fun v H5=>N [v] σ2 H5 else N [] σ2 H4)
  (k:∀l H' ws,aL H0 H'->H0 l=none->H' l=some (.lst ws)->aX K H' (ps.flatMap φ) ws->Q (.ref l) H'):lV (Hy K a) g tt te Q σ0 H0:=by
 have l:=hr.length
 rw[List.length_map]at l
 refine Cz (xs:=vs) (fun i σ us H2=>Ps σ/\aL H0 H2/\aX K H2 ((ps.take i).flatMap φ) us) ⟨h0,aL.refl _,.nil⟩ ?_ (small (by omega)) ?_ ?_ ?_
 ·rintro i σ us H2 hi ⟨_,_,r⟩
  rw[r.length]
  exact Nat.le_trans (uz h1 _) (by rw[List.length_take];exact Nat.min_le_left _ _)
 ·rintro i σ us H2 hi ⟨_,s,_⟩
  exact hS.same s
 ·rintro i x σ us H2 hx ⟨p,s,r⟩
  obtain⟨y,hy,ry⟩:=hr.get' hx
  rw[List.getElem?_map]at hy
  obtain⟨q,hq,rfl⟩:=Option.map_eq_some_iff.mp hy
  have hil:i<ps.length:=(List.getElem?_eq_some_iff.mp hq).1
  have ep:ps[i]=q:=(List.getElem?_eq_some_iff.mp hq).2
  have z:=hs q (List.mem_of_getElem? hq) x σ H2 (fun ws σ2 H5=>Ps σ2/\aL H0 H5/\aX K H5 ((ps.take (i+1)).flatMap φ) (us++ws)) s p (ry.same s) fun ws σ2 H5 m=>by
   refine⟨m.p,s.trans m.s,?_⟩
   rw[List.take_succ_eq_append_getElem hil,ep,List.flatMap_append]
   exact(r.same m.s).append (by rw[List.flatMap_cons,List.flatMap_nil,List.append_nil];exact m.r)
  simp only[List.append_nil]at z
  exact z
 ·rintro σ us H2 ⟨_,s,r⟩ p hp
  rw[l,List.take_length]at r
  exact k p _ us (s.trans (Zs hp)) (s.free hp) aa (r.same (Zs hp))
theorem jy{α:Type}{e:α->T}{φ:α->List T}{ps:List α}{vs:List V}{a:Addr}(Ps:St->Prop)(hS:H0 a=some (.lst vs))(hr:aX K H0 (ps.map e) vs)(hl:ps.length<=900)(h1:∀p,(φ p).length<=1)(h0:Ps σ0)
  (hs:∀p∈ps,∀x σ H2 (N:List V->St->Hp->Prop),aL H0 H2->Ps σ->Rp K H2 (e p) x->(∀us σ2 H5,Ln K Ps H2 us (φ p) σ2 H5->N us σ2 H5)->g x σ H2 fun σ2 H3=>tt σ2 H3 fun ok H4=>if ok=true then te σ2 H4 fun v H5=>N [v] σ2 H5 else N [] σ2 H4)
  (k:∀l H' ws,aL H0 H'->H0 l=none->H' l=some (.lst ws)->aX K H' (ps.flatMap φ) ws->Q (.ref l) H'):lV (Gm K a) g tt te Q σ0 H0:=by
 have l:=hr.length
 rw[List.length_map]at l
 refine jj (xs:=vs) (fun i σ us H2=>Ps σ/\aL H0 H2/\aX K H2 ((ps.take i).flatMap φ) us) ⟨h0,aL.refl _,.nil⟩ ?_ (small (by omega)) ?_ ?_ ?_
 ·rintro i σ us H2 hi ⟨_,_,r⟩
  rw[r.length]
  exact Nat.le_trans (uz h1 _) (by rw[List.length_take];exact Nat.min_le_left _ _)
 ·rintro i σ us H2 hi ⟨_,s,_⟩
  exact bB.of (s _ _ hS)
 ·rintro i x σ us H2 hx ⟨p,s,r⟩
  obtain⟨y,hy,ry⟩:=hr.get' hx
  rw[List.getElem?_map]at hy
  obtain⟨q,hq,rfl⟩:=Option.map_eq_some_iff.mp hy
  have hil:i<ps.length:=(List.getElem?_eq_some_iff.mp hq).1
  have ep:ps[i]=q:=(List.getElem?_eq_some_iff.mp hq).2
  have z:=hs q (List.mem_of_getElem? hq) x σ H2 (fun ws σ2 H5=>Ps σ2/\aL H0 H5/\aX K H5 ((ps.take (i+1)).flatMap φ) (us++ws)) s p (ry.same s) fun ws σ2 H5 m=>by
   refine⟨m.p,s.trans m.s,?_⟩
   rw[List.take_succ_eq_append_getElem hil,ep,List.flatMap_append]
   exact(r.same m.s).append (by rw[List.flatMap_cons,List.flatMap_nil,List.append_nil];exact m.r)
  simp only[List.append_nil]at z
  exact z
 ·rintro σ us H2 ⟨_,s,r⟩ p hp
  rw[l,List.take_length]at r
  exact k p _ us (s.trans (Zs hp)) (s.free hp) aa (r.same (Zs hp))
theorem aX.bO{H:Hp}:∀{ns:List Str}{vs:List V},aX K H (ns.map .s) vs->vs=ns.map V.str
 | [],_,h=>h.nL
 |n::r,_,h=>by
  obtain⟨v,us,rfl,g,h⟩:=aX.inv (K:=K) (x:=.s n) h
  rw[g.aG,bO h]
  rfl
end
structure lY(M:List Addr) (f:Addr) (H H':Hp):Prop where
 oth:∀b o,b∉M->b≠f->H b=some o->H' b=some o
 kt:Kt H H'
 ff:di H' f
section
variable {M:List Addr}{f:Addr}{H H1 H2:Hp}
theorem lY.refl(hf:di H f):lY M f H H:=⟨fun _ _ _ _ e=>e,Kt.refl,hf⟩
theorem lY.ext(a:lY M f H H1)(e:Ext f H1 H2):lY M f H H2:=⟨fun b o n1 n2 h=>e.1 b o n2 (a.oth b o n1 n2 h),a.kt.trans (e.kt a.ff),e.2⟩
theorem lY.same(a:lY M f H H1)(e:aL H1 H2):lY M f H H2:=⟨fun b o n1 n2 h=>e b o (a.oth b o n1 n2 h),a.kt.trans (Kt.same e),let⟨p,q,h⟩:=a.ff;⟨p,q,e _ _ h⟩⟩
theorem lY.trans(a:lY M f H H1)(b:lY M f H1 H2):lY M f H H2:=⟨fun c o n1 n2 h=>b.oth c o n1 n2 (a.oth c o n1 n2 h),a.kt.trans b.kt,b.ff⟩
theorem lY.upd{l:Addr}{us:List V}{o:HO}(a:lY M f H H1)(hm:l∈M)(n:l≠f)(h:H1 l=some (.lst us)):lY M f H (upd H1 l o):=⟨fun b o' n1 n2 e=>by have z:b≠l:=(fun z=>n1 (by rw[z];exact hm));rw[ay z];exact a.oth b o' n1 n2 e,a.kt.trans (Kt.lst h o),let⟨p,q,e⟩:=a.ff;⟨p,q,by rw[ay n.symm];exact e⟩⟩
theorem lY.Lo{l:Addr}{us:List (Key×V)}{o:HO}(a:lY M f H H1)(hm:l∈M)(n:l≠f)(h:H1 l=some (.dK us)):lY M f H (L2.upd H1 l o):=⟨fun b o' n1 n2 e=>by have z:b≠l:=(fun z=>n1 (by rw[z];exact hm));rw[ay z];exact a.oth b o' n1 n2 e,a.kt.trans (Kt.upd h (fun _ z=>nomatch z) (fun _ _ z=>nomatch z) o),let⟨p,q,e⟩:=a.ff;⟨p,q,by rw[ay n.symm];exact e⟩⟩
theorem lY.Fg{l:Addr}{us:List V}{o:HO}(a:lY M f H H1)(hn:H l=none)(n:l≠f)(h:H1 l=some (.lst us)):lY M f H (L2.upd H1 l o):=⟨fun b o' n1 n2 e=>by rw[ay (bG e hn)];exact a.oth b o' n1 n2 e,a.kt.trans (Kt.lst h o),let⟨p,q,e⟩:=a.ff;⟨p,q,by rw[ay n.symm];exact e⟩⟩
theorem lY.more{l:Addr}(a:lY M f H H1):lY (l::M) f H H1:=⟨fun b o n1 n2 h=>a.oth b o (fun z=>n1 (.tail _ z)) n2 h,a.kt,a.ff⟩
theorem lY.ex(a:lY [] f H H1):Ext f H H1:=⟨fun b o n h=>a.oth b o (fun z=>nomatch z) n h,a.ff⟩
theorem lY.Lp{l:Addr}(a:lY [l] f H H1){b:Addr}{o:HO}(n1:b≠l)(n:b≠f)(h:H b=some o):H1 b=some o:=a.oth b o (fun z=>n1 (List.mem_singleton.mp z)) n h
theorem lY.free(a:lY M f H H1){p:Addr}(hp:H1 p=none)(hm:p∉M):H p=none:=by
 cases e:H p with
 |none=>rfl
 |some o =>
  by_cases c:p=f
  ·subst c;obtain⟨x,y,z⟩:=a.ff;rw[z]at hp;cases hp
  ·rw[a.oth p o hm c e]at hp;cases hp
theorem jz{l:Addr}(hf:di H f)(h:H l=none):l≠f:=fun z=>by
 obtain⟨p,q,e⟩:=hf
 rw[←z,h]at e
 cases e
end
theorem lA(xs:List V)(j:Nat):fH xs (some (j:Int)) none=xs.drop j:=by
 unfold fH
 rw[HT.zk,HT.Cd]
 rcases Nat.le_total j xs.length with h|h
 ·rw[Nat.min_eq_left h,List.take_of_length_le (by rw[List.length_drop];omega)]
 ·rw[Nat.min_eq_right h,List.drop_of_length_le h,List.drop_of_length_le (Nat.le_refl _)];simp
section
variable {K:PySem.W.Frag}{σ0:St}{H0:Hp}{g:TG}{tt:TT}{te:TE}{Q:VK}
theorem yq{α:Type}{e:α->T}{φ:α->List T}{ps:List α}{vs:List V}{a:Addr}(Ps:St->Prop)(hS:H0 a=some (.lst vs))(hr:aX K H0 (ps.map e) vs)(hl:ps.length<=sizeLine)(h1:∀p,(φ p).length<=1)(h0:Ps σ0)
  (hs:∀p∈ps,∀x σ H2 (N:List V->St->Hp->Prop),aL H0 H2->Ps σ->Rp K H2 (e p) x->(∀us σ2 H5,Ln K Ps H2 us (φ p) σ2 H5->N us σ2 H5)->g x σ H2 fun σ2 H3=>tt σ2 H3 fun ok H4=>if ok=true then te σ2 H4 fun v H5=>N [v] σ2 H5 else N [] σ2 H4)
  (k:∀l H' ws,aL H0 H'->H0 l=none->H' l=some (.lst ws)->aX K H' (ps.flatMap φ) ws->Q (.ref l) H'):lV (Gm K a) g tt te Q σ0 H0:=by
 have l:=hr.length
 rw[List.length_map]at l
 refine jj (xs:=vs) (fun i σ us H2=>Ps σ/\aL H0 H2/\aX K H2 ((ps.take i).flatMap φ) us) ⟨h0,aL.refl _,.nil⟩ ?_ (by omega) ?_ ?_ ?_
 ·rintro i σ us H2 hi ⟨_,_,r⟩
  rw[r.length]
  exact Nat.le_trans (uz h1 _) (by rw[List.length_take];exact Nat.min_le_left _ _)
 ·rintro i σ us H2 hi ⟨_,s,_⟩
  exact bB.of (s _ _ hS)
 ·rintro i x σ us H2 hx ⟨p,s,r⟩
  obtain⟨y,hy,ry⟩:=hr.get' hx
  rw[List.getElem?_map]at hy
  obtain⟨q,hq,rfl⟩:=Option.map_eq_some_iff.mp hy
  have hil:i<ps.length:=(List.getElem?_eq_some_iff.mp hq).1
  have ep:ps[i]=q:=(List.getElem?_eq_some_iff.mp hq).2
  have z:=hs q (List.mem_of_getElem? hq) x σ H2 (fun ws σ2 H5=>Ps σ2/\aL H0 H5/\aX K H5 ((ps.take (i+1)).flatMap φ) (us++ws)) s p (ry.same s) fun ws σ2 H5 m=>by
   refine⟨m.p,s.trans m.s,?_⟩
   rw[List.take_succ_eq_append_getElem hil,ep,List.flatMap_append]
   exact(r.same m.s).append (by rw[List.flatMap_cons,List.flatMap_nil,List.append_nil];exact m.r)
  simp only[List.append_nil]at z
  exact z
 ·rintro σ us H2 ⟨_,s,r⟩ p hp
  rw[l,List.take_length]at r
  exact k p _ us (s.trans (Zs hp)) (s.free hp) aa (r.same (Zs hp))
theorem big{n:Nat}(h:n<=1000000):n<=sizeLine:=by rw[sizeLine_eq];omega
end
end L2
namespace G09
open PySem L2
noncomputable def C0:Sp:=fun vs H Q _=>∃c:Nat,vs=[.str ⟨#[c]⟩]/\Q (.str (bV c)) H
noncomputable def LH(l:List Nat):Bool:=(List.zipWith (fun a b=>qJ (bV a) (bV b)) l (l.drop 1)).all id
noncomputable def C1:Sp:=fun vs H Q _=>∃b:List Nat,vs=[.str (au b)]/\b.length<=3000/\∀H',aL H H'->Q (.bl (LH (32::(b++[32])))) H'
theorem yt{c k:Nat}:(V.str ⟨#[c]⟩=V.str ⟨#[k]⟩)↔c=k:=⟨fun h=>by injection h with h;injection h with h;simpa using h,fun h=>by rw[h]⟩
theorem zJ{c:Nat}:c∈("([":Str).cps.toList↔(c=40\/c=91):=by
 rw[show("([":Str).cps.toList=[40,91] by decide +kernel]
 simp
theorem wm{c:Nat}:c∈(")]":Str).cps.toList↔(c=41\/c=93):=by
 rw[show(")]":Str).cps.toList=[41,93] by decide +kernel]
 simp
section
variable {P:Program}{w:World}{K:PySem.W.Frag}{mg:Str->Option Value}{base:Heap}{gS:Addr}{sfd:FuncData}
theorem mT:Nm ["sign"] (ae lg):=by decide +kernel
theorem yu:aH ["sign"] ["sign"] (ae lg):=⟨rfl,rfl,rfl,by decide +kernel,rfl,by decide +kernel,by decide +kernel⟩
theorem Fi{f:Addr}{fd:FuncData}(F:eN K "sort_of" "sort_of" lg f fd):bK P w K mg base d8 1 f fd ["sign"] C0:=by
 refine F.ok yu (fun vs H Q E h=>?_) (fun cdv A outer s H vs Q E hr h=>?_)
 ·obtain⟨_,rfl,_⟩:=h
  rfl
 obtain⟨c,rfl,k⟩:=h
 refine⟨_,(Z4 (Z8 (Zi b9 (va mT 0) ak) (aV (b7 ak))) (Z4 (Z8 (fN iL (va mT 0) ak (by with_unfolding_all rfl)) (aV (b7 ak))) (Z4 (Z8 (fN iL (va mT 0) ak (by with_unfolding_all rfl)) (aV (b7 ak))) (aV (b7 ak))))),?_⟩
 try dsimp only[aU]
 try dsimp only[aU]
 unfold bV at k
 fail "R"
 refine dG (fun c1=>?_) (fun c1=>?_)
 ·have e:c=32:=yt.mp (of_decide_eq_true c1)
  rw[if_pos e]at k
  fail "R"
  exact k
 have ne:¬c=32:=fun e=>c1 (decide_eq_true (yt.mpr e))
 rw[if_neg ne]at k
 fail "R"
 refine dG (fun c2=>?_) (fun c2=>?_)
 ·rw[if_pos (zJ.mp (of_decide_eq_true c2))]at k
  fail "R"
  exact k
 rw[if_neg (fun e=>c2 (decide_eq_true (zJ.mpr e)))]at k
 fail "R"
 refine dG (fun c3=>?_) (fun c3=>?_)
 ·rw[if_pos (wm.mp (of_decide_eq_true c3))]at k
  fail "R"
  exact k
 rw[if_neg (fun e=>c3 (decide_eq_true (wm.mpr e)))]at k
 fail "R"
 exact k
theorem iM:Nm ["text","sorts"] (ae dj):=by decide +kernel
theorem qQ:Lm ["text","sorts"] (ae dj):=by decide +kernel
theorem kM:aH ["text","sorts"] ["text"] (ae dj):=⟨rfl,rfl,rfl,by decide +kernel,rfl,by decide +kernel,by decide +kernel⟩
theorem Fj{f aF aB aS aW aE:Addr}{fd:FuncData}(F:eN K "well_parted" "well_parted" dj f fd)(SO:bE P w K mg base "sort_of" 1 ["sign"] C0 gS sfd)(z_all:mg "all"=none)(z_zip:mg "zip"=none)(mF:mg "FOLLOWERS"=some (.ref aF))
  (dF:KD K w aF [("blank",.ref aB),("start",.ref aS),("word",.ref aW),("end",.ref aE)]) (hB:∀H,bf K H aB (kI "blank")) (hS:∀H,bf K H aS (kI "start")) (hW:∀H,bf K H aW (kI "word")) (hE:∀H,bf K H aE (kI "end")):bK P w K mg base d8 2 f fd ["text"] C1:=by
 refine F.ok kM (fun vs H Q E h=>?_) (fun cdv A outer s H vs Q E hr h=>?_)
 ·obtain⟨_,rfl,_⟩:=h
  rfl
 obtain⟨bb,rfl,hlen,k⟩:=h
 refine⟨_,(Z4 (Ze (ae dj) ["text","sorts"] ["sign"] (ye (Gy (va iM 0))) (fun _ _ _ _=>(Z2 (i:=0) (show(["sign"]:List Str).Nodup by decide +kernel))) (fun _ _ _ _=>(Z0 SO (Z9 (va (show Nm ["sign"] _ by show _=_;kernel_rfl) 0)))) (ga kM.nd qQ 1)) (Zc (Zf (Z3 (nK rfl) z_all PyProof.Rows.boot_all (Z1 (Za (ae dj) ["text","sorts"] ["left","right"] (yp K rfl (by show _=_;kernel_rfl) z_zip (Z1 (va iM 1) (Z1 (cC ic (va iM 1) (cN ao) cV) aj))) (fun _ _ _ _=>(Zh (2) (Zq (Z2 (i:=0) (show(["left","right"]:List Str).Nodup by decide +kernel)) (bW (Z2 (i:=1) (show(["left","right"]:List Str).Nodup by decide +kernel)) cM)))) (fun _ _ _ _=>(fM (yf K rfl) (va (show Nm ["left","right"] _ by show _=_;kernel_rfl) 1) (CS K w rfl rfl (d7 (v:=.ref aF) (by show _=_;kernel_rfl) mF rfl) (va (show Nm ["left","right"] _ by show _=_;kernel_rfl) 0) (fun _ _=>rfl)) (by with_unfolding_all rfl)))) aj))))),?_⟩
 try dsimp only[aU]
 try dsimp only[aU]
 have hl9:(au bb).length<=3000:=by rw[aI];omega
 refine gq ?_
 intro N1 c1
 fail "R"
 refine .inl ⟨_,rfl,by omega,(by show 1+(au bb).length+1<=100000;omega),_,rfl,?_⟩
 have et:(" ":Str)++au bb++(" ":Str)=au (32::(bb++[32])):=by
  show au [32]++au (bb)++au [32]=_
  rw[bZ,bZ]
  rfl
 rw[et]
 refine oT (f:=fun a=>.str (bV a)) (fun _ _ _ _=>rfl) (fun a ha H1 K1 s1 q=>?_) rfl (by show(au _).length<=sizeLine;rw[aI];exact big (by simp;omega)) (fun p hp=>?_)
 ·fail "R"
  exact q
 rw[aA]
 generalize hL:32::(bb++[32])=L
 have hLl:L.length<=4000:=by rw[←hL];simp;omega
 have s1:=ah hp (.lst (L.map fun a=>V.str (bV a)))
 have h1:upd H p (.lst (L.map fun a=>V.str (bV a))) p=some (.lst (L.map fun a=>V.str (bV a))):=aa
 generalize upd H p (.lst (L.map fun a=>V.str (bV a)))=H1 at s1 h1⊢
 rw[hL]at k
 have e1:fH (L.map fun a=>V.str (bV a)) (some 1) none=(L.drop 1).map fun a=>V.str (bV a):=by rw[show(some (1:Int))=some ((1:Nat):Int)from rfl,lA,List.map_drop]
 fail "R"
 intro p2 hp2
 rw[e1]
 have s2:=ah hp2 (.lst ((L.drop 1).map fun a=>V.str (bV a)))
 have h2:upd H1 p2 (.lst ((L.drop 1).map fun a=>V.str (bV a))) p2=some (.lst ((L.drop 1).map fun a=>V.str (bV a))):=aa
 have h2p:=s2 _ _ h1
 generalize upd H1 p2 (.lst ((L.drop 1).map fun a=>V.str (bV a)))=H2 at s2 h2 h2p⊢
 have hb1:nj K false H2 p (L.map fun a=>V.str (bV a)):=bB.of h2p
 have hb2:nj K false H2 p2 ((L.drop 1).map fun a=>V.str (bV a)):=bB.of h2
 have s02:=s1.trans s2
 have hm:min (L.map fun a=>V.str (bV a)).length ((L.drop 1).map fun a=>V.str (bV a)).length=(List.zipWith (fun a b=>qJ (bV a) (bV b)) L (L.drop 1)).length:=by
  rw[List.length_map,List.length_map,List.length_zipWith]
 have hml:(List.zipWith (fun a b=>qJ (bV a) (bV b)) L (L.drop 1)).length<=4000:=by rw[List.length_zipWith];omega
 fail "R"
 refine qP (K:=K) (xs:=L.map fun a=>V.str (bV a)) (ys:=(L.drop 1).map fun a=>V.str (bV a)) (fun i σ us H5=>(∃x y,σ=[x,y])/\aL H2 H5/\us=((List.zipWith (fun a b=>qJ (bV a) (bV b)) L (L.drop 1)).take i).map V.bl) ⟨⟨_,_,rfl⟩,aL.refl _,rfl⟩ ?_ (big (by rw[hm];omega)) ?_ ?_ ?_ ?_
 ·rintro i σ us H5 hi ⟨_,_,rfl⟩
  rw[List.length_map,List.length_take]
  exact Nat.min_le_left _ _
 ·rintro i σ us H5 hi ⟨_,s5,_⟩
  exact bB.of (s5 _ _ h2p)
 ·rintro i σ us H5 hi ⟨_,s5,_⟩
  exact bB.of (s5 _ _ h2)
 ·rintro i x y σ us H5 p6 hx hy ⟨⟨_,_,rfl⟩,s5,rfl⟩ hp6
  rw[List.getElem?_map]at hx hy
  obtain⟨a6,ha6,rfl⟩:=Option.map_eq_some_iff.mp hx
  obtain⟨b6,hb6,rfl⟩:=Option.map_eq_some_iff.mp hy
  have s6:=ah hp6 (.tup [.str (bV a6),.str (bV b6)])
  have h6:upd H5 p6 (.tup [.str (bV a6),.str (bV b6)]) p6=some (.tup [.str (bV a6),.str (bV b6)]):=aa
  generalize upd H5 p6 (.tup [.str (bV a6),.str (bV b6)])=H6 at s6 h6⊢
  have hz:(List.zipWith (fun a b=>qJ (bV a) (bV b)) L (L.drop 1))[i]?=some (qJ (bV a6) (bV b6)):=by rw[List.getElem?_zipWith,ha6,hb6]
  have hfin:((List.zipWith (fun a b=>qJ (bV a) (bV b)) L (L.drop 1)).take (i+1)).map V.bl=((List.zipWith (fun a b=>qJ (bV a) (bV b)) L (L.drop 1)).take i).map V.bl++[V.bl (qJ (bV a6) (bV b6))]:=by
   rw[List.take_add_one,hz,List.map_append]
   rfl
  obtain⟨af,xf,hlk,hsq,hxf⟩:∃af xf,([("blank",V.ref aB),("start",.ref aS),("word",.ref aW),("end",.ref aE)]:List (Str×V)).lookup (bV a6)=some (.ref af)/\bf K H6 af xf/\xf=kI (bV a6):=by
   unfold bV
   split
   ·exact⟨aB,_,rfl,hB _,rfl⟩
   ·split
    ·exact⟨aS,_,rfl,hS _,rfl⟩
    ·split
     ·exact⟨aE,_,rfl,hE _,rfl⟩
     ·exact⟨aW,_,rfl,hW _,rfl⟩
  subst hxf
  have hfl:(kI (bV a6)).all dI=true:=by
   unfold bV
   split
   ·decide +kernel
   ·split
    ·decide +kernel
    ·split<;>decide +kernel
  fail "R"
  ·exact s5.trans s6
  ·exact hfin.symm
 ·rintro σ us H5 ⟨_,s5,rfl⟩ p6 hp6
  rw[hm,List.take_length]
  fail "R"
  exact k _ ((s02.trans s5).trans (Zs hp6))
end
noncomputable abbrev uA:Nat->Str:=fun c=>Str.empty++⟨#[c]⟩++" "
noncomputable abbrev uB:Nat->Str:=fun c=>Str.empty++" "++⟨#[c]⟩
theorem C2(c:Nat):(uA c).length<=100:=by show 2<=100;decide
theorem C3(c:Nat):(uB c).length<=100:=by show 2<=100;decide
theorem Fl(c:Nat):((⟨#[c]⟩:Str) == uA c)=false:=by
 apply beq_eq_false_iff_ne.mpr
 intro e
 have e2:(1:Nat)=2:=congrArg Str.length e
 cases e2
theorem Fo(c:Nat):((⟨#[c]⟩:Str) == uB c)=false:=by
 apply beq_eq_false_iff_ne.mpr
 intro e
 have e2:(1:Nat)=2:=congrArg Str.length e
 cases e2
noncomputable def wV(l:List (List Nat)):List V:=l.map fun w=>V.str (au w)
noncomputable def zK:Sp:=fun vs H Q _=>∃b:List Nat,vs=[.str (au b)]/\b.length<=3000/\∀(p:Addr) (H':Hp),aL H H'->H p=none->H' p=some (.lst (wV (wd (Rb b))))->Q (.ref p) H'
theorem Fp(l:List (List Nat)):(l.flatMap fun p=>if p.isEmpty then []else [T.s (au p)])=(l.filter fun p=>!p.isEmpty).map fun p=>T.s (au p):=by
 induction l with
 |nil=>rfl
 |cons p r ih =>
  rw[List.flatMap_cons,ih]
  cases p with
  |nil=>rfl
  |cons a q=>rfl
theorem C4(c:Nat):(uA c).cps.toList=[c,32]:=rfl
theorem C5(c:Nat):(uB c).cps.toList=[32,c]:=rfl
theorem GB(l:List Nat):repl uA (au l) [40,91]=au (E3 l):=by
 unfold repl
 show Txt.replace (Txt.replace (au l) ⟨#[40]⟩ (uA 40)) ⟨#[91]⟩ (uA 91)=_
 rw[k4,k4,C4,C4]
 rfl
theorem GC(l:List Nat):repl uB (au l) [41,93]=au (Gz l):=by
 unfold repl
 show Txt.replace (Txt.replace (au l) ⟨#[41]⟩ (uB 41)) ⟨#[93]⟩ (uB 93)=_
 rw[k4,k4,C5,C5]
 rfl
theorem A9{l:List Nat}(h:l.length<=4000)(k:Nat):(repl uA (au l) (([40,91]:List Nat).take k)).length<=65535:=by
 match k with
 |0=>show(au l).length<=_;rw[aI];omega
 |1 =>
  show(Txt.replace (au l) ⟨#[40]⟩ (uA 40)).length<=_
  have:=mR (c:=40) (z:=[40,32]) (by decide) l
  rw[k4,aI,C4]
  omega
 |k+2 =>
  have e:([40,91]:List Nat).take (k+2)=[40,91]:=List.take_of_length_le (by show 2<=k+2;omega)
  have:=CP l
  rw[e,GB,aI]
  omega
theorem Ba{l:List Nat}(h:l.length<=16000)(k:Nat):(repl uB (au l) (([41,93]:List Nat).take k)).length<=65535:=by
 match k with
 |0=>show(au l).length<=_;rw[aI];omega
 |1 =>
  show(Txt.replace (au l) ⟨#[41]⟩ (uB 41)).length<=_
  have:=mR (c:=41) (z:=[32,41]) (by decide) l
  rw[k4,aI,C5]
  omega
 |k+2 =>
  have e:([41,93]:List Nat).take (k+2)=[41,93]:=List.take_of_length_le (by show 2<=k+2;omega)
  have:=CQ l
  rw[e,GC,aI]
  omega
theorem wo{K:PySem.W.Frag}{H:Hp}:∀l:List (List Nat),aX K H (l.map fun q=>T.s (au q)) (l.map (V.str ∘ au))
 | []=>.nil
 |_::r=>.cons .s (wo r)
section
variable {P:Program}{w:World}{K:PySem.W.Frag}{mg:Str->Option Value}{base:Heap}{gS:Addr}{sfd:FuncData}
theorem qR:Nm ["text","sign"] (ae eV):=by decide +kernel
theorem iN:aH ["text","sign"] ["text"] (ae eV):=⟨rfl,rfl,rfl,by decide +kernel,rfl,by decide +kernel,by decide +kernel⟩
theorem C6{f:Addr}{fd:FuncData}(F:eN K "split_words" "split_words" eV f fd):bK P w K mg base d8 1 f fd ["text"] zK:=by
 refine F.ok iN (fun vs H Q E h=>?_) (fun cdv A outer s H vs Q E hr h=>?_)
 ·obtain⟨_,rfl,_⟩:=h
  rfl
 obtain⟨bb,rfl,hlen,k⟩:=h
 refine⟨_,(Z4 (zC (i:=0) (j:=1) (g:=uA) rfl iN.nd rfl rfl rfl rfl (A1 rfl (by decide)) C2 Fl (by decide) (by decide +kernel)) (Z4 (zC (i:=0) (j:=1) (g:=uB) rfl iN.nd rfl rfl rfl rfl (CC rfl (by decide)) C3 Fo (by decide) (by decide +kernel)) (Zc (Zf (@fO _ _ _ _ _ _ _ _ _ _ _ (ae eV) ["text","sign"] ["word"] [] rfl rfl rfl (by decide +kernel) (fJ (by exact cz PySem.F.plainAttrs_str PySem.F.slot_str_split PySem.F.type_str_split vQ (va qR 0) (Z9 ak) (hbase:=by kernel_rfl) (hfew:=by kernel_rfl) (hline:=by kernel_rfl) (hs:=by kernel_rfl) (hplain:=by kernel_rfl))) (fun _ _ _ _=>(Z2 (i:=0) (show(["word"]:List Str).Nodup by decide +kernel))) (fun _ _ _ _=>(Cv (A7 K rfl (va (show Nm ["word"] _ by show _=_;kernel_rfl) 0) (fun _=>rfl)))) (fun _ _ _ _=>(va (show Nm ["word"] _ by show _=_;kernel_rfl) 0)) (by intro _;rfl)))))),?_⟩
 try dsimp only[aU]
 try dsimp only[aU]
 have hR1:=CP bb
 have hR2:=CQ (E3 bb)
 refine fV ?_
 intro N1 N2 c1 c2
 have e1:("([":Str).cps.toList=[40,91]:=by decide +kernel
 have e2:(")]":Str).cps.toList=[41,93]:=by decide +kernel
 refine⟨au bb,rfl,fun j=>by rw[e1];exact A9 (by omega) j,?_⟩
 rw[e1,GB]
 refine c1 _ _ ?_
 refine⟨_,rfl,fun j=>by rw[e2];exact Ba (by omega) j,?_⟩
 rw[e2,GC]
 refine c2 _ _ ?_
 rw[show Gz (E3 bb)=Rb bb from rfl]
 have hF:(Rb bb).length<=48000:=by show(Gz (E3 bb)).length<=_;omega
 have hsl:(au (Rb bb)).length<=100000:=by rw[aI];omega
 have esp:=A2 (Rb bb) 32
 have espl:(sp 32 (Rb bb)).length<=sizeLine:=by
  refine big ?_
  have:=PyProof.Rows.split_le (au (Rb bb)) ⟨#[32]⟩
  rw[esp,List.length_map,aI]at this
  omega
 fail "R"
 intro p hp
 rw[show(" ":Str)=⟨#[32]⟩from rfl,esp,List.map_map]
 have s1:=ah hp (.lst ((sp 32 (Rb bb)).map (V.str ∘ au)))
 have h1:upd H p (.lst ((sp 32 (Rb bb)).map (V.str ∘ au))) p=some (.lst ((sp 32 (Rb bb)).map (V.str ∘ au))):=aa
 generalize upd H p (.lst ((sp 32 (Rb bb)).map (V.str ∘ au)))=H1 at s1 h1⊢
 fail "R"
 refine yq (K:=K) (e:=fun q=>T.s (au q)) (φ:=fun q=>if q.isEmpty then []else [T.s (au q)]) (ps:=sp 32 (Rb bb)) (fun σ=>∃x,σ=[x]) h1 (wo _) espl ?_ ⟨_,rfl⟩ ?_ ?_
 ·intro q
  cases q<;>simp
 ·rintro q hq x σ H2 N s2 ⟨y,rfl⟩ rx kN
  obtain rfl:=rx.aG
  have hql:(au q).length<=sizeLine:=by
   have hm:au q∈Txt.split (au (Rb bb)) ⟨#[32]⟩:=by rw[esp];exact List.mem_map_of_mem hq
   have:=PyProof.Rows.part_short hm
   rw[aI (Rb bb)]at this
   exact big (by omega)
  refine⟨_,rfl,_,⟨hql,rfl⟩,?_⟩
  cases q with
  |nil=>exact kN [] _ _ ⟨⟨_,rfl⟩,aL.refl _,.nil⟩
  |cons a r=>exact⟨_,rfl,kN _ _ _ ⟨⟨_,rfl⟩,aL.refl _,.one .s⟩⟩
 ·intro l H' us s3 hl h3 r3
  rw[Fp]at r3
  have e3:us=wV (wd (Rb bb)):=by
   have z:aX K H' ((((sp 32 (Rb bb)).filter fun p=>!p.isEmpty).map au).map T.s) us:=by rw[List.map_map];exact r3
   rw[z.bO,List.map_map]
   rfl
  rw[e3]at h3
  exact k l H' (s1.trans s3) (s1.free hl) h3
end
end G09
namespace L2
open PySem PySem.Spec PyProof.Rows
theorem toks_le(b:Bw):b.ok->b.toks.length<=b.txt.length:=by
 refine Bw.induct (P:=fun b=>b.ok->b.toks.length<=b.txt.length) (fun w h=>?_) (fun o ws ih h=>?_) b
 ·unfold Bw.ok at h
  unfold Bw.toks Bw.txt
  cases w with
  |nil=>exact absurd rfl h.1
  |cons c r=>show 1<=r.length+1;omega
 ·unfold Bw.ok at h
  have all:∀(l:List Bw),(∀x∈l,x.ok->x.toks.length<=x.txt.length)->Bw.jF l->(Bw.bY l).length<=(Bw.bP l).length:=by
   intro l
   induction l with
   |nil=>intro _ _;exact Nat.le_refl _
   |cons x r ihr =>
    intro hx hk
    unfold Bw.jF at hk
    unfold Bw.bY Bw.bP
    have:=hx x (.head _) hk.1
    have:=ihr (fun z hz=>hx z (.tail _ hz)) hk.2
    rw[List.length_append,List.length_cons,List.length_append]
    omega
  unfold Bw.toks Bw.txt
  show(Bw.bY ws++[[kE o]]).length+1<=(Bw.bC ws++[kE o]).length+1
  rw[List.length_append,List.length_append]
  have:(Bw.bY ws).length<=(Bw.bC ws).length:=by
   cases ws with
   |nil=>exact Nat.le_refl _
   |cons x r =>
    unfold Bw.bY Bw.bC
    have hk:=h.2
    unfold Bw.jF at hk
    have:=ih x (.head _) hk.1
    have:=all r (fun z hz=>ih z (.tail _ hz)) hk.2
    rw[List.length_append,List.length_append]
    omega
  show(Bw.bY ws).length+1+1<=(Bw.bC ws).length+1+1
  omega
noncomputable def LI(Vl:Bw->T->Prop):List Bw->List T->Prop
 | [],ts=>ts=[]
 |b::r,ts=>∃t q,ts=t::q/\Vl b t/\LI Vl r q
section
variable {Gd:Bw->Prop}
noncomputable def Fq(Gd:Bw->Prop)(st:ni):Prop:=∀f∈st,∀x∈f.2,Gd x
theorem zL {st st' : ni} {w : List Nat} (h : stp st w = some st') : ∃ o xs s, st = (o, xs) :: s ∧
    (((w = [40] ∨ w = [91]) ∧ st' = (w.headD 0, []) :: st) ∨
     (¬ (w = [40] ∨ w = [91]) ∧ (w = [41] ∨ w = [93]) ∧ ∃ o' ys s', s = (o', ys) :: s' ∧ w = [kE o] ∧ st' = (o', ys ++ [.g o xs]) :: s') ∨
     (¬ (w = [40] ∨ w = [91]) ∧ ¬ (w = [41] ∨ w = [93]) ∧ st' = (o, xs ++ [.a w]) :: s)) := by
  cases st with
  | nil => cases h
  | cons f s =>
    obtain ⟨o, xs⟩ := f
    refine ⟨o, xs, s, rfl, ?_⟩
    by_cases h1 : w = [40] ∨ w = [91]
    · rw [vW h1] at h
      exact .inl ⟨h1, (Option.some.inj h).symm⟩
    · by_cases h2 : w = [41] ∨ w = [93]
      · refine .inr (.inl ⟨h1, h2, ?_⟩)
        cases s with
        | nil =>
          have h' : (if w = [40] ∨ w = [91] then some ((w.headD 0, []) :: (o, xs) :: []) else if w = [41] ∨ w = [93] then none else some ((o, xs ++ [.a w]) :: [])) = some st' := h
          rw [if_neg h1, if_pos h2] at h'
          cases h'
        | cons f2 s' =>
          obtain ⟨o', ys⟩ := f2
          have h' : (if w = [40] ∨ w = [91] then some ((w.headD 0, []) :: (o, xs) :: (o', ys) :: s') else if w = [41] ∨ w = [93] then (if w = [kE o] then some ((o', ys ++ [Bw.g o xs]) :: s') else none) else some ((o, xs ++ [.a w]) :: (o', ys) :: s')) = some st' := h
          rw [if_neg h1, if_pos h2] at h'
          by_cases h3 : w = [kE o]
          · rw [if_pos h3] at h'
            exact ⟨o', ys, s', rfl, h3, (Option.some.inj h').symm⟩
          · rw [if_neg h3] at h'
            cases h'
      · rw [vX h1 h2] at h
        exact .inr (.inr ⟨h1, h2, (Option.some.inj h).symm⟩)
theorem C7(hG:∀o ws,Gd (.g o ws)->∀x∈ws,Gd x){st st':ni}{w:List Nat}(h:stp st w=some st')(g:Fq Gd st'):Fq Gd st:=by
 obtain⟨o,xs,s,rfl,c⟩:=zL h
 rcases c with⟨_,rfl⟩|⟨_,_,o',ys,s',rfl,_,rfl⟩|⟨_,_,rfl⟩
 ·exact fun f hf=>g f (.tail _ hf)
 ·intro f hf x hx
  rcases List.mem_cons.mp hf with rfl|hf
  ·exact hG o xs (g _ (.head _) _ (List.mem_append_right _ (.head _))) x hx
  rcases List.mem_cons.mp hf with rfl|hf
  ·exact g _ (.head _) x (List.mem_append_left _ hx)
  ·exact g f (.tail _ hf) x hx
 ·intro f hf x hx
  rcases List.mem_cons.mp hf with rfl|hf
  ·exact g _ (.head _) x (List.mem_append_left _ hx)
  ·exact g f (.tail _ hf) x hx
theorem sU(hG:∀o ws,Gd (.g o ws)->∀x∈ws,Gd x):∀{r:List (List Nat)}{st fin:ni},mQ st r=some fin->Fq Gd fin->Fq Gd st
 | [],st,fin,h,g=>by cases h;exact g
 |w::r,st,fin,h,g=>by
  have h:(stp st w).bind (fun st'=>mQ st' r)=some fin:=h
  cases e:stp st w with
  |none=>rw[e]at h;cases h
  |some st' =>
   rw[e]at h
   exact C7 hG e (sU hG h g)
end
section
variable {K:PySem.W.Frag}{Vl:Bw->T->Prop}
noncomputable def qS(K:PySem.W.Frag)(Vl:Bw->T->Prop)(H:Hp):ni->List Addr->Prop
 | [],hs=>hs=[]
 |f::st,hs=>∃h r vs ts,hs=h::r/\H h=some (.lst vs)/\aX K H ts vs/\LI Vl f.2 ts/\vs.length<=100000/\qS K Vl H st r
theorem qS.keep{H H':Hp}(k:Kt H H'):∀{st:ni}{hs:List Addr},qS K Vl H st hs->(∀h∈hs,∀vs,H h=some (.lst vs)->H' h=some (.lst vs))->qS K Vl H' st hs
 | [],_,h,_=>h
 |_::_,_,⟨h,r,vs,ts,e,h1,h2,h3,h4,h5⟩,hk=>by
  subst e
  exact⟨h,r,vs,ts,rfl,hk h (.head _) vs h1,h2.kt k,h3,h4,h5.keep k fun x hx=>hk x (.tail _ hx)⟩
theorem qS.some{H:Hp}:∀{st:ni}{hs:List Addr},qS K Vl H st hs->∀h∈hs,∃vs,H h=some (.lst vs)
 | [],_,e,x,hx=>by
  have e:_=[]:=e
  subst e
  cases hx
 |_::_,_,⟨h,r,vs,ts,e,h1,_,_,_,h5⟩,x,hx=>by
  subst e
  cases hx with
  |head=>exact⟨vs,h1⟩
  |tail _ hx=>exact h5.some x hx
noncomputable def eK(st:ni):List V:=(st.dropLast.map fun f=>V.str ⟨#[f.1]⟩).reverse
structure HR(K:PySem.W.Frag) (Vl:Bw->T->Prop) (B:Hp) (o hl:Addr) (hs:List Addr) (st:ni) (H:Hp):Prop where
 same:aL B H
 new:∀x∈o::hl::hs,B x=none
 nd:(o::hl::hs).Nodup
 op:H o=some (.lst (eK st))
 hd:H hl=some (.lst (hs.reverse.map V.ref))
 fr:qS K Vl H st hs
 ok:∀f∈st.dropLast,f.1=40\/f.1=91
variable {B H H':Hp}{o hl:Addr}{hs:List Addr}{st:ni}
theorem Kw(nd:(o::hl::hs).Nodup):o≠hl/\(∀x∈hs,o≠x)/\(∀x∈hs,hl≠x)/\hs.Nodup:=by
 obtain⟨h1,h2⟩:=List.nodup_cons.mp nd
 obtain⟨h3,h4⟩:=List.nodup_cons.mp h2
 exact⟨fun e=>h1 (by rw[e];exact .head _),fun x hx e=>h1 (by rw[e];exact .tail _ hx),fun x hx e=>h3 (by rw[e];exact hx),h4⟩
theorem HR.up(p:HR K Vl B o hl hs st H)(s:aL H H'):HR K Vl B o hl hs st H' :=
 ⟨p.same.trans s,p.new,p.nd,s _ _ p.op,s _ _ p.hd,p.fr.keep (Kt.same s) fun h _ vs e=>s _ _ e,p.ok⟩
end
theorem wu:∀(l:List Bw),Bw.jF l->(Bw.bY l).length<=(Bw.bP l).length
 | [],_=>Nat.le_refl _
 |x::r,h=>by
  unfold Bw.jF at h
  unfold Bw.bY Bw.bP
  have:=toks_le x h.1
  have:=wu r h.2
  rw[List.length_append,List.length_cons,List.length_append]
  omega
theorem Bb{l:List Bw}(h:Bw.jF l):(Bw.bY l).length<=(Bw.bC l).length:=by
 cases l with
 |nil=>exact Nat.le_refl _
 |cons x r =>
  unfold Bw.jF at h
  unfold Bw.bY Bw.bC
  have:=toks_le x h.1
  have:=wu r h.2
  rw[List.length_append,List.length_append]
  omega
theorem GD:∀(l:List Bw),Bw.jF l->∀m,Eb m->qL m->Eb (Bw.bP l++m)/\qL (Bw.bP l++m)
 | [],_,m,hm,ad=>by unfold Bw.bP;exact⟨hm,ad⟩
 |x::r,hk,m,hm,ad=>by
  unfold Bw.jF at hk
  obtain⟨e1,a1⟩:=GD r hk.2 m hm ad
  unfold Bw.bP
  show Eb (32::((x.txt++Bw.bP r)++m))/\qL (32::((x.txt++Bw.bP r)++m))
  rw[List.append_assoc]
  exact⟨⟨32,_,rfl,.inr (by decide +kernel)⟩,uv (.inr (by decide +kernel)) (x.sb hk.1 _) (CO x hk.1 _ e1 a1)⟩
theorem C8{l:List Bw}(h:Bw.jF l)(hn:l≠[]):qL (32::(Bw.bC l++[32])):=by
 cases l with
 |nil=>exact absurd rfl hn
 |cons x r =>
  unfold Bw.jF at h
  unfold Bw.bC
  rw[List.append_assoc]
  obtain⟨e1,a1⟩:=GD r h.2 [32] ⟨32,[],rfl,.inr (by decide +kernel)⟩ rfl
  exact uv (.inr (by decide +kernel)) (x.sb h.1 _) (CO x h.1 _ e1 a1)
theorem JR:∀(l:List Bw),Bw.jF l->Tl (Rb (Bw.bP l))/\wd (Rb (Bw.bP l))=Bw.bY l
 | [],_=>⟨.inl rfl,rfl⟩
 |x::r,h=>by
  unfold Bw.jF at h
  obtain⟨t1,e1⟩:=JR r h.2
  unfold Bw.bP Bw.bY
  rw[show 32::(x.txt++Bw.bP r)=[32]++(x.txt++Bw.bP r)from rfl,jJ,zD,jJ]
  exact⟨.inr ⟨_,rfl⟩,by show wd (32::(Rb x.txt++Rb (Bw.bP r)))=_;rw[iH,GA x h.1 _ t1,e1]⟩
theorem Ft{l:List Bw}(h:Bw.jF l):wd (Rb (Bw.bC l))=Bw.bY l:=by
 cases l with
 |nil=>rfl
 |cons x r =>
  unfold Bw.jF at h
  obtain⟨t1,e1⟩:=JR r h.2
  unfold Bw.bC Bw.bY
  rw[jJ,GA x h.1 _ t1,e1]
theorem zM:∀(l:List Bw),Bw.jF l->∀(o:Nat) (ys:List Bw) (st:ni),mQ ((o,ys)::st) (Bw.bY l)=some ((o,ys++l)::st)
 | [],_,o,ys,st=>by unfold Bw.bY;rw[List.append_nil];rfl
 |x::r,hk,o,ys,st=>by
  unfold Bw.jF at hk
  unfold Bw.bY
  rw[nM,HM x hk.1,Option.bind_some,zM r hk.2,List.append_assoc]
  rfl
noncomputable abbrev BO:=List Addr->Hp->Bw->V->Prop
structure oU(M:List Addr) (H H':Hp):Prop where
 kt:Kt H H'
 l:∀a vs,a∉M->H a=some (.lst vs)->H' a=some (.lst vs)
theorem oU.trans{M:List Addr}{H H1 H2:Hp}(a:oU M H H1)(b:oU M H1 H2):oU M H H2:=⟨a.kt.trans b.kt,fun x vs n e=>b.l x vs n (a.l x vs n e)⟩
theorem oU.same{M:List Addr}{H H':Hp}(s:aL H H'):oU M H H':=⟨Kt.same s,fun a vs _ e=>s _ _ e⟩
theorem oU.upd{M:List Addr}{H:Hp}{l:Addr}{us:List V}{o:HO}(h:H l=some (.lst us))(m:l∈M):oU M H (upd H l o):=⟨Kt.lst h o,fun a vs n e=>by rw[ay (fun z=>n (by rw[z];exact m))];exact e⟩
theorem oU.new{M:List Addr}{H:Hp}{q:Addr}{o:HO}(h:H q=none):oU M H (L2.upd H q o):=oU.same (ah h o)
structure uC(R:BO):Prop where
 keep:∀{M H H' b v},R M H b v->oU M H H'->R M H' b v
 sub:∀{M M' H b v},R M H b v->(∀a∈M',a∈M\/H a=none)->R M' H b v
 word:∀M H w,R M H (.a w) (.str (au w))
noncomputable def uD(R:BO)(M:List Addr)(H:Hp):List Bw->List V->Prop
 | [],vs=>vs=[]
 |b::r,vs=>∃v q,vs=v::q/\R M H b v/\uD R M H r q
section
variable {R:BO}{M M':List Addr}{H H':Hp}
theorem uD.snoc{b:Bw}{v:V}(h:R M H b v):∀{xs:List Bw}{vs:List V},uD R M H xs vs->uD R M H (xs++[b]) (vs++[v])
 | [],vs,e=>by
  have e:vs=[]:=e
  subst e
  exact⟨v,[],rfl,h,rfl⟩
 |x::r,vs,⟨u,q,e,h1,h2⟩=>by
  subst e
  exact⟨u,q++[v],rfl,h1,h2.snoc h⟩
theorem uD.len:∀{xs:List Bw}{vs:List V},uD R M H xs vs->vs.length=xs.length
 | [],vs,e=>by
  have e:vs=[]:=e
  subst e
  rfl
 |x::r,vs,⟨u,q,e,h1,h2⟩=>by
  subst e
  rw[List.length_cons,h2.len,List.length_cons]
theorem uD.imp{R':BO}(f:∀b v,R M H b v->R' M' H' b v):∀{xs:List Bw}{vs:List V},uD R M H xs vs->uD R' M' H' xs vs
 | [],_,e=>e
 |x::r,vs,⟨u,q,e,h1,h2⟩=>⟨u,q,e,f _ _ h1,h2.imp f⟩
theorem uD.get:∀{xs:List Bw}{vs:List V},uD R M H xs vs->∀{i:Nat}{v:V},vs[i]?=some v->∃b,xs[i]?=some b/\R M H b v
 | [],vs,e,i,v,h=>by
  have e:vs=[]:=e
  subst e
  simp at h
 |x::r,vs,⟨u,q,e,h1,h2⟩,i,v,h=>by
  subst e
  cases i with
  |zero=>cases Option.some.inj h;exact⟨x,rfl,h1⟩
  |succ i=>exact h2.get h
noncomputable def BP(R:BO)(M:List Addr)(H:Hp):ni->List Addr->Prop
 | [],hs=>hs=[]
 |f::st,hs=>∃h r vs,hs=h::r/\H h=some (.lst vs)/\uD R M H f.2 vs/\vs.length<=100000/\BP R M H st r
theorem BP.keep(O:uC R)(k:oU M H H'):∀{st:ni}{hs:List Addr},BP R M H st hs->(∀h∈hs,∀vs,H h=some (.lst vs)->H' h=some (.lst vs))->BP R M H' st hs
 | [],_,h,_=>h
 |_::_,_,⟨h,r,vs,e,h1,h2,h4,h5⟩,hk=>by
  subst e
  exact⟨h,r,vs,rfl,hk h (.head _) vs h1,h2.imp fun _ _ z=>O.keep z k,h4,h5.keep O k fun x hx=>hk x (.tail _ hx)⟩
theorem BP.sub(O:uC R)(k:∀a∈M',a∈M\/H a=none):∀{st:ni}{hs:List Addr},BP R M H st hs->BP R M' H st hs
 | [],_,h=>h
 |_::_,_,⟨h,r,vs,e,h1,h2,h4,h5⟩=>⟨h,r,vs,e,h1,h2.imp fun _ _ z=>O.sub z k,h4,h5.sub O k⟩
theorem BP.some:∀{st:ni}{hs:List Addr},BP R M H st hs->∀h∈hs,∃vs,H h=some (.lst vs)
 | [],_,e,x,hx=>by
  have e:_=[]:=e
  subst e
  cases hx
 |_::_,_,⟨h,r,vs,e,h1,_,_,h5⟩,x,hx=>by
  subst e
  cases hx with
  |head=>exact⟨vs,h1⟩
  |tail _ hx=>exact h5.some x hx
theorem BP.len:∀{st:ni}{hs:List Addr},BP R M H st hs->hs.length=st.length
 | [],_,e=>by
  have e:_=[]:=e
  subst e
  rfl
 |_::_,_,⟨h,r,vs,e,_,_,_,h5⟩=>by
  subst e
  rw[List.length_cons,h5.len,List.length_cons]
structure zN(R:BO) (B:Hp) (o hl:Addr) (hs:List Addr) (st:ni) (H:Hp):Prop where
 same:aL B H
 new:∀x∈o::hl::hs,B x=none
 nd:(o::hl::hs).Nodup
 op:H o=some (.lst (eK st))
 hd:H hl=some (.lst (hs.reverse.map V.ref))
 fr:BP R (o::hl::hs) H st hs
 ok:∀f∈st.dropLast,f.1=40\/f.1=91
variable {B:Hp}{o hl:Addr}{hs:List Addr}{st:ni}
theorem zN.up(O:uC R)(p:zN R B o hl hs st H)(s:aL H H'):zN R B o hl hs st H' :=
 ⟨p.same.trans s,p.new,p.nd,s _ _ p.op,s _ _ p.hd,p.fr.keep O (oU.same s) fun h _ vs e=>s _ _ e,p.ok⟩
theorem zN.L7(O:uC R)(p:zN R B o hl hs st H)(hst:st≠[]){c:Nat}(hc:c=40\/c=91){q:Addr}(hq:H q=none) :
  zN R B o hl (q::hs) ((c,[])::st) (upd (upd (upd H o (.lst (eK st++[.str ⟨#[c]⟩]))) q (.lst [])) hl (.lst (hs.reverse.map V.ref++[.ref q]))):=by
 obtain⟨n1,n2,n3,n4⟩:=Kw p.nd
 have qo:q≠o:=fun e=>by rw[e,p.op]at hq;cases hq
 have ql:q≠hl:=fun e=>by rw[e,p.hd]at hq;cases hq
 have qs:∀x∈hs,q≠x:=fun x hx e=>by
  obtain⟨vs,hv⟩:=p.fr.some x hx
  rw[e,hv]at hq
  cases hq
 have q0:B q=none:=by
  cases e:B q with
  |none=>rfl
  |some u=>rw[p.same _ _ e]at hq;cases hq
 have hqo:upd H o (.lst (eK st++[.str ⟨#[c]⟩])) q=none:=by rw[ay qo];exact hq
 have k1:oU (o::hl::q::hs) H (upd H o (.lst (eK st++[.str ⟨#[c]⟩]))):=oU.upd p.op (.head _)
 have k2:oU (o::hl::q::hs) _ (upd (upd H o (.lst (eK st++[.str ⟨#[c]⟩]))) q (.lst [])):=oU.new hqo
 have hl2:upd (upd H o (.lst (eK st++[.str ⟨#[c]⟩]))) q (.lst []) hl=some (.lst (hs.reverse.map V.ref)):=by rw[ay (Ne.symm ql),ay (Ne.symm n1)];exact p.hd
 have k3:oU (o::hl::q::hs) _ (upd (upd (upd H o (.lst (eK st++[.str ⟨#[c]⟩]))) q (.lst [])) hl (.lst (hs.reverse.map V.ref++[.ref q]))):=oU.upd hl2 (.tail _ (.head _))
 have ed:((c,[])::st).dropLast=(c,[])::st.dropLast:=by cases st with|nil=>exact absurd rfl hst|cons=>rfl
 refine⟨((p.same.lO (p.new o (.head _)) _).lO q0 _).lO (p.new hl (.tail _ (.head _))) _,?_,?_,?_,?_,?_,?_⟩
 ·intro x hx
  rcases List.mem_cons.mp hx with rfl|hx
  ·exact p.new _ (.head _)
  rcases List.mem_cons.mp hx with rfl|hx
  ·exact p.new _ (.tail _ (.head _))
  rcases List.mem_cons.mp hx with rfl|hx
  ·exact q0
  ·exact p.new _ (.tail _ (.tail _ hx))
 ·refine List.nodup_cons.mpr ⟨fun h=>?_,List.nodup_cons.mpr ⟨fun h=>?_,List.nodup_cons.mpr ⟨fun h=>qs _ h rfl,n4⟩⟩⟩
  ·rcases List.mem_cons.mp h with h|h
   ·exact n1 h
   rcases List.mem_cons.mp h with h|h
   ·exact qo h.symm
   ·exact n2 _ h rfl
  ·rcases List.mem_cons.mp h with h|h
   ·exact ql h.symm
   ·exact n3 _ h rfl
 ·rw[ay n1,ay (Ne.symm qo),aa]
  unfold eK
  rw[ed,List.map_cons,List.reverse_cons]
 ·rw[aa,List.reverse_cons,List.map_append]
  rfl
 ·refine⟨q,hs,[],rfl,by rw[ay ql,aa],rfl,Nat.zero_le _,(p.fr.sub O (M':=o::hl::q::hs) fun a ha=>?_).keep O ((k1.trans k2).trans k3) fun x hx vs e=>?_⟩
  ·rcases List.mem_cons.mp ha with rfl|ha
   ·exact .inl (.head _)
   rcases List.mem_cons.mp ha with rfl|ha
   ·exact .inl (.tail _ (.head _))
   rcases List.mem_cons.mp ha with rfl|ha
   ·exact .inr hq
   ·exact .inl (.tail _ (.tail _ ha))
  ·rw[ay (Ne.symm (n3 x hx)),ay (Ne.symm (qs x hx)),ay (Ne.symm (n2 x hx))]
   exact e
 ·rw[ed]
  intro f hf
  rcases List.mem_cons.mp hf with rfl|hf
  ·exact hc
  ·exact p.ok f hf
theorem zN.app(O:uC R){c:Nat}{xs:List Bw}{h:Addr}(p:zN R B o hl (h::hs) ((c,xs)::st) H){b:Bw}{v:V}{vs:List V}(hv:H h=some (.lst vs))(r:R (o::hl::h::hs) H b v)(hn:vs.length<100000) :
  zN R B o hl (h::hs) ((c,xs++[b])::st) (upd H h (.lst (vs++[v]))):=by
 obtain⟨n1,n2,n3,n4⟩:=Kw p.nd
 obtain⟨h',r',vs',e,h1,h2,h4,h5⟩:=p.fr
 cases e
 rw[hv]at h1
 cases h1
 have k1:oU (o::hl::h::hs) H (upd H h (.lst (vs++[v]))):=oU.upd hv (.tail _ (.tail _ (.head _)))
 have ed:∀x:List Bw,eK ((c,x)::st)=eK ((c,xs)::st):=fun x=>by unfold eK;cases st<;>rfl
 refine⟨p.same.lO (p.new h (.tail _ (.tail _ (.head _)))) _,p.new,p.nd,?_,by rw[ay (n3 h (.head _))];exact p.hd,?_,?_⟩
 ·rw[ay (n2 h (.head _)),ed]
  exact p.op
 ·refine⟨h,hs,vs++[v],rfl,aa,(h2.snoc r).imp fun _ _ z=>O.keep z k1,by rw[List.length_append];exact hn,h5.keep O k1 fun x hx ws e=>?_⟩
  rw[ay (fun z=>(List.nodup_cons.mp n4).1 (by rw[←z];exact hx))]
  exact e
 ·intro f hf
  cases st with
  |nil=>cases hf
  |cons f2 st2 =>
   rcases List.mem_cons.mp hf with rfl|hf
   ·exact p.ok (c,xs) (.head _)
   ·exact p.ok f (.tail _ hf)
theorem zN.pop(O:uC R){c:Nat}{xs:List Bw}{h:Addr}(p:zN R B o hl (h::hs) ((c,xs)::st) H)(hst:st≠[]) :
  zN R B o hl hs st (upd (upd H hl (.lst (hs.reverse.map V.ref))) o (.lst (eK st)))/\∃vs,H h=some (.lst vs)/\upd (upd H hl (.lst (hs.reverse.map V.ref))) o (.lst (eK st)) h=some (.lst vs)/\h∉o::hl::hs/\uD R (o::hl::hs) (upd (upd H hl (.lst (hs.reverse.map V.ref))) o (.lst (eK st))) xs vs:=by
 obtain⟨n1,n2,n3,n4⟩:=Kw p.nd
 obtain⟨h',r',vs',e,h1,h2,h4,h5⟩:=p.fr
 cases e
 have k1:oU (o::hl::hs) H (upd H hl (.lst (hs.reverse.map V.ref))):=oU.upd p.hd (.tail _ (.head _))
 have ho:upd H hl (.lst (hs.reverse.map V.ref)) o=some (.lst (eK ((c,xs)::st))):=by rw[ay n1];exact p.op
 have k2:oU (o::hl::hs) _ (upd (upd H hl (.lst (hs.reverse.map V.ref))) o (.lst (eK st))):=oU.upd ho (.head _)
 have ed:((c,xs)::st).dropLast=(c,xs)::st.dropLast:=by cases st with|nil=>exact absurd rfl hst|cons=>rfl
 have sb:∀a∈o::hl::hs,a∈o::hl::h::hs\/H a=none:=fun a ha=>by
  rcases List.mem_cons.mp ha with rfl|ha
  ·exact .inl (.head _)
  rcases List.mem_cons.mp ha with rfl|ha
  ·exact .inl (.tail _ (.head _))
  ·exact .inl (.tail _ (.tail _ (.tail _ ha)))
 refine⟨⟨(p.same.lO (p.new hl (.tail _ (.head _))) _).lO (p.new o (.head _)) _,?_,?_,aa,by rw[ay (Ne.symm n1),aa],?_,?_⟩,vs',h1,?_,?_,?_⟩
 ·intro x hx
  rcases List.mem_cons.mp hx with rfl|hx
  ·exact p.new _ (.head _)
  rcases List.mem_cons.mp hx with rfl|hx
  ·exact p.new _ (.tail _ (.head _))
  ·exact p.new _ (.tail _ (.tail _ (.tail _ hx)))
 ·refine List.nodup_cons.mpr ⟨fun z=>?_,List.nodup_cons.mpr ⟨fun z=>n3 _ (.tail _ z) rfl,(List.nodup_cons.mp n4).2⟩⟩
  rcases List.mem_cons.mp z with z|z
  ·exact n1 z
  ·exact n2 _ (.tail _ z) rfl
 ·refine(h5.sub O sb).keep O (k1.trans k2) fun x hx ws e=>?_
  rw[ay (Ne.symm (n2 x (.tail _ hx))),ay (Ne.symm (n3 x (.tail _ hx)))]
  exact e
 ·intro f hf
  exact p.ok f (by rw[ed];exact .tail _ hf)
 ·rw[ay (Ne.symm (n2 h (.head _))),ay (Ne.symm (n3 h (.head _)))]
  exact h1
 ·intro z
  rcases List.mem_cons.mp z with z|z
  ·exact n2 h (.head _) z.symm
  rcases List.mem_cons.mp z with z|z
  ·exact n3 h (.head _) z.symm
  ·exact(List.nodup_cons.mp n4).1 z
 ·exact h2.imp fun _ _ z=>O.keep (O.sub z sb) (k1.trans k2)
end
section
variable {prog:Program}{w:World}{A:Around}{E:Value->Shared->Prop}{s:Shared}
end
section
variable {X:Cx}{pins:List (Addr×Obj)}{σ:St}{H:Hp}{s:Shared}
end
section
variable {prog:Program}{w:World}{A:Around}{R:Result->Shared->Prop}{s:Shared}
end
section
variable {X:Cx}{pins:List (Addr×Obj)}{σ:St}{H:Hp}{s:Shared}
end
section
variable {X:Cx}
end
section
variable {g:TG}{tt:TT}{tk tv:TE}{Q:VK}{σ0:St}{H0:Hp}
end
end L2
namespace L2
open PySem
section
variable {K:PySem.W.Frag}{H:Hp}{v:V}
theorem Rp.t1{x:T}(h:Rp K H (.t [x]) v):∃a u,v=.ref a/\bf K H a [u]/\Rp K H x u:=by
 obtain⟨a,vs,rfl,sq,r⟩:=h.aR
 obtain⟨u,q,rfl,g,r2⟩:=r.inv
 obtain rfl:=r2.nL
 exact⟨a,u,rfl,sq,g⟩
theorem Rp.t2{x y:T}(h:Rp K H (.t [x,y]) v):∃a u1 u2,v=.ref a/\bf K H a [u1,u2]/\Rp K H x u1/\Rp K H y u2:=by
 obtain⟨a,vs,rfl,sq,r⟩:=h.aR
 obtain⟨u,q,rfl,g,r2⟩:=r.inv
 obtain⟨u2,q2,rfl,g2,r3⟩:=r2.inv
 obtain rfl:=r3.nL
 exact⟨a,u,u2,rfl,sq,g,g2⟩
theorem Rp.t3{x y z:T}(h:Rp K H (.t [x,y,z]) v):∃a u1 u2 u3,v=.ref a/\bf K H a [u1,u2,u3]/\Rp K H x u1/\Rp K H y u2/\Rp K H z u3:=by
 obtain⟨a,vs,rfl,sq,r⟩:=h.aR
 obtain⟨u,q,rfl,g,r2⟩:=r.inv
 obtain⟨u2,q2,rfl,g2,r3⟩:=r2.inv
 obtain⟨u3,q3,rfl,g3,r4⟩:=r3.inv
 obtain rfl:=r4.nL
 exact⟨a,u,u2,u3,rfl,sq,g,g2,g3⟩
theorem Rp.t4{x y z x4:T}(h:Rp K H (.t [x,y,z,x4]) v):∃a u1 u2 u3 u4,v=.ref a/\bf K H a [u1,u2,u3,u4]/\Rp K H x u1/\Rp K H y u2/\Rp K H z u3/\Rp K H x4 u4:=by
 obtain⟨a,vs,rfl,sq,r⟩:=h.aR
 obtain⟨u,q,rfl,g,r2⟩:=r.inv
 obtain⟨u2,q2,rfl,g2,r3⟩:=r2.inv
 obtain⟨u3,q3,rfl,g3,r4⟩:=r3.inv
 obtain⟨u4,q4,rfl,g4,r5⟩:=r4.inv
 obtain rfl:=r5.nL
 exact⟨a,u,u2,u3,u4,rfl,sq,g,g2,g3,g4⟩
end
end L2
namespace L2
open PySem PySem.Spec PyProof.Rows
section
variable {X:Cx}
noncomputable def HS(T:Addr->Sp->Prop)(tf:TE)(t:TA):TE:=fun σ H Q=>tf σ H fun x H0=>∃f sp,x=.ref f/\T f sp/\t σ H0 fun vs H1=>sp vs H1 Q E0
theorem wz{T:Addr->Sp->Prop}{x:Str}{p pos:Pos}{e:Expr}{es:List Expr}{tf:TE}{t:TA}
  (hT:∀f sp,T f sp->∃k fd ps,bK X.prog X.w X.K X.mg X.base d8 k f fd ps sp/\ia k X.A/\PySem.W.keepIn X.K (.ref f)=true/\Binds X.K fd ps [])
  (hf:PE X (.Name x p) tf) (ha:PA X (e::es) t) (he:starEach (e::es) X.env=(false,eval e X.env)::starEach es X.env:=by rfl) (hpl:(backTo pos (starEach es X.env)).any (·.1)=false:=by rfl) :
  PE X (.Call (.Name x p) (e::es) [] pos) (HS T tf t):=by
 intro pins s σ H Q I h
 refine wpAny_Call_Name_kw (cF (hf pins s σ H _ I h) fun u s0 ⟨v,H0,I0,rx,f,sp,ev,hTf,q⟩=>?_)
 subst ev
 obtain rfl:u=Value.ref f:=rx
 obtain⟨k,fd,ps,F,hr,hk,hb⟩:=hT f sp hTf
 refine PySem.W.callWith_K (h₀:=X.base) I0.ok.mod.kin hk (cF (ha pos pins s0 σ H0 _ I0 q) fun us s1 ⟨vs,H1,I1,r,q⟩=>⟨I1.Em,?_⟩) he hpl
 exact xU (E:=E0) (dvs:=[]) F hr hb .nil qy I1 r (by simpa using q)
theorem C9:typeLookup (.type "list") (Str.ofString "__iter__")=pure (some (.builtin "list.__iter__")):=by rw[typeLookup_type,builtinLookup_eq_fast];kernel_rfl
section
variable {prog:Program}{w:World}{A:Around}{E:Value->Shared->Prop}{s:Shared}
theorem Bc{l I:Addr}{items:Array Value}{Q:List Value->Shared->Prop}(hh:A.handled=none)(hI:l≠I) :
  ∀(n i:Nat) (s:Shared),i+n<=items.size->s.heap.IsListIter I l i->s.heap.IsList l items->(∀h' tk,(∀b o,b≠I->s.heap.get? b=some o->h'.get? b=some o)->h'.IsListIter I l (i+n)->Q ((items.toList.drop i).take n) {s with heap:=h',toks:=tk}) ->
   wpAny (model prog w) A (draw (.ref I) n) Q E s:=by
 intro n
 induction n generalizing Q with
 |zero =>
  intro i s hi h1 h2 hQ
  show wpAny _ _ (pure []) _ _ _
  exact wpAny_pure (by simpa using hQ s.heap s.toks (fun _ _ _ e=>e) h1)
 |succ n ih =>
  intro i s hi h1 h2 hQ
  unfold draw
  refine wpAny_bind ((Walks.list (A:=A) hh I l hI items).item i s _ _ (by omega) ⟨h1,h2⟩ fun v h' tk hv hst hk=>?_)
  refine wpAny_bind (wpAny_holding (ih (i+1) {s with heap:=h',toks:=tk} (by omega) hst.1 hst.2 fun h2 tk2 hk2 hst2=>wpAny_pure ?_))
  have e:v::(items.toList.drop (i+1)).take n=(items.toList.drop i).take (n+1):=by
   have hv':items.toList[i]?=some v:=by simpa using hv
   have hil:i<items.toList.length:=by simp;omega
   rw[List.drop_eq_getElem_cons hil,List.take_succ_cons]
   have e2:items.toList[i]=v:=(List.getElem?_eq_some_iff.mp hv').2
   rw[e2]
  rw[e]
  exact hQ h2 tk2 (fun b o hb q=>hk2 b o hb (hk b o (by simpa using hb) q)) (by rw[show i+(n+1)=i+1+n by omega];exact hst2)
theorem wA{l:Addr}{items:Array Value}{Q:List Value->Shared->Prop}(hh:A.handled=none)(hl:s.heap.IsList l items)
  (hQ:∀h' tk,(∀b o,s.heap.get? b=some o->h'.get? b=some o)->Q items.toList {s with heap:=h',toks:=tk}):wpAny (model prog w) A (unpackItems (.ref l) items.size none) Q E s:=by
 have hlt:l<s.heap.objs.size:=by obtain⟨_,e,_⟩:=hl;exact Heap.lt_size e
 have hT:s.TypeIs (.ref l) "list":=by obtain⟨o,e,c,_⟩:=hl;exact⟨o,e,c⟩
 unfold unpackItems notIterableAtAll
 refine wpAny_bind (wpAny_bind (wpAny_specialOf hT C9 ?_))
 rw[if_pos (show(some (Value.builtin "list.__iter__")).isSome=true from rfl)]
 refine wpAny_pure ?_
 dsimp only
 rw[if_neg Bool.false_ne_true]
 refine wpAny_bind (wpAny_holding (wpAny_pyIter_list hl ?_))
 have hne:l≠s.heap.objs.size:=Nat.ne_of_lt hlt
 have h1:(s.heap.push {cls:=.type "list_iterator",data:=.fields #[.ref l,.int 0 0]}).IsListIter s.heap.objs.size l 0:=⟨_,Heap.get?_push_size _ rfl,rfl,rfl⟩
 have h2:=hl.push {cls:=.type "list_iterator",data:=.fields #[.ref l,.int 0 0]}
 refine wpAny_bind (wpAny_holding (Bc (items:=items) hh hne items.size 0 {s with heap:=s.heap.push {cls:=.type "list_iterator",data:=.fields #[.ref l,.int 0 0]}} (by omega) h1 h2 fun g tk hk hst=>?_))
 rw[List.drop_zero,List.take_of_length_le (by simp)]
 have hlg:g.IsList l items:=h2.at fun o e=>hk _ o hne e
 dsimp only
 rw[if_neg (by simp)]
 refine wpAny_bind (wpAny_holding ((Walks.list (A:=A) hh s.heap.objs.size l hne items).done {s with heap:=g,toks:=tk} _ _ ⟨by simpa using hst,hlg⟩ fun h' tk' hk'=>?_))
 rw[if_neg (by simp)]
 exact wpAny_pure (hQ h' tk' fun b o e=>hk' b o (by simp;exact Nat.ne_of_lt (Heap.lt_size e)) (hk b o (Nat.ne_of_lt (Heap.lt_size e)) (Heap.get?_push_of_some _ e)))
theorem nR{env:Env}{elts:List Expr}{x1:Nat}{pos:Pos}{l:Addr}{items:Array Value}{Q:Unit->Shared->Prop}(hh:A.handled=none)(hl:s.heap.IsList l items)(hn:(assignEach elts env).length=items.size)(hst:(assignEach elts env).findIdx? (·.1)=none)
  (hQ:∀h' tk,(∀b o,s.heap.get? b=some o->h'.get? b=some o)->wpAny (model prog w) A (assignInOrder ((assignEach elts env).map (·.2)) items.toList) Q E {s with heap:=h',toks:=tk}) :
  wpAny (model prog w) A (assign (.Tuple elts x1 pos) env (.ref l)) Q E s:=by
 rw[arm_assign_Tuple]
 refine wpAny_bind (wpAny_standAt ?_)
 unfold unpack
 rw[hn,hst]
 exact wpAny_bind (wpAny_holding (wA hh hl hQ))
end
noncomputable def Lq(K:PySem.W.Frag)(n:Nat)(t:En):TG:=fun v σ H Q=>∃a xs,v=.ref a/\bB K H a xs/\xs.length=n/\t xs σ H Q
theorem Fv{pos:Pos}{es:List Expr}{k:Nat}{t:En}{n:Nat}(K:PySem.W.Frag)(hK:X.K=K)(hc:X.calm=true)(h:Jd X es t)
  (hn:(assignEach es X.env).length=n:=by rfl) (hst:(assignEach es X.env).findIdx? (·.1)=none:=by rfl):PG X (.Tuple es k pos) (Lq K n t):=by
 subst hK
 intro pins s σ H v u Q I r hw
 obtain⟨a,xs,e1,hq,hl,hw⟩:=hw
 subst e1
 cases r
 obtain⟨its,rv,ht,hz⟩:=I.list hq
 refine nR (I.ok.hd hc) ht.isList (by simp[hn,←hl,rv.length]) hst fun h' tk hx=>?_
 have I1:Inv X pins σ H {s with heap:=h',toks:=tk}:=I.kept (t':=tk) hx
 exact h pins _ σ H xs _ Q I1 (by simpa using rv) hw
theorem zO{l tg:Expr}{tl:TE}(K:PySem.W.Frag)(hK:X.K=K)(hl:PE X l tl):PI X tg l (Ju K tl):=by subst hK;exact fK hl
end
end L2
namespace G09
open PySem L2
theorem rT{X0:zh}{P:Program}{w:World}{K:PySem.W.Frag}{mg:Str->Option Value}{base:Heap}{N:List Str}{nm:Str}{sc:Scope}{f:Addr}{cdv:Value}{A:Around}{outer:List PySem.Env}{s:Shared}{H:Hp}{E:XK}:(rP X0 P w K mg base N nm sc f cdv A outer s H E).w=w:=rfl
theorem pY{α:Type}{l:List α}{x:α}{n:Nat}(hl:l.length=n+1)(h:l[n]?=some x):cK l (-1)=some x:=by
 unfold cK EH
 rw[if_neg (by decide),if_pos (by omega)]
 show l[((-1:Int)+(l.length:Int)).toNat]?=some x
 rw[show((-1:Int)+(l.length:Int)).toNat=n by omega]
 exact h
noncomputable abbrev Dc:List (Str×V):=[("(",.str ")"),("[",.str "]")]
noncomputable def jM(R:BO)(Gd:Bw->Prop):Sp:=fun vs H Q _=>∃(c:Nat) (ws:List Bw) (p:Addr) (us:List V) (M:List Addr),vs=[.str ⟨#[c]⟩,.ref p]/\Gd (.g c ws)/\H p=some (.lst us)/\p∉M/\uD R M H ws us /\
 ∀(v:V) (H':Hp),aL H H'->R M H' (.g c ws) v->Q v H'
noncomputable def uE(R:BO)(Gd:Bw->Prop)(gK:Addr):Sp:=fun vs H Q _=>∃bs:List Bw,vs=[.str (au (Bw.bC bs)),.ref gK]/\Bw.jF bs/\bs≠[]/\(∀b∈bs,Gd b)/\(Bw.bC bs).length<=3000/\∀(p:Addr) (us:List V) (H':Hp),aL H H'->H' p=some (.lst us)->uD R [] H' bs us->Q (.ref p) H'
noncomputable def zP(R:BO)(Gd:Bw->Prop)(gK:Addr):Sp:=fun vs H Q _=>∃b:Bw,vs=[.str (au b.txt),.ref gK]/\b.ok/\Gd b/\b.txt.length<=3000/\∀(v:V) (H':Hp),aL H H'->R [] H' b v->Q v H'
theorem pZ{w:List Nat}{k:Nat}(h:w≠[k]):au w≠⟨#[k]⟩:=fun e=>h (by rw[←aA w,e])
theorem wB{w:List Nat}(h:¬(w=[40]\/w=[91])):Dc.lookup (au w)=none:=by
 have h1:(au w == ("(":Str))=false:=beq_eq_false_iff_ne.mpr (pZ fun e=>h (.inl e))
 have h2:(au w == ("[":Str))=false:=beq_eq_false_iff_ne.mpr (pZ fun e=>h (.inr e))
 rw[List.lookup_cons,h1,List.lookup_cons,h2]
 rfl
theorem Dd{w:List Nat}(h:¬(w=[41]\/w=[93])):nh (.str (au w)) [.str ")",.str "]"]=false:=by
 have h1:((")":Str) == au w)=false:=beq_eq_false_iff_ne.mpr (Ne.symm (pZ fun e=>h (.inl e)))
 have h2:(("]":Str) == au w)=false:=beq_eq_false_iff_ne.mpr (Ne.symm (pZ fun e=>h (.inr e)))
 show((")":Str) == au w||((("]":Str) == au w)||false))=false
 rw[h1,h2]
 rfl
structure LJ(R:BO) (bs:List Bw) (B:Hp) (o hl:Addr) (i:Nat) (H:Hp):Prop where
 x:∃hs st,mQ st ((Bw.bY bs).drop i)=some [(0,bs)]/\zN R B o hl hs st H/\st.length<=i+1/\∀f∈st,f.2.length<=i
section
variable {P:Program}{w:World}{K:PySem.W.Frag}{mg:Str->Option Value}{base:Heap}{gW gS gK gC:Addr}{wfd sfd kfd cfd:FuncData}{Gd:Bw->Prop}{R:BO}
theorem bJ:Nm ["text","close","openers","held","word","inner"] (ae jq):=by decide +kernel
theorem jN:Lm ["text","close","openers","held","word","inner"] (ae jq):=by decide +kernel
theorem iO:aH ["text","close","openers","held","word","inner"] ["text","close"] (ae jq):=⟨rfl,rfl,rfl,by decide +kernel,rfl,by decide +kernel,by decide +kernel⟩
theorem zQ{cn:Str}{f aC:Addr}{fd:FuncData}{jc:Nat}(hjc:2<=jc)(hG:∀o ws,Gd (.g o ws)->∀x∈ws,Gd x)(O:uC R)(F:eN K "scanned" "scanned" jq f fd)(WE:bE P w K mg base "well_parted" 2 ["text"] C1 gW wfd)(SP:bE P w K mg base "split_words" 1 ["text"] zK gS sfd)(KL:bE P w K mg base cn jc ["opener","items"] (jM R Gd) gK kfd)
  (mC:mg "CLOSE_OF"=some (.ref aC)) (dC:KD K w aC [("(",.str ")"),("[",.str "]")]):bK P w K mg base d8 (jc+1) f fd ["text","close"] (uE R Gd gK):=by
 refine F.ok iO (fun vs H Q E h=>?_) (fun cdv A outer s H vs Q E hr h=>?_)
 ·obtain⟨_,rfl,_⟩:=h
  rfl
 obtain⟨bb,rfl,hb,hne0,hg,hlen,k⟩:=h
 refine⟨_,(Z4 (Z8 (@d9 _ _ _ _ (Zo (Z0 WE (Z9 (va bJ 0))))) (aV b8)) (Z4 (sa iO.nd jN 2 (bq aj)) (Z4 (Z5 iO.nd jN 3 (@bq _ _ _ _ (Z9 (bq aj)))) (Z4 (Zl (@fJ _ _ _ _ (Z0 SP (Z9 (va bJ 0)))) (ga iO.nd jN 4) (Zc (@iG _ _ _ _ _ _ _ _ (fN zB (va bJ 4) (d7 (v:=.ref aC) (by show _=_;kernel_rfl) mC rfl) (by with_unfolding_all rfl)) (Z4 (@cG _ _ _ _ (@cz _ _ _ _ _ _ _ _ _ _ _ _ PySem.F.plainAttrs_list PySem.F.slot_list_append PySem.F.type_list_append bX (va bJ 2) (Z9 (va bJ 4)) (by rfl) (by rfl) (by rfl) (by rfl) (by rfl)) (by rfl)) (Zc (@cG _ _ _ _ (@cz _ _ _ _ _ _ _ _ _ _ _ _ PySem.F.plainAttrs_list PySem.F.slot_list_append PySem.F.type_list_append bX (va bJ 3) (Z9 (bq aj)) (by rfl) (by rfl) (by rfl) (by rfl) (by rfl)) (by rfl)))) (Zc (@iG _ _ _ _ _ _ _ _ (@fN _ _ _ _ _ _ _ _ iB (va bJ 4) (Zj (dP ak (Z9 ak))) (by with_unfolding_all rfl)) (Z4 (Z8 (PW.pt (@iF _ _ _ _ _ _ _ (@d9 _ _ _ _ (eT (va bJ 2) (fun _=>rfl))) (@f9 _ _ _ _ (Zr ji (@pW _ _ _ _ _ _ (d7 (v:=.ref aC) (by show _=_;kernel_rfl) mC rfl) (iU aN (va bJ 2) (pg kj ao) (fun _ _=>rfl)) (fun _ _=>rfl)) (va bJ 4))))) (aV b8)) (Z4 (Z5 iO.nd jN 5 (xZ PySem.F.plainAttrs_list PySem.F.slot_list_pop PySem.F.type_list_pop ya (va bJ 3))) (Zc (@cG _ _ _ _ (@cz _ _ _ _ _ _ _ _ _ _ _ _ PySem.F.plainAttrs_list PySem.F.slot_list_append PySem.F.type_list_append bX (iU aN (va bJ 3) (pg kj ao) (fun _ _=>rfl)) (Z1 (@wz _ (fun f sp=>f=gK/\sp=jM R Gd) _ _ _ _ _ _ _ (fun f sp h=>by obtain⟨rfl,rfl⟩:=h;exact⟨jc,_,_,KL.ok,hr.mono (by omega),KL.kp,KL.bd⟩) (va bJ 1) (Z1 (xZ PySem.F.plainAttrs_list PySem.F.slot_list_pop PySem.F.type_list_pop ya (va bJ 2)) (Z9 (va bJ 5))) (by rfl) (by rfl)) aj) (by rfl) (by rfl) (by rfl) (by rfl) (by rfl)) (by rfl))))) (Zc (@cG _ _ _ _ (@cz _ _ _ _ _ _ _ _ _ _ _ _ PySem.F.plainAttrs_list PySem.F.slot_list_append PySem.F.type_list_append bX (iU aN (va bJ 3) (pg kj ao) (fun _ _=>rfl)) (Z9 (va bJ 4)) (by rfl) (by rfl) (by rfl) (by rfl) (by rfl)) (by rfl)))))))) (Z4 (Z8 (eT (va bJ 2) (fun _=>rfl)) (aV b8)) (Zc (Zf (Zb aN (va bJ 3))))))))),?_⟩
 try dsimp only[aU]
 try dsimp only[aU,rT]
 refine nP ?_
 intro N1 N2 N3 N4 N5 c1 c2 c3 c4 c5
 have hW:LH (32::(Bw.bC bb++[32]))=true:=C8 hb hne0
 fail "R"
 intro H1 s1
 rw[hW]
 fail "R"
 intro o ho
 have s2:=ah ho (.lst [])
 have h2o:upd H1 o (.lst []) o=some (.lst []):=aa
 generalize upd H1 o (.lst [])=H2 at s2 h2o⊢
 fail "R"
 intro h0 hh0
 have s3:=ah hh0 (.lst [])
 have h3h:upd H2 h0 (.lst []) h0=some (.lst []):=aa
 have h3o:=s3 _ _ h2o
 generalize upd H2 h0 (.lst [])=H3 at s3 h3h h3o⊢
 fail "R"
 intro hl hhl
 have s4:=ah hhl (.lst [.ref h0])
 have h4l:upd H3 hl (.lst [.ref h0]) hl=some (.lst [.ref h0]):=aa
 have h4h:=s4 _ _ h3h
 have h4o:=s4 _ _ h3o
 generalize upd H3 hl (.lst [.ref h0])=H4 at s4 h4l h4h h4o⊢
 fail "R"
 intro p H5 s5 hp h5
 rw[Ft hb]at h5
 have hp1:H1 p=none:=((s2.trans s3).trans s4).free hp
 have sB:aL H1 (upd H1 p (.lst (wV (Bw.bY bb)))):=ah hp1 _
 have hBp:upd H1 p (.lst (wV (Bw.bY bb))) p=some (.lst (wV (Bw.bY bb))):=aa
 have hB5:aL (upd H1 p (.lst (wV (Bw.bY bb)))) H5:=fun b u e=>by
  by_cases hb:b=p
  ·subst hb
   rw[aa]at e
   cases e
   exact h5
  ·rw[ay hb]at e
   exact s5 _ _ (s4 _ _ (s3 _ _ (s2 _ _ e)))
 have hBn:∀x u,H4 x=some u->H1 x=none->upd H1 p (.lst (wV (Bw.bY bb))) x=none:=fun x u e1 e2=>by
  have hx:x≠p:=fun z=>by rw[z,hp]at e1;cases e1
  rw[ay hx]
  exact e2
 generalize upd H1 p (.lst (wV (Bw.bY bb)))=B at sB hBp hB5 hBn
 have p1:zN R B o hl [h0] [(0,[])] H5:={
  same:=hB5
  new:=fun x hx=>by
   rcases List.mem_cons.mp hx with rfl|hx
   ·exact hBn _ _ h4o ho
   rcases List.mem_cons.mp hx with rfl|hx
   ·exact hBn _ _ h4l ((s2.trans s3).free hhl)
   ·rw[List.mem_singleton.mp hx];exact hBn _ _ h4h (s2.free hh0)
  nd:=by
   have n1:o≠hl:=fun e=>by rw[←e,h3o]at hhl;cases hhl
   have n2:o≠h0:=fun e=>by rw[←e,h2o]at hh0;cases hh0
   have n3:hl≠h0:=fun e=>by rw[e,h3h]at hhl;cases hhl
   simp[n1,n2,n3]
  op:=s5 _ _ h4o
  hd:=s5 _ _ h4l
  fr:=⟨h0,[],[],rfl,s5 _ _ h4h,rfl,Nat.zero_le _,rfl⟩
  ok:=fun f hf=>nomatch hf}
 have i0:LJ R bb B o hl 0 H5:=⟨[h0],[(0,[])],by rw[List.drop_zero,zM bb hb];rfl,p1,Nat.le_refl _,fun f hf=>by rw[List.mem_singleton.mp hf];exact Nat.le_refl _⟩
 have htl:(Bw.bY bb).length<=60000:=Nat.le_trans (Bb hb) (by omega)
 fail "R"
 refine vC (K:=K) (xs:=wV (Bw.bY bb)) (fun i σ H6=>(∃y z,σ=[some (.str (au (Bw.bC bb))),some (.ref gK),some (.ref o),some (.ref hl),y,z])/\LJ R bb B o hl i H6) ⟨⟨_,_,rfl⟩,i0⟩ ?_ ?_ ?_
 ·rintro i σ H6 hi ⟨_,⟨_,_,_,p6,_⟩⟩
  exact bB.of (p6.same _ _ hBp)
 ·rintro i x σ H6 hx ⟨⟨_,_,rfl⟩,⟨hs,st,hrun,p6,hlst,hne⟩⟩
  unfold wV at hx
  rw[List.getElem?_map]at hx
  obtain⟨w6,hw6,rfl⟩:=Option.map_eq_some_iff.mp hx
  have hil:=(List.getElem?_eq_some_iff.mp hw6).1
  have hdr:(Bw.bY bb).drop i=w6::(Bw.bY bb).drop (i+1):=by rw[List.drop_eq_getElem_cons hil,(List.getElem?_eq_some_iff.mp hw6).2]
  rw[hdr]at hrun
  have hrun2:(stp st w6).bind (fun st'=>mQ st' ((Bw.bY bb).drop (i+1)))=some [(0,bb)]:=hrun
  cases est:stp st w6 with
  |none=>rw[est]at hrun2;cases hrun2
  |some st' =>
  rw[est,Option.bind_some]at hrun2
  have hgd:=sU hG hrun2 (fun f hf x hx=>by rw[List.mem_singleton.mp hf]at hx;exact hg x hx)
  obtain⟨o6,xs6,s6',rfl,hcase⟩:=zL est
  obtain⟨h6,hs6,vs6,rfl,f1,f2,f4,f5⟩:=p6.fr
  obtain⟨n1,n2,n3,n4⟩:=Kw p6.nd
  have lhs:=f5.len
  rcases hcase with⟨hw,rfl⟩|⟨hw,hw2,o7,ys7,s7',rfl,rfl,rfl⟩|⟨hw,hw2,rfl⟩
  ·obtain⟨c,hc,rfl⟩:∃c,(c=40\/c=91)/\w6=[c]:=by
    rcases hw with rfl|rfl
    ·exact⟨40,.inl rfl,rfl⟩
    ·exact⟨91,.inr rfl,rfl⟩
   have hlk:(Dc.lookup (au [c])).isSome=true:=by rcases hc with rfl|rfl<;>decide +kernel
   have h6o:=p6.op
   have h6h:=p6.hd
   have lo:(eK ((o6,xs6)::s6')).length<sizeLine:=by
    have:(eK ((o6,xs6)::s6')).length<=60001:=by unfold eK;rw[List.length_reverse,List.length_map,List.length_dropLast];omega
    rw[sizeLine_eq]
    omega
   have lh:((h6::hs6).reverse.map V.ref).length<sizeLine:=by
    rw[List.length_map,List.length_reverse,List.length_cons,lhs,sizeLine_eq]
    have:=hlst
    rw[List.length_cons]at this
    omega
   have h7h:upd H6 o (.lst (eK ((o6,xs6)::s6')++[.str (au [c])])) hl=some (.lst ((h6::hs6).reverse.map V.ref)):=by rw[ay (Ne.symm n1)];exact h6h
   fail "R"
   refine dG (fun _=>?_) (fun z=>absurd hlk z)
   fail "R"
   intro q hq
   have qo:q≠o:=fun e=>by rw[e,aa]at hq;cases hq
   have hq6:H6 q=none:=by rw[ay qo]at hq;exact hq
   have h8h:=ah hq (.lst []) _ _ h7h
   fail "R"
   exact⟨q::h6::hs6,_,hrun2,p6.L7 O (by simp) hc hq6,by rw[List.length_cons];omega,fun f hf=>(List.mem_cons.mp hf).elim (fun e=>by rw[e];exact Nat.zero_le _) fun h=>Nat.le_succ_of_le (hne f h)⟩
  ·have hc:=p6.ok (o6,xs6) (.head _)
   have hc:o6=40\/o6=91:=hc
   have hlk:¬(Dc.lookup (au [kE o6])).isSome=true:=by rw[wB hw];simp
   have hin:nh (.str (au [kE o6])) [.str ")",.str "]"]=true:=by rcases hc with rfl|rfl<;>decide +kernel
   have hlk2:Dc.lookup (⟨#[o6]⟩:Str)=some (.str (au [kE o6])):=by rcases hc with rfl|rfl<;>decide +kernel
   fail "R"
   refine dG (fun z=>absurd z hlk) (fun _=>?_)
   fail "R"
   intro t ht
   have s7:=ah ht (.tup [.str ")",.str "]"])
   have h7:upd H6 t (.tup [.str ")",.str "]"]) t=some (.tup [.str ")",.str "]"]):=aa
   have p7:=p6.up O s7
   generalize upd H6 t (.tup [.str ")",.str "]"])=H7 at s7 h7 p7⊢
   fail "R"
   refine dG (fun _=>?_) (fun z=>absurd hin z)
   have h7o:=p7.op
   have h7h:=p7.hd
   have eO:eK ((o6,xs6)::(o7,ys7)::s7')=eK ((o7,ys7)::s7')++[.str ⟨#[o6]⟩]:=by
    unfold eK
    rw[List.dropLast_cons_of_ne_nil (by simp),List.map_cons,List.reverse_cons]
   have eH:(h6::hs6).reverse.map V.ref=hs6.reverse.map V.ref++[.ref h6]:=by rw[List.reverse_cons,List.map_append];rfl
   rw[eO]at h7o
   rw[eH]at h7h
   obtain⟨h8,hs8,vs8,rfl,g1,g2,g4,g5⟩:=f5
   have eH8:(h8::hs8).reverse.map V.ref=hs8.reverse.map V.ref++[.ref h8]:=by rw[List.reverse_cons,List.map_append];rfl
   have hla:cK (eK ((o7,ys7)::s7')++[V.str ⟨#[o6]⟩]) (-1)=some (V.str ⟨#[o6]⟩):=pY (n:=(eK ((o7,ys7)::s7')).length) (by simp) (by simp)
   have hnem:(eK ((o7,ys7)::s7')++[V.str ⟨#[o6]⟩]).isEmpty=false:=by simp
   have eD:(hs8.reverse.map V.ref++[V.ref h8])=(h8::hs8).reverse.map V.ref:=eH8.symm
   have eDl:((h8::hs8).reverse.map V.ref++[V.ref h6]).dropLast=hs8.reverse.map V.ref++[V.ref h8]:=by rw[List.dropLast_concat,eH8]
   have eOl:(eK ((o7,ys7)::s7')++[V.str ⟨#[o6]⟩]).dropLast=eK ((o7,ys7)::s7'):=List.dropLast_concat
   have q1:((h8::hs8).reverse.map V.ref++[V.ref h6])[((h8::hs8).reverse.map V.ref++[V.ref h6]).length-1]?=some (.ref h6):=by simp
   have q2:(eK ((o7,ys7)::s7')++[V.str ⟨#[o6]⟩])[(eK ((o7,ys7)::s7')++[V.str ⟨#[o6]⟩]).length-1]?=some (.str ⟨#[o6]⟩):=by simp
   have q3:cK ((h8::hs8).reverse.map V.ref++[V.ref h6]).dropLast (-1)=some (.ref h8):=by rw[eDl];exact pY (n:=(hs8.reverse.map V.ref).length) (by simp) (by simp)
   have m6:h6∈h6::h8::hs8:=.head _
   have m8:h8∈h6::h8::hs8:=.tail _ (.head _)
   have q4:upd H7 hl (.lst ((h8::hs8).reverse.map V.ref++[V.ref h6]).dropLast) o=some (.lst (eK ((o7,ys7)::s7')++[V.str ⟨#[o6]⟩])):=by rw[ay n1];exact h7o
   have q5:upd H7 hl (.lst ((h8::hs8).reverse.map V.ref++[V.ref h6]).dropLast) h8=some (.lst vs8):=by rw[ay (Ne.symm (n3 _ m8))];exact s7 _ _ g1
   obtain⟨pp,vs9,k9,k9',k10,r6⟩:=p7.pop O (by simp)
   obtain rfl:vs6=vs9:=by have z:=s7 _ _ f1;rw[k9]at z;cases z;rfl
   have u6:upd (upd H7 hl (.lst ((h8::hs8).reverse.map V.ref))) o (.lst (eK ((o7,ys7)::s7'))) h6=some (.lst vs6):=by rw[ay (Ne.symm (n2 _ m6)),ay (Ne.symm (n3 _ m6))];exact s7 _ _ f1
   have u8:upd (upd H7 hl (.lst ((h8::hs8).reverse.map V.ref))) o (.lst (eK ((o7,ys7)::s7'))) h8=some (.lst vs8):=by rw[ay (Ne.symm (n2 _ m8)),ay (Ne.symm (n3 _ m8))];exact s7 _ _ g1
   have gg:Gd (.g o6 xs6):=hgd _ (.head _) _ (List.mem_append_right _ (.head _))
   have eDl':((h8::hs8).reverse.map V.ref++[V.ref h6]).dropLast=(h8::hs8).reverse.map V.ref:=by rw[eDl,eH8]
   fail "R"
   refine rR (by simp) ?_
   fail "R"
   refine rR (by simp) ?_
   fail "R"
   ·rw[eDl',eOl]
    exact u6
   refine⟨k10,by rw[eDl',eOl];exact r6,fun v H8 s8 rt=>?_⟩
   rw[eDl',eOl]at s8
   have hv8:=s8 _ _ u8
   have l8:vs8.length<=i:=by rw[g2.len];exact hne (o7,ys7) (.tail _ (.head _))
   have l8s:vs8.length<sizeLine:=by rw[sizeLine_eq];omega
   have p8:=pp.up O s8
   fail "R"
   refine⟨h8::hs8,_,hrun2,p8.app O hv8 rt (by omega),?_,fun f hf=>?_⟩
   ·have:=hlst
    simp only[List.length_cons]at this⊢
    omega
   ·rcases List.mem_cons.mp hf with rfl|hf
    ·have:=hne (o7,ys7) (.tail _ (.head _))
     show(ys7++[Bw.g o6 xs6]).length<=i+1
     rw[List.length_append]
     exact Nat.succ_le_succ this
    ·exact Nat.le_succ_of_le (hne f (.tail _ (.tail _ hf)))
  ·have hlk:¬(Dc.lookup (au w6)).isSome=true:=by rw[wB hw];simp
   have hin:=Dd hw2
   have h6h:=p6.hd
   have eH:(h6::hs6).reverse.map V.ref=hs6.reverse.map V.ref++[.ref h6]:=by rw[List.reverse_cons,List.map_append];rfl
   have hla:cK ((h6::hs6).reverse.map V.ref) (-1)=some (.ref h6):=by rw[eH];exact pY (n:=(hs6.reverse.map V.ref).length) (by simp) (by simp)
   have l6:vs6.length<=i:=by rw[f2.len];exact hne (o6,xs6) (.head _)
   have l6s:vs6.length<sizeLine:=by rw[sizeLine_eq];omega
   fail "R"
   refine dG (fun z=>absurd z hlk) (fun _=>?_)
   fail "R"
   intro t ht
   have s7:=ah ht (.tup [.str ")",.str "]"])
   have h7:upd H6 t (.tup [.str ")",.str "]"]) t=some (.tup [.str ")",.str "]"]):=aa
   have p7:=p6.up O s7
   have h7h:=s7 _ _ h6h
   have h7c:=s7 _ _ f1
   generalize upd H6 t (.tup [.str ")",.str "]"])=H7 at s7 h7 p7 h7h h7c⊢
   fail "R"
   refine dG (fun z=>absurd (show nh (.str (au w6)) [.str ")",.str "]"]=true from z) (by rw[hin];simp)) (fun _=>?_)
   fail "R"
   refine⟨h6::hs6,_,hrun2,p7.app O h7c (O.word _ _ w6) (by omega),?_,fun f hf=>?_⟩
   ·have:=hlst
    simp only[List.length_cons]at this⊢
    omega
   ·rcases List.mem_cons.mp hf with rfl|hf
    ·have:=hne (o6,xs6) (.head _)
     show(xs6++[Bw.a w6]).length<=i+1
     rw[List.length_append]
     exact Nat.succ_le_succ this
    ·exact Nat.le_succ_of_le (hne f (.tail _ hf))
 ·rintro σ H6 ⟨⟨_,_,rfl⟩,⟨hs,st,hrun,p6,hlst,hne⟩⟩
  rw[show(wV (Bw.bY bb)).length=(Bw.bY bb).length by unfold wV;rw[List.length_map],List.drop_length]at hrun
  have est:st=[(0,bb)]:=Option.some.inj hrun
  subst est
  obtain⟨h6,hs6,vs6,rfl,f1,f2,f4,f5⟩:=p6.fr
  obtain rfl:hs6=[]:=f5
  have h6o:H6 o=some (.lst []):=p6.op
  have h6h:H6 hl=some (.lst [.ref h6]):=p6.hd
  fail "R"
  exact k _ _ _ ((s1.trans sB).trans p6.same) f1 (f2.imp (M':=[]) fun _ _ z=>O.sub z fun _ h=>absurd h List.not_mem_nil)
theorem fW:Nm ["text","close","found"] (ae eW):=by decide +kernel
theorem qT:Lm ["text","close","found"] (ae eW):=by decide +kernel
theorem kO:aH ["text","close","found"] ["text","close"] (ae eW):=⟨rfl,rfl,rfl,by decide +kernel,rfl,by decide +kernel,by decide +kernel⟩
theorem De{f:Addr}{fd:FuncData}{jc:Nat}(F:eN K "scanned_one" "scanned_one" eW f fd)(SC:bE P w K mg base "scanned" jc ["text","close"] (uE R Gd gK) gC cfd)(z_len:mg "len"=none):bK P w K mg base d8 (jc+1) f fd ["text","close"] (zP R Gd gK):=by
 refine F.ok kO (fun vs H Q E h=>?_) (fun cdv A outer s H vs Q E hr h=>?_)
 ·obtain⟨_,rfl,_⟩:=h
  rfl
 obtain⟨b,rfl,hb,hg,hlen,k⟩:=h
 refine⟨_,(Z4 (Z5 kO.nd qT 2 (Z0 SC (Z1 (va fW 0) (Z9 (va fW 1))))) (Z4 (Z8 (Zr ji (Z3 aY z_len PySem.boot_len (Z9 (va fW 2))) ao) (aV b8)) (Zc (Zf (Zb aN (va fW 2)))))),?_⟩
 try dsimp only[aU]
 try dsimp only[aU,rT]
 have e1:Bw.bC [b]=b.txt:=by unfold Bw.bC Bw.bP;rw[List.append_nil]
 rw[←e1]at hlen
 have ob:Bw.jF [b]:=by unfold Bw.jF Bw.jF;exact⟨hb,True.intro⟩
 have gb:∀x∈[b],Gd x:=fun x hx=>by rw[List.mem_singleton.mp hx];exact hg
 rw[←e1]
 fail "R"
 ·simp
 refine⟨gb,hlen,fun p us H1 s1 h1 r1=>?_⟩
 obtain⟨v,q,rfl,r2,e⟩:=r1
 have e:q=[]:=e
 subst e
 fail "R"
 exact k _ _ s1 r2
end
end G09
namespace L2
open PySem PySem.Spec PyProof.Rows
theorem jO(l:List Nat)(k:Nat):Txt.startswith (au l) ⟨#[k]⟩=decide (l[0]?=some k):=by
 have h:=StrLaws.subAt_one (au l) k 0
 rw[aA]at h
 unfold Txt.startswith
 by_cases e:l[0]?=some k
 ·have:=h.mpr e
  rw[decide_eq_true e,decide_eq_true this.1,this.2]
  rfl
 ·rw[decide_eq_false e]
  cases h1:decide (0+(⟨#[k]⟩:Str).length<=(au l).length)with
  |false=>rfl
  |true =>
   cases h2:Builtin.Str.subAt (au l) ⟨#[k]⟩ 0 with
   |false=>rfl
   |true=>exact absurd (h.mp ⟨of_decide_eq_true h1,h2⟩) e
theorem yv{a:Nat}{l:List Nat}:Txt.slice (au (a::l)) (some 1) none=au l:=by
 show StrLaws.sliceText (au (a::l)) (some 1) none=_
 rw[StrLaws.sliceText_from ⟨by decide,by rw[aA];show(1:Int)<=((l.length+1:Nat):Int);omega⟩,aA]
 show au (((a::l).drop 1).take _)=au l
 rw[List.drop_one,List.tail_cons,List.take_of_length_le]
 show l.length<=(((l.length+1:Nat):Int) - 1).toNat
 omega
theorem qU{l:List Nat}(h:l≠[]):Txt.slice (au l) none (some (-1))=au l.dropLast:=by
 have hl:1<=l.length:=by cases l with|nil=>exact absurd rfl h|cons=>exact Nat.le_add_left 1 _
 show StrLaws.sliceText (au l) none (some (-1))=_
 rw[StrLaws.sliceText_to_neg (by decide) (by rw[aI];omega),aA,aI]
 show au ((l.drop 0).take ((-1:Int)+(l.length:Int) - 0).toNat)=_
 rw[List.drop_zero,List.dropLast_eq_take,show((-1:Int)+(l.length:Int) - 0).toNat=l.length-1 by omega]
section
variable {X:Cx}
theorem lB(K:PySem.W.Frag)(hK:X.K=K):gZ X (.builtin "isinstance") (fun xs H Q=>∃x,xs=[x,.ty "str"]/\((∃p ys,x=.ref p/\bB K H p ys/\Q (.bl false) H)\/∃z,x=.str z/\Q (.bl true) H)):=by
 subst hK
 intro pins s σ H xs us Q I r h
 obtain⟨x,rfl,h⟩:=h
 obtain⟨u,w',rfl,r1,r2⟩:=vals2 r
 obtain rfl:w'=Value.type "str":=r2
 rcases h with⟨p,ys,rfl,hq,q⟩|⟨z,rfl,q⟩
 ·obtain rfl:u=Value.ref p:=r1
  obtain⟨its,rv,pl,hz⟩:=I.list hq
  obtain⟨o,ho,hc,hd⟩:=pl.isList
  exact IsiPair.list_str ho hc ⟨.bl false,H,I.tok _,rfl,q⟩
 ·obtain⟨t,rfl⟩:=r1
  exact IsiPair.str_str ⟨.bl true,H,I.tok _,rfl,q⟩
end
theorem sV:∀(ls:List (Array Nat)) (a:Array Nat),(ls.foldl (·++·) a).toList=a.toList++(ls.map Array.toList).flatten
 | [],a=>by simp
 |x::r,a=>by
  rw[List.foldl_cons,sV r (a++x),Array.toList_append,List.map_cons,List.flatten_cons,List.append_assoc]
theorem zR{l:List Nat}(hl:l≠[])(d:Nat):Txt.mul (au l) (d:Int)=au (List.replicate d l).flatten:=by
 unfold Txt.mul
 cases d with
 |zero=>rfl
 |succ d =>
  rw[if_neg (by omega)]
  cases d with
  |zero =>
   rw[if_pos (by rfl)]
   show au l=au (l++[])
   rw[List.append_nil]
  |succ d =>
   have h1:((((d+1+1:Nat):Int) == 1)||(au l).length == 0)=false:=by
    rw[aI,Bool.or_eq_false_iff]
    refine⟨beq_eq_false_iff_ne.mpr (by omega),beq_eq_false_iff_ne.mpr fun e=>hl (List.eq_nil_of_length_eq_zero e)⟩
   rw[if_neg (by rw[h1];exact Bool.false_ne_true)]
   refine uh ?_
   show((List.replicate ((d+1+1:Nat):Int).toNat (au l).cps).foldl (·++·) #[]).toList=_
   rw[sV,List.map_replicate,aA]
   rfl
theorem Dg{X:Cx}{pos:Pos}{k1 k2 k3 v1 v2 v3:Expr}{t1 t2 t3 s1 s2 s3:TE}(a1:PE X k1 t1)(b1:PE X v1 s1)(a2:PE X k2 t2)(b2:PE X v2 s2)(a3:PE X k3 t3)(b3:PE X v3 s3) :
  PE X (.Dict [some k1,some k2,some k3] [v1,v2,v3] pos) (Cs [(t1,s1),(t2,s2),(t3,s3)]) :=
 zw (kD a1 b1 (kD a2 b2 (kD a3 b3 zu))) rfl rfl (List.cons_ne_nil _ _) (by show 3<=15;decide)
end L2
namespace G09
open PySem L2
noncomputable def wC:Sp:=fun vs H Q _=>∃x:Str,vs=[.str x]/\bx x/\∀H',aL H H'->Q (.bl true) H'
noncomputable def uF:Sp:=fun vs H Q _=>∃(x:Str) (m:Int),vs=[.str x,.int m]/\x.length<=3000/\∀H',aL H H'->Q (.bl (pQ x.cps.toList m)) H'
noncomputable def fc:Sp:=fun vs H Q _=>∃x:Str,vs=[.str x]/\bx x/\∀H',aL H H'->Q (.str x) H'
noncomputable def yw:Sp:=fun vs H Q _=>∃(n:Int) (a:Nat),vs=[.str (au (a::bS n))]/\(0<=n/\n<100)/\∀H',aL H H'->Q (.int n) H'
section
variable {P:Program}{w:World}{K:PySem.W.Frag}{mg:Str->Option Value}{base:Heap}{aK gI gF gN gB gC gK gS gR gO:Addr}{tkL tkF:Tok}{ifd ffd nfd bfd cfd kfd sfd rfd ofd:FuncData}
theorem mU:Nm ["text"] (ae ju):=by decide +kernel
theorem yx:aH ["text"] ["text"] (ae ju):=⟨rfl,rfl,rfl,by decide +kernel,rfl,by decide +kernel,by decide +kernel⟩
theorem Bd{f:Addr}{fd:FuncData}(F:eN K "is_name" "is_name" ju f fd)(z_len:mg "len"=none)(z_all:mg "all"=none)(mK:mg "KEPT"=some (.ref aK))(hK:∀H,bf K H aK pB)(mL:mg "SMALL_LETTERS"=some (.str vS tkL)):bK P w K mg base d8 1 f fd ["text"] wC:=by
 refine F.ok yx (fun vs H Q E h=>?_) (fun cdv A outer s H vs Q E hr h=>?_)
 ·obtain⟨_,rfl,_⟩:=h
  rfl
 obtain⟨x,rfl,⟨x1,x2,x3,x4⟩,k⟩:=h
 refine⟨_,(Zc (Zf (@qq _ _ _ _ _ _ _ (@Ca _ _ _ _ _ _ _ _ _ _ _ _ zg zg ao (Z3 jH z_len PySem.boot_len (Z9 (va mU 0))) ao (by with_unfolding_all rfl)) (@qq _ _ _ _ _ _ _ (fM tY (va mU 0) (d7 (v:=.ref aK) (by show _=_;kernel_rfl) mK rfl) (by with_unfolding_all rfl)) (@tQ _ _ _ _ _ (Z3 (nK rfl) z_all PyProof.Rows.boot_all (Z1 (Za (ae ju) ["text"] ["sign"] (ye (va mU 0)) (fun _ _ _ _=>(Z2 (i:=0) (show(["sign"]:List Str).Nodup by decide +kernel))) (fun _ _ _ _=>(fM iL (va (show Nm ["sign"] _ by show _=_;kernel_rfl) 0) (d7 (v:=.str vS) (by show _=_;kernel_rfl) mL ⟨_,rfl⟩) (by with_unfolding_all rfl)))) aj))))))),?_⟩
 try dsimp only[aU]
 try dsimp only[aU]
 have hz:x.length<=sizeLine:=small (by omega)
 have b1:decide ((1:Int)<=(x.length:Int))=true:=decide_eq_true (by omega)
 have b2:decide ((x.length:Int)<=6)=true:=decide_eq_true (by omega)
 have b3:=CH x4
 have b4:=hK H
 have b5:=sQ
 fail "R"
 refine EW b1 ?_
 fail "R"
 refine EW b2 ?_
 fail "R"
 refine EW (by rw[b3];rfl) ?_
 fail "R"
 refine oT (f:=fun c=>.bl (decide (c∈vS.cps.toList))) (fun _ _ _ _=>rfl) (fun a ha H1 K1 s1 q=>?_) rfl hz (fun p hp=>?_)
 ·fail "R"
  exact q
 have e:(x.cps.toList.map fun c=>V.bl (decide (c∈vS.cps.toList)))=(x.cps.toList.map fun c=>decide (c∈vS.cps.toList)).map V.bl:=by rw[List.map_map];rfl
 rw[e]
 fail "R"
 rw[all_true fun a ha=>decide_eq_true (HL a (x3 a ha))]
 exact k _ (Zs hp)
theorem fg:Nm ["text","most"] (ae fQ):=by decide +kernel
theorem rV:aH ["text","most"] ["text","most"] (ae fQ):=⟨rfl,rfl,rfl,by decide +kernel,rfl,by decide +kernel,by decide +kernel⟩
theorem Dh{f:Addr}{fd:FuncData}(F:eN K "is_figures" "is_figures" fQ f fd)(z_len:mg "len"=none)(z_all:mg "all"=none)(mFi:mg "FIGURES"=some (.str vU tkF)):bK P w K mg base d8 1 f fd ["text","most"] uF:=by
 refine F.ok rV (fun vs H Q E h=>?_) (fun cdv A outer s H vs Q E hr h=>?_)
 ·obtain⟨_,_,rfl,_⟩:=h
  rfl
 obtain⟨x,m,rfl,hll,k⟩:=h
 obtain⟨l,rfl⟩:∃l,x=au l:=⟨x.cps.toList,(az x).symm⟩
 rw[aA]at k
 refine⟨_,(Z4 (Z8 (PW.pt (@iF _ _ _ _ _ _ _ (@d9 _ _ _ _ (@Cb _ _ _ _ _ _ _ _ _ _ _ _ zg zg ao (Z3 jH z_len PySem.boot_len (Z9 (va fg 0))) (va fg 1) (by with_unfolding_all rfl))) (@f9 _ _ _ _ (@d9 _ _ _ _ (Zo (Z3 (nK rfl) z_all PyProof.Rows.boot_all (Z1 (Za (ae fQ) ["text","most"] ["sign"] (ye (va fg 0)) (fun _ _ _ _=>(Z2 (i:=0) (show(["sign"]:List Str).Nodup by decide +kernel))) (fun _ _ _ _=>(fM iL (va (show Nm ["sign"] _ by show _=_;kernel_rfl) 0) (d7 (v:=.str vU) (by show _=_;kernel_rfl) mFi ⟨_,rfl⟩) (by with_unfolding_all rfl)))) aj))))))) (aV (b7 yY))) (Zc (Zf (@Jl _ _ _ _ _ _ _ (@fM _ _ _ _ _ _ _ _ b9 (Z3 jH z_len PySem.boot_len (Z9 (va fg 0))) ao (mG _)) (@tQ _ _ _ _ _ (@fM _ _ _ _ _ _ _ _ ji (Zb tW (va fg 0)) ak (mG _))))))),?_⟩
 try dsimp only[aU]
 try dsimp only[aU]
 have hl:=aI l
 have hz:(au l).length<=sizeLine:=big (by omega)
 unfold pQ at k
 refine gq ?_
 intro N1 c1
 fail "R"
 refine dG (fun b1=>?_) (fun b1=>?_)
 ·have b1':(1:Int)<=((au l).length:Int):=of_decide_eq_true b1
  fail "R"
  refine dG (fun b2=>?_) (fun b2=>?_)
  ·have b2':¬((au l).length:Int)<=m:=fun z=>by rw[decide_eq_true z]at b2;cases b2
   rw[if_neg (by omega)]at k
   fail "R"
   exact k _ (aL.refl _)
  have b2':((au l).length:Int)<=m:=by
   by_cases z:((au l).length:Int)<=m
   ·exact z
   ·rw[decide_eq_false z]at b2;exact absurd rfl b2
  rw[if_pos (by omega)]at k
  fail "R"
  refine oT (f:=fun c=>.bl (dig c)) (fun _ _ _ _=>rfl) (fun a ha H1 K1 s1 q=>?_) rfl hz (fun p hp=>?_)
  ·fail "R"
   exact q
  rw[aA]
  have e:(l.map fun c=>V.bl (dig c))=(l.map dig).map V.bl:=by rw[List.map_map];rfl
  rw[e]
  have s1:=ah hp (.lst ((l.map dig).map V.bl))
  have h1:upd H p (.lst ((l.map dig).map V.bl)) p=some (.lst ((l.map dig).map V.bl)):=aa
  generalize upd H p (.lst ((l.map dig).map V.bl))=H1 at s1 h1⊢
  fail "R"
  refine dG (fun b3=>?_) (fun b3=>?_)
  ·have b3':¬(l.map dig).all id=true:=fun z=>by rw[z]at b3;cases b3
   rw[if_neg b3']at k
   fail "R"
   exact k _ s1
  have b3':(l.map dig).all id=true:=by
   cases z:(l.map dig).all id with
   |true=>rfl
   |false=>rw[z]at b3;exact absurd rfl b3
  rw[if_pos b3']at k
  fail "R"
  refine dG (fun cn=>?_) (fun cn=>?_)
  ·have e1:l.length=1:=by
    have z:=of_decide_eq_true cn
    injection z with z
    omega
   rw[decide_eq_true e1]at k
   exact k _ s1
  have e1:¬l.length=1:=fun z=>cn (decide_eq_true (by rw[hl,z];rfl))
  rw[decide_eq_false e1]at k
  obtain⟨a,r,ea⟩:∃a r,l=a::r:=by
   cases e:l with
   |nil=>rw[e]at hl b1';have:(au ([]:List Nat)).length=0:=hl;omega
   |cons a r=>exact⟨a,r,rfl⟩
  have hat:cK (au l).cps.toList 0=some a:=by rw[aA,ea];unfold cK EH;simp
  have hq2:(!decide (V.str ⟨#[a]⟩=V.str "0"))=(false||decide (l[0]?≠some 48)):=by
   rw[ea,Bool.false_or]
   by_cases z:a=48
   ·subst z
    rfl
   ·have hne:¬(V.str ⟨#[a]⟩=V.str "0"):=fun e=>z (yt (k:=48).mp e)
    rw[decide_eq_false hne,decide_eq_true (by simpa using z)]
    rfl
  fail "R"
  rw[hq2]
  exact k _ s1
 ·have b1':¬(1:Int)<=((au l).length:Int):=fun z=>b1 (decide_eq_true z)
  rw[if_neg (by omega)]at k
  fail "R"
  exact k _ (aL.refl _)
theorem mV:Nm ["item"] (ae lj):=by decide +kernel
theorem yy:aH ["item"] ["item"] (ae lj):=⟨rfl,rfl,rfl,by decide +kernel,rfl,by decide +kernel,by decide +kernel⟩
theorem Be{f:Addr}{fd:FuncData}(F:eN K "name_of" "name_of" lj f fd)(IN:bE P w K mg base "is_name" 1 ["text"] wC gI ifd)(z_isinstance:mg "isinstance"=none)(z_str:mg "str"=none):bK P w K mg base d8 2 f fd ["item"] fc:=by
 refine F.ok yy (fun vs H Q E h=>?_) (fun cdv A outer s H vs Q E hr h=>?_)
 ·obtain⟨_,rfl,_⟩:=h
  rfl
 obtain⟨x,rfl,hx,k⟩:=h
 refine⟨_,(Z4 (Z8 (PW.pt (@iF _ _ _ _ _ _ _ (@d9 _ _ _ _ (Zo (Z3 (lB K rfl) z_isinstance PyProof.Rows.boot_isinstance (Z1 (va mV 0) (Z9 (Zg (v:=.ty "str") z_str)))))) (@f9 _ _ _ _ (@d9 _ _ _ _ (Zo (Z0 IN (Z9 (va mV 0)))))))) (aV b8)) (Zc (b7 (va mV 0)))),?_⟩
 try dsimp only[aU]
 try dsimp only[aU]
 refine gq ?_
 intro N1 c1
 fail "R"
 refine .inr ⟨_,rfl,?_⟩
 fail "R"
 intro H1 s1
 fail "R"
 exact k _ s1
theorem jA:Nm ["word"] (ae fk):=by decide +kernel
theorem oV:aH ["word"] ["word"] (ae fk):=⟨rfl,rfl,rfl,by decide +kernel,rfl,by decide +kernel,by decide +kernel⟩
theorem Fw{f:Addr}{fd:FuncData}(F:eN K "number_behind" "number_behind" fk f fd)(IFG:bE P w K mg base "is_figures" 1 ["text","most"] uF gF ffd)(z_int:mg "int"=none):bK P w K mg base d8 2 f fd ["word"] yw:=by
 refine F.ok oV (fun vs H Q E h=>?_) (fun cdv A outer s H vs Q E hr h=>?_)
 ·obtain⟨_,_,rfl,_⟩:=h
  rfl
 obtain⟨n,a,rfl,hn,k⟩:=h
 refine⟨_,(Z4 (Z8 (@d9 _ _ _ _ (Zo (Z0 IFG (Z1 (cC ud (va jA 0) (cN ao) cV) (Z9 ao))))) (aV b8)) (Zc (Zf (Z6 sO z_int PyProof.Rows.boot_int (Z1 (cC ud (va jA 0) (cN ao) cV) aj))))),?_⟩
 try dsimp only[aU]
 try dsimp only[aU]
 have hz:(au (a::bS n)).length<=sizeLine:=small (by have:=fP hn;rw[aI,List.length_cons];omega)
 have es:=yv (a:=a) (l:=bS n)
 have e2:au (bS n)=Str.ofString (toString n):=az _
 refine gq ?_
 intro N1 c1
 fail "R"
 ·rw[es,aI]
  have:=fP hn
  omega
 have fb:=A3 hn
 rw[es,aA,fb]
 intro H1 s1
 fail "R"
 ·(rw[es,e2]<;>rfl)
 fail "R"
 exact k _ s1
end
noncomputable def Di(K:PySem.W.Frag):Sp:=fun vs H Q _=>∃(v:V) (c:Cr) (d:Nat),vs=[v]/\Rp K H (kT c d) v/\∀v',Rp K H (CI c) v'->Q v' H
noncomputable def Dj(K:PySem.W.Frag):Sp:=fun vs H Q _=>∃(v:V) (c:Cr) (d:Nat),vs=[v]/\Rp K H (kT c d) v/\Q (.int d) H
noncomputable def Dk(K:PySem.W.Frag):Sp:=fun vs H Q _=>∃(v:V) (c:Cr) (d:Nat),vs=[v,.int d]/\Rp K H (CI c) v/\d<=100/\∀v' H',aL H H'->Rp K H' (kT c d) v'->Q v' H'
theorem zS{s:Str}(hs:s≠"row"):¬(decide (V.str s=V.str "row")=true):=fun h=>by
 have e:=of_decide_eq_true h
 injection e with e
 exact hs e
theorem wD{K:PySem.W.Frag}{H:Hp}{c:Cr}{v:V}(r:Rp K H (CI c) v){Q:V->Hp->Prop}(hq:∀s:Str,s≠"row"->Q (.str s) H):K2 K v (.int 0) H Q:=by
 cases c with
 |num =>
  obtain rfl:=(show Rp K H (.s "num") v from r).aG
  exact .inr (.inr ⟨_,0,110,rfl,rfl,(by decide +kernel),(by decide +kernel),hq _ (by decide +kernel)⟩)
 |kd x =>
  obtain⟨ka,k1,k2,rfl,ksq,g1,g2⟩:=(show Rp K H (.t [.s "kind",.s x]) v from r).t2
  obtain rfl:=g1.aG
  exact .inr (.inl ⟨ka,_,0,.str "kind",rfl,rfl,ksq,rfl,hq _ (by decide +kernel)⟩)
 |op n =>
  obtain⟨ka,k1,k2,rfl,ksq,g1,g2⟩:=(show Rp K H (.t [.s "open",.i n]) v from r).t2
  obtain rfl:=g1.aG
  exact .inr (.inl ⟨ka,_,0,.str "open",rfl,rfl,ksq,rfl,hq _ (by decide +kernel)⟩)
section
variable {P:Program}{w:World}{K:PySem.W.Frag}{mg:Str->Option Value}{base:Heap}
theorem jP:Nm ["kind"] (ae gz):=by decide +kernel
theorem uG:Lm ["kind"] (ae gz):=by decide +kernel
theorem nT:aH ["kind"] ["kind"] (ae gz):=⟨rfl,rfl,rfl,by decide +kernel,rfl,by decide +kernel,by decide +kernel⟩
theorem HU{f:Addr}{fd:FuncData}(F:eN K "innermost" "innermost" gz f fd):bK P w K mg base d8 1 f fd ["kind"] (Di K):=by
 refine F.ok nT (fun vs H Q E h=>?_) (fun cdv A outer s H vs Q E hr h=>?_)
 ·obtain⟨_,_,_,rfl,_⟩:=h
  rfl
 obtain⟨v,c,d,rfl,r0,k⟩:=h
 refine⟨_,(Z4 (@nu _ _ _ _ _ _ PassesOwn.never (Zr b9 (Zb qx (va jP 0)) ak) (Zc (Z5 nT.nd uG 0 (Zb qx (va jP 0))))) (Zc (b7 (va jP 0)))),?_⟩
 try dsimp only[aU]
 try dsimp only[aU]
 refine⟨fun m σ H1=>H1=H/\∃v:V,σ=[some v]/\Rp K H (kT c m) v,⟨d,rfl,v,rfl,r0⟩,?_⟩
 rintro m σ H1 ⟨rfl,v,rfl,r1⟩
 cases m with
 |zero =>
  refine⟨_,rfl,wD r1 fun s hs=>?_⟩
  refine⟨rfl,_,rfl,dG (fun z=>absurd z (zS hs)) (fun _=>?_)⟩
  fail "R"
  exact k _ r1
 |succ m =>
  obtain⟨ka,v1,v2,rfl,ksq,g1,g2⟩:=(show Rp K H1 (.t [.s "row",kT c m]) v from r1).t2
  obtain rfl:=g1.aG
  refine⟨_,rfl,.inr (.inl ⟨ka,_,0,.str "row",rfl,rfl,ksq,rfl,rfl,_,rfl,dG (fun _=>?_) (fun c=>absurd (by decide +kernel) c)⟩)⟩
  refine⟨fun σ' H'=>H'=H1/\σ'=[some v2],fun σ' H' ⟨e1,e2⟩=>⟨m,Nat.lt_succ_self _,e1,v2,e2,g2⟩,?_⟩
  exact⟨_,rfl,.inr (.inl ⟨ka,_,1,v2,rfl,rfl,ksq,rfl,rfl,rfl⟩)⟩
theorem jQ:Nm ["kind","depth"] (ae gy):=by decide +kernel
theorem nU:Lm ["kind","depth"] (ae gy):=by decide +kernel
theorem iq:aH ["kind","depth"] ["kind"] (ae gy):=⟨rfl,rfl,rfl,by decide +kernel,rfl,by decide +kernel,by decide +kernel⟩
theorem Fx{f:Addr}{fd:FuncData}(F:eN K "kind_deep" "kind_deep" gy f fd):bK P w K mg base d8 1 f fd ["kind"] (Dj K):=by
 refine F.ok iq (fun vs H Q E h=>?_) (fun cdv A outer s H vs Q E hr h=>?_)
 ·obtain⟨_,_,_,rfl,_⟩:=h
  rfl
 obtain⟨v,c,d,rfl,r0,k⟩:=h
 refine⟨_,(Z4 (sa iq.nd nU 1 ao) (Z4 (@nu _ _ _ _ _ _ PassesOwn.never (Zr b9 (Zb qx (va jQ 0)) ak) (Z4 (Z5 iq.nd nU 0 (Zb qx (va jQ 0))) (aV (BW (i:=1) iq.nd rfl (Or.inl rfl) ao BX)))) (Zc (b7 (va jQ 1))))),?_⟩
 try dsimp only[aU]
 try dsimp only[aU]
 refine⟨fun m σ H1=>H1=H/\∃(v:V) (j:Nat),σ=[some v,some (.int j)]/\Rp K H (kT c m) v/\m+j=d,⟨d,rfl,v,0,rfl,r0,rfl⟩,?_⟩
 rintro m σ H1 ⟨rfl,v,j,rfl,r1,hj⟩
 cases m with
 |zero =>
  refine⟨_,rfl,wD r1 fun s hs=>?_⟩
  refine⟨rfl,_,rfl,dG (fun z=>absurd z (zS hs)) (fun _=>?_)⟩
  fail "R"
  obtain rfl:j=d:=by omega
  exact k
 |succ m =>
  obtain⟨ka,v1,v2,rfl,ksq,g1,g2⟩:=(show Rp K H1 (.t [.s "row",kT c m]) v from r1).t2
  obtain rfl:=g1.aG
  refine⟨_,rfl,.inr (.inl ⟨ka,_,0,.str "row",rfl,rfl,ksq,rfl,rfl,_,rfl,dG (fun _=>?_) (fun c=>absurd (by decide +kernel) c)⟩)⟩
  refine⟨fun σ' H'=>H'=H1/\σ'=[some v2,some (.int (j+1:Nat))],fun σ' H' ⟨e1,e2⟩=>⟨m,Nat.lt_succ_self _,e1,v2,j+1,e2,g2,by omega⟩,?_⟩
  exact⟨_,rfl,.inr (.inl ⟨ka,_,1,v2,rfl,rfl,ksq,rfl,_,rfl,_,_,rfl,rfl,rfl,rfl⟩)⟩
theorem mW:Nm ["kind","depth","row"] (ae jt):=by decide +kernel
theorem qV:Lm ["kind","depth","row"] (ae jt):=by decide +kernel
theorem mX:aH ["kind","depth","row"] ["kind","depth"] (ae jt):=⟨rfl,rfl,rfl,by decide +kernel,rfl,by decide +kernel,by decide +kernel⟩
theorem Fy{f:Addr}{fd:FuncData}(F:eN K "in_rows" "in_rows" jt f fd)(z_range:mg "range"=none):bK P w K mg base d8 1 f fd ["kind","depth"] (Dk K):=by
 refine F.ok mX (fun vs H Q E h=>?_) (fun cdv A outer s H vs Q E hr h=>?_)
 ·obtain⟨_,_,_,rfl,_⟩:=h
  rfl
 obtain⟨v,c,d,rfl,r0,hd,k⟩:=h
 refine⟨_,(Z4 (Zl (Zn (Z9 (va mW 1))) (ga mX.nd qV 2) (Zc (Z5 mX.nd qV 0 (Zj (Z1 ak (Z9 (va mW 0))))))) (Zc (b7 (va mW 0)))),?_⟩
 try dsimp only[aU]
 try dsimp only[aU]
 fail "R"
 refine iA (fun i σ H1=>∃v1 y,σ=[some v1,some (.int d),y]/\aL H H1/\Rp K H1 (kT c i) v1) ⟨v,_,rfl,aL.refl _,r0⟩ ?_ ?_
 ·rintro i σ H1 hi ⟨v1,y,rfl,s1,r1⟩
  fail "R"
  intro p hp
  exact⟨_,_,rfl,s1.trans (Zs hp),Rp.new (K:=K) hp (.cons .s (.one r1))⟩
 ·rintro σ H1 ⟨v1,y,rfl,s1,r1⟩
  fail "R"
  exact k _ _ s1 r1
end
noncomputable def yz(H:Hp)(c:Cr):Nat->V->Prop
 |0,v=>v=.str (au c.L)
 |d+1,v=>∃a v',v=.ref a/\H a=some (.lst [.str "row",v'])/\yz H c d v'
theorem yz.same{H H':Hp}{c:Cr}(s:aL H H'):∀{d:Nat}{v:V},yz H c d v->yz H' c d v
 |0,_,h=>h
 |_+1,_,⟨a,v',e,h1,h2⟩=>⟨a,v',e,s _ _ h1,h2.same s⟩
noncomputable def wF(K:PySem.W.Frag):Sp:=fun vs H Q _=>∃c:Cr,vs=[.str (au c.L)]/\c.ok/\∀v H',aL H H'->Rp K H' (CI c) v->Q v H'
noncomputable def wG(K:PySem.W.Frag):Sp:=fun vs H Q _=>∃(c:Cr) (d:Nat) (v:V),vs=[v]/\c.ok/\d<=20/\yz H c d v/\∀v' H',aL H H'->Rp K H' (kT c d) v'->Q v' H'
section
variable {P:Program}{w:World}{K:PySem.W.Frag}{mg:Str->Option Value}{base:Heap}{gN gB gC gR:Addr}{nfd bfd cfd rfd:FuncData}
theorem gi:Nm ["word"] (ae ly):=by decide +kernel
theorem yC:aH ["word"] ["word"] (ae ly):=⟨rfl,rfl,rfl,by decide +kernel,rfl,by decide +kernel,by decide +kernel⟩
theorem Bf{f:Addr}{fd:FuncData}(F:eN K "core_of" "core_of" ly f fd)(NB:bE P w K mg base "number_behind" 2 ["word"] yw gB bfd)(NO:bE P w K mg base "name_of" 2 ["item"] fc gN nfd):bK P w K mg base d8 3 f fd ["word"] (wF K):=by
 refine F.ok yC (fun vs H Q E h=>?_) (fun cdv A outer s H vs Q E hr h=>?_)
 ·obtain⟨_,rfl,_⟩:=h
  rfl
 obtain⟨c,rfl,hc,k⟩:=h
 refine⟨_,(Z4 (Z8 (Zi b9 (va gi 0) ak) (aV (b7 ak))) (Z4 (Z8 (Zo (cz PySem.F.plainAttrs_str PySem.F.slot_str_startswith PySem.F.type_str_startswith gp (va gi 0) (Z9 ak) (hbase:=by kernel_rfl) (hfew:=by kernel_rfl) (hline:=by kernel_rfl) (hs:=by kernel_rfl) (hplain:=by kernel_rfl))) (Zc (Zf (Zj (Z1 ak (Z1 (Z0 NB (Z9 (va gi 0))) aj)))))) (Z4 (Z8 (Zo (cz PySem.F.plainAttrs_str PySem.F.slot_str_startswith PySem.F.type_str_startswith gp (va gi 0) (Z9 ak) (hbase:=by kernel_rfl) (hfew:=by kernel_rfl) (hline:=by kernel_rfl) (hs:=by kernel_rfl) (hplain:=by kernel_rfl))) (Zc (Zf (Zj (Z1 ak (Z1 (Z0 NB (Z9 (va gi 0))) aj)))))) (Zc (Zf (Zj (Z1 ak (Z1 (Z0 NO (Z9 (va gi 0))) aj)))))))),?_⟩
 try dsimp only[aU]
 try dsimp only[aU]
 cases c with
 |num =>
  fail "R"
  exact k _ _ (aL.refl _) .s
 |kd x =>
  have ex:au (Cr.kd x).L=x:=az x
  rw[ex]
  have n1:¬decide (V.str x=V.str "num")=true:=fun z=>by
   have e:=of_decide_eq_true z
   injection e with e
   exact hc.2.2.2 (by rw[e];decide +kernel)
  have low0:∀k,¬low k->Txt.startswith x ⟨#[k]⟩=false:=fun k hk=>by
   rw[←az x,jO]
   refine decide_eq_false fun e=>hk (hc.2.2.1 k (List.mem_of_getElem? e))
  have n2:Txt.startswith x "?"=false:=low0 63 (by unfold low;omega)
  have n3:Txt.startswith x "'"=false:=low0 39 (by unfold low;omega)
  refine dR ?_
  intro N1 N2 N3 c1 c2 c3
  fail "R"
  refine dG (fun z=>absurd z n1) (fun _=>?_)
  fail "R"
  refine rR n2 ?_
  fail "R"
  refine rR n3 ?_
  fail "R"
  intro H1 s1
  fail "R"
  intro p hp
  exact k _ _ (s1.trans (Zs hp)) (Rp.new (K:=K) hp (.cons .s (.one .s)))
 |op n =>
  have n1:¬decide (V.str (au (63::bS n))=V.str "num")=true:=fun z=>by
   have e:=of_decide_eq_true z
   injection e with e
   have e2:63::bS n=[110,117,109]:=by rw[←aA (63::bS n),e];rfl
   injection e2 with e3 _
   cases e3
  have n2:Txt.startswith (au (63::bS n)) "?"=true:=by
   show Txt.startswith _ ⟨#[63]⟩=true
   rw[jO]
   rfl
  show bj _ _ _ (L2.start ["word"] [.str (au (63::bS n))]) H
  refine dR ?_
  intro N1 N2 N3 c1 c2 c3
  fail "R"
  refine dG (fun z=>absurd z n1) (fun _=>?_)
  fail "R"
  refine EW n2 ?_
  fail "R"
  intro H1 s1
  fail "R"
  intro p hp
  exact k _ _ (s1.trans (Zs hp)) (Rp.new (K:=K) hp (.cons .s (.one .i)))
theorem gj:Nm ["item","depth"] (ae jv):=by decide +kernel
theorem qW:Lm ["item","depth"] (ae jv):=by decide +kernel
theorem jR:aH ["item","depth"] ["item"] (ae jv):=⟨rfl,rfl,rfl,by decide +kernel,rfl,by decide +kernel,by decide +kernel⟩
theorem Bg{f:Addr}{fd:FuncData}(F:eN K "kind_of" "kind_of" jv f fd)(COF:bE P w K mg base "core_of" 3 ["word"] (wF K) gC cfd)(IR:bE P w K mg base "in_rows" 1 ["kind","depth"] (Dk K) gR rfd)(z_isinstance:mg "isinstance"=none)(z_str:mg "str"=none)(z_len:mg "len"=none):bK P w K mg base d8 4 f fd ["item"] (wG K):=by
 refine F.ok jR (fun vs H Q E h=>?_) (fun cdv A outer s H vs Q E hr h=>?_)
 ·obtain⟨_,_,_,rfl,_⟩:=h
  rfl
 obtain⟨c,d,v,rfl,hc,hd,it,k⟩:=h
 refine⟨_,(Z4 (sa jR.nd qW 1 ao) (Z4 (@nu _ _ _ _ _ _ PassesOwn.never (@d9 _ _ _ _ (Zo (Z3 (lB K rfl) z_isinstance PyProof.Rows.boot_isinstance (Z1 (va gj 0) (Z9 (Zg (v:=.ty "str") z_str)))))) (Z4 (Z8 (PW.pt (@iF _ _ _ _ _ _ _ (Zr ji (Z3 aY z_len PySem.boot_len (Z9 (va gj 0))) ao) (@f9 _ _ _ _ (Zr ji (Zb aN (va gj 0)) ak)))) (aV b8)) (Z4 (Z5 jR.nd qW 0 (Zb aN (va gj 0))) (aV (BW (i:=1) jR.nd rfl (Or.inl rfl) ao BX))))) (Zc (Zf (Z0 IR (Z1 (Z0 COF (Z9 (va gj 0))) (Z9 (va gj 1)))))))),?_⟩
 try dsimp only[aU]
 try dsimp only[aU]
 refine fV ?_
 intro N1 N2 c1 c2
 fail "R"
 refine⟨fun m σ H1=>H1=H/\∃(v:V) (j:Nat),σ=[some v,some (.int j)]/\yz H c m v/\m+j=d,⟨d,rfl,v,0,rfl,it,rfl⟩,?_⟩
 rintro m σ H1 ⟨rfl,v,j,rfl,it1,hj⟩
 cases m with
 |zero =>
  obtain rfl:v=.str (au c.L):=it1
  obtain rfl:j=d:=by omega
  fail "R"
  refine .inr ⟨_,rfl,?_⟩
  fail "R"
  intro v1 H2 s2 r2
  fail "R"
  intro v' H3 s3 r3
  exact k _ _ (s2.trans s3) r3
 |succ m =>
  obtain⟨a,v',rfl,ha,it2⟩:=it1
  fail "R"
  refine .inl ⟨a,_,rfl,bB.of ha,?_⟩
  refine⟨false,rfl,?_⟩
  refine La ⟨fun σ' H'=>H'=H1/\σ'=[some v',some (.int (j+1:Nat))],fun σ' H' ⟨e1,e2⟩=>⟨m,Nat.lt_succ_self _,e1,v',j+1,e2,it2,by omega⟩,?_⟩
  fail "R"
  rfl
end
mutual
noncomputable def RK(M:List Addr)(H:Hp):Bw->V->Prop
 |.a w,v=>v=.str (au w)
 |.g _ ws,v=>∃a us,v=.ref a/\a∉M/\H a=some (.lst us)/\xN M H ws us
noncomputable def xN(M:List Addr)(H:Hp):List Bw->List V->Prop
 | [],us=>us=[]
 |b::r,us=>∃v q,us=v::q/\RK M H b v/\xN M H r q
end
theorem uH{M:List Addr}{H:Hp}:∀{ws:List Bw}{us:List V},xN M H ws us↔uD RK M H ws us
 | [],us=>by rw[xN];exact Iff.rfl
 |b::r,us=>by
  rw[xN]
  exact⟨fun⟨v,q,e,h1,h2⟩=>⟨v,q,e,h1,uH.mp h2⟩,fun⟨v,q,e,h1,h2⟩=>⟨v,q,e,h1,uH.mpr h2⟩⟩
theorem zT{M M':List Addr}{H H':Hp}(k:∀a vs,a∉M->H a=some (.lst vs)->a∉M'/\H' a=some (.lst vs)):∀(b:Bw) (v:V),RK M H b v->RK M' H' b v:=by
 intro b
 refine Bw.induct (P:=fun b=>∀v,RK M H b v->RK M' H' b v) (fun w v h=>?_) (fun o ws ih v h=>?_) b
 ·rw[RK]at h⊢;exact h
 ·rw[RK]at h⊢
  obtain⟨a,us,e,n,h1,h2⟩:=h
  obtain⟨k1,k2⟩:=k a us n h1
  refine⟨a,us,e,k1,k2,?_⟩
  have all:∀(l:List Bw),(∀x∈l,∀v,RK M H x v->RK M' H' x v)->∀us,xN M H l us->xN M' H' l us:=by
   intro l
   induction l with
   |nil=>intro _ us h;rw[xN]at h⊢;exact h
   |cons x r ihr =>
    intro hx us h
    rw[xN]at h⊢
    obtain⟨v,q,e,h1,h2⟩:=h
    exact⟨v,q,e,hx x (.head _) v h1,ihr (fun y hy=>hx y (.tail _ hy)) q h2⟩
  exact all ws ih us h2
theorem GF:uC RK:=⟨fun h k=>zT (fun a vs n e=>⟨n,k.l a vs n e⟩) _ _ h,fun h k=>zT (fun a vs n e=>⟨(fun z=>by rcases k a z with q|q;exact n q;rw[q]at e;cases e),e⟩) _ _ h,fun _ _ w=>by rw[RK]⟩
theorem nV{H H':Hp}(s:aL H H'){b:Bw}{v:V}(h:RK [] H b v):RK [] H' b v:=GF.keep h (oU.same s)
theorem qX{H H':Hp}(s:aL H H'){ws:List Bw}{us:List V}(h:uD RK [] H ws us):uD RK [] H' ws us:=h.imp fun _ _ z=>nV s z
mutual
noncomputable def qY:Bw->Prop
 |.a _=>True
 |.g o ws=>o=40/\yD ws
noncomputable def yD:List Bw->Prop
 | []=>True
 |b::r=>qY b/\yD r
end
theorem wH:∀{ws:List Bw},yD ws->∀x∈ws,qY x
 |b::r,h,x,hx=>by
  rw[yD]at h
  rcases List.mem_cons.mp hx with rfl|hx
  ·exact h.1
  ·exact wH h.2 x hx
theorem uI:∀{ws:List Bw},(∀x∈ws,qY x)->yD ws
 | [],_=>by rw[yD];trivial
 |b::r,h=>by rw[yD];exact⟨h b (.head _),uI fun x hx=>h x (.tail _ hx)⟩
theorem HV:∀o ws,qY (.g o ws)->∀x∈ws,qY x:=fun o ws h=>by rw[qY]at h;exact wH h.2
theorem yE(c:Cr):∀d,qY (kB c d)
 |0=>by rw[kB,qY];trivial
 |d+1=>by rw[kB,qY];refine⟨rfl,uI fun x hx=>?_⟩;rcases List.mem_cons.mp hx with rfl|hx;rw[qY];trivial;rw[List.mem_singleton.mp hx];exact yE c d
theorem GG{H:Hp}{c:Cr}:∀{d:Nat}{v:V},RK [] H (kB c d) v->yz H c d v
 |0,v,h=>by rw[kB,RK]at h;exact h
 |d+1,v,h=>by
  rw[kB,RK]at h
  obtain⟨a,us,rfl,_,h1,h2⟩:=h
  rw[xN]at h2
  obtain⟨v1,q,rfl,e1,h3⟩:=h2
  rw[xN]at h3
  obtain⟨v2,q2,rfl,h4,h5⟩:=h3
  rw[xN]at h5
  subst h5
  rw[RK]at e1
  subst e1
  exact⟨a,v2,rfl,h1,GG h4⟩
section
variable {P:Program}{w:World}{K:PySem.W.Frag}{mg:Str->Option Value}{base:Heap}
theorem nW:Nm ["opener","items"] (ae iX):=by decide +kernel
theorem uJ:aH ["opener","items"] ["opener","items"] (ae iX):=⟨rfl,rfl,rfl,by decide +kernel,rfl,by decide +kernel,by decide +kernel⟩
theorem nX{f:Addr}{fd:FuncData}(F:eN K "kept_list" "kept_list" iX f fd):bK P w K mg base d8 1 f fd ["opener","items"] (jM RK qY):=by
 refine F.ok uJ (fun vs H Q E h=>?_) (fun cdv A outer s H vs Q E hr h=>?_)
 ·obtain⟨_,_,_,_,_,rfl,_⟩:=h
  rfl
 obtain⟨c,ws,p,us,M,rfl,hg,hp,hm,hv,k⟩:=h
 refine⟨_,(Z4 (Z8 (Zi ji (va nW 0) ak) (aV b8)) (Zc (b7 (va nW 1)))),?_⟩
 try dsimp only[aU]
 try dsimp only[aU]
 rw[qY]at hg
 obtain rfl:=hg.1
 fail "R"
 exact k _ _ (aL.refl _) (by rw[RK];exact⟨p,us,rfl,hm,hp,uH.mpr hv⟩)
end
end G09
namespace G09
open PySem L2
noncomputable def bF(s:Str):Bw:=.a s.cps.toList
noncomputable def cW(a:Str×List Str)(k:Bw):Bw:=.g 40 (bF a.1::(a.2.map bF++[k]))
noncomputable def JS:Hd->List Bw->Bw
 |.num n,_=>.a (bS n)
 |.name x,_=>bF x
 |.gap n,_=>.a (63::bS n)
 |.op s,ks=>.g 40 (bF s::ks)
 |.row,ks=>.g 40 (bF "row"::ks)
 |.more,ks=>.g 40 (bF "more"::ks)
 |.first,ks=>.g 40 (bF "first"::ks)
 |.others,ks=>.g 40 (bF "others"::ks)
 |.long,ks=>.g 40 (bF "long"::ks)
 |.tag t,ks=>.g 40 (.a (t.cps.toList++[58])::ks)
 |.call f,ks=>.g 40 (bF "call"::bF f::ks)
 |.mat arms,ks=>.g 40 (bF "match"::ks.headD (.a [])::List.zipWith cW arms ks.tail)
 |.ife,ks=>.g 40 (bF "if"::ks)
 |.lt x,ks=>.g 40 (bF "let"::bF x::ks)
 |.fold x y,ks=>.g 40 [bF "fold",ks.getD 0 (.a []),bF x,bF y,ks.getD 1 (.a []),ks.getD 2 (.a [])]
mutual
noncomputable def bw:Tm->Bw
 |.mk h ks=>JS h (bws ks)
noncomputable def bws:List Tm->List Bw
 | []=>[]
 |k::r=>bw k::bws r
end
theorem zU:∀ks:List Tm,bws ks=ks.map bw
 | []=>rfl
 |k::r=>by unfold bws;rw[zU r];rfl
theorem dM(h:Hd)(ks:List Tm):bw (.mk h ks)=JS h (ks.map bw):=by unfold bw;rw[zU]
noncomputable def lZ:Hd->Bool
 |.num _=>true
 |.name _=>true
 |.gap _=>true
 |_=>false
noncomputable def f7:List Str:=["+","-","*",":","<","="]
noncomputable def Dl:Hd->Prop
 |.num n=>0<=n/\n<1000000
 |.name x=>bx x
 |.gap n=>0<=n/\n<100
 |.op s=>s∈f7
 |.tag t=>bx t
 |.call f=>bx f
 |.mat arms=>∀a∈arms,bx a.1/\∀x∈a.2,bx x
 |.lt x=>bx x
 |.fold x y=>bx x/\bx y
 |_=>True
inductive cX:Tm->Prop
 |mk {h:Hd}{ks:List Tm}:CK h ks.length=true->Dl h->(∀k∈ks,cX k)->cX (.mk h ks)
noncomputable def tv(tm:Tm):T:=match bw tm with
 |.a w=>.s (au w)
 |.g _ _=>.t [.s "term",enc tm]
inductive Vl:Bw->T->Prop
 |a (w:List Nat):Vl (.a w) (.s (au w))
 |t {tm:Tm}:cX tm->lZ tm.hd=false->Vl (bw tm) (.t [.s "term",enc tm])
 |r {a:Str×List Str}{k:Tm}:bx a.1->(∀x∈a.2,bx x)->cX k->Vl (cW a (bw k)) (.t [.s "arm",jd a (enc k)])
inductive Gd:Bw->Prop
 |a (w:List Nat):Gd (.a w)
 |t {tm:Tm}:cX tm->Gd (bw tm)
 |r {a:Str×List Str}{k:Tm}:bx a.1->(∀x∈a.2,bx x)->cX k->Gd (cW a (bw k))
theorem zV{tm:Tm}(h:lZ tm.hd=true):∃w,bw tm=.a w:=by
 obtain⟨hd,ks⟩:=tm
 rw[dM]
 cases hd<;>first|exact⟨_,rfl⟩|cases h
theorem Dm{tm:Tm}(h:lZ tm.hd=false):∃ws,bw tm=.g 40 ws:=by
 obtain⟨hd,ks⟩:=tm
 rw[dM]
 cases hd<;>first|exact⟨_,rfl⟩|cases h
theorem nY{a:Str×List Str}:∀{arms:List (Str×List Str)}{ks:List Bw}{x:Bw},x∈List.zipWith cW arms ks->∃a k,a∈arms/\k∈ks/\x=cW a k
 | [],_,_,h=>by simp at h
 |_::_,[],_,h=>by simp at h
 |a::r,k::q,x,h=>by
  rw[List.zipWith_cons_cons]at h
  cases h with
  |head=>exact⟨a,k,.head _,.head _,rfl⟩
  |tail _ h =>
   obtain⟨a',k',h1,h2,e⟩:=nY (a:=a) h
   exact⟨a',k',.tail _ h1,.tail _ h2,e⟩
theorem Fz{ks:List Tm}(h:∀k∈ks,cX k):∀x∈ks.map bw,Gd x:=fun x hx=>by
 obtain⟨k,hk,rfl⟩:=List.mem_map.mp hx
 exact .t (h k hk)
theorem uK{l:List Bw}(h:∀x∈l,Gd x)(i:Nat):Gd (l.getD i (.a [])):=by
 rw[List.getD_eq_getElem?_getD]
 cases e:l[i]? with
 |none=>exact .a _
 |some x=>exact h x (List.mem_of_getElem? e)
theorem Dn{l:List Bw}(h:∀x∈l,Gd x):Gd (l.headD (.a [])):=by
 cases l with
 |nil=>exact .a _
 |cons x r=>exact h x (.head _)
theorem Gd.Lr:∀o ws,Gd (.g o ws)->∀x∈ws,Gd x:=by
 intro o ws h x hx
 generalize eb:Bw.g o ws=b at h
 cases h with
 |a w=>cases eb
 |r h1 h2 h3 =>
  unfold cW at eb
  injection eb with e1 e2
  subst e2
  rcases List.mem_cons.mp hx with rfl|hx
  ·exact .a _
  rcases List.mem_append.mp hx with hx|hx
  ·obtain⟨s,_,rfl⟩:=List.mem_map.mp hx
   exact .a _
  ·rw[List.mem_singleton.mp hx]
   exact .t h3
 |@t tm ht =>
  cases ht with
  |@mk hd ks ar ho hk =>
   have kg:=Fz hk
   rw[dM]at eb
   cases hd<;>(unfold JS at eb;first|(cases eb;done)|skip)
   case op s=>injection eb with _ e2;subst e2;exact(List.mem_cons.mp hx).elim (fun e=>by rw[e];exact .a _) (kg x)
   case row=>injection eb with _ e2;subst e2;exact(List.mem_cons.mp hx).elim (fun e=>by rw[e];exact .a _) (kg x)
   case more=>injection eb with _ e2;subst e2;exact(List.mem_cons.mp hx).elim (fun e=>by rw[e];exact .a _) (kg x)
   case first=>injection eb with _ e2;subst e2;exact(List.mem_cons.mp hx).elim (fun e=>by rw[e];exact .a _) (kg x)
   case others=>injection eb with _ e2;subst e2;exact(List.mem_cons.mp hx).elim (fun e=>by rw[e];exact .a _) (kg x)
   case long=>injection eb with _ e2;subst e2;exact(List.mem_cons.mp hx).elim (fun e=>by rw[e];exact .a _) (kg x)
   case tag t=>injection eb with _ e2;subst e2;exact(List.mem_cons.mp hx).elim (fun e=>by rw[e];exact .a _) (kg x)
   case ife=>injection eb with _ e2;subst e2;exact(List.mem_cons.mp hx).elim (fun e=>by rw[e];exact .a _) (kg x)
   case call f =>
    injection eb with _ e2;subst e2
    exact(List.mem_cons.mp hx).elim (fun e=>by rw[e];exact .a _) fun hx=>(List.mem_cons.mp hx).elim (fun e=>by rw[e];exact .a _) (kg x)
   case lt y =>
    injection eb with _ e2;subst e2
    exact(List.mem_cons.mp hx).elim (fun e=>by rw[e];exact .a _) fun hx=>(List.mem_cons.mp hx).elim (fun e=>by rw[e];exact .a _) (kg x)
   case fold y z =>
    injection eb with _ e2;subst e2
    simp only[List.mem_cons,List.not_mem_nil,or_false]at hx
    rcases hx with rfl|rfl|rfl|rfl|rfl|rfl
    ·exact .a _
    ·exact uK kg 0
    ·exact .a _
    ·exact .a _
    ·exact uK kg 1
    ·exact uK kg 2
   case mat arms =>
    injection eb with _ e2;subst e2
    rcases List.mem_cons.mp hx with rfl|hx
    ·exact .a _
    rcases List.mem_cons.mp hx with rfl|hx
    ·exact Dn kg
    obtain⟨a,k,h1,h2,rfl⟩:=nY (a:=("",[])) hx
    obtain⟨tk,htk,rfl⟩:=List.mem_map.mp (List.mem_of_mem_tail h2)
    exact .r (ho a h1).1 (ho a h1).2 (hk tk htk)
end G09
namespace G09
open PySem L2
theorem GH:∀d:Nat,d<10->(Nat.digitChar d).toNat=48+d:=by decide
theorem L8(m:Nat):∃a r,(Nat.toDigits 10 m).map Char.toNat=a::r/\(48<=a/\a<=57)/\(∀c∈r,48<=c/\c<=57)/\(m≠0->a≠48)/\(m<10->r=[])/\∀k,1<=k->m<10 ^ k->r.length+1<=k:=by
 induction m using Nat.strongRecOn with
 |_ m ih =>
  by_cases h:m<10
  ·rw[Nat.toDigits_of_lt_base h]
   have e:=GH m h
   refine⟨_,[],rfl,?_,(fun c hc=>nomatch hc),fun hm=>?_,fun _=>rfl,fun k hk _=>hk⟩
   ·rw[e];omega
   ·rw[e];omega
  ·obtain⟨a,r,e,h1,h2,h3,_,h4⟩:=ih (m / 10) (by omega)
   have hm:m % 10<10:=Nat.mod_lt m (by decide)
   have t:Nat.toDigits 10 (m / 10)++Nat.toDigits 10 (m % 10)=Nat.toDigits 10 (10*(m / 10)+m % 10):=Nat.toDigits_append_toDigits (by decide) (by omega) hm
   rw[Nat.div_add_mod]at t
   have ed:=GH (m % 10) hm
   refine⟨a,r++[48+m % 10],?_,h1,fun c hc=>?_,fun _=>h3 (by omega),fun z=>absurd z h,fun k hk hlt=>?_⟩
   ·rw[←t,List.map_append,e,Nat.toDigits_of_lt_base hm]
    show a::r++[(Nat.digitChar (m % 10)).toNat]=_
    rw[ed]
    rfl
   ·rcases List.mem_append.mp hc with hc|hc
    ·exact h2 c hc
    ·rw[List.mem_singleton.mp hc];omega
   ·rw[List.length_append]
    cases k with
    |zero=>omega
    |succ k =>
     cases k with
     |zero=>have:m<10 ^ 1:=hlt;omega
     |succ k =>
      have:m / 10<10 ^ (k+1):=by
       rw[Nat.pow_succ]at hlt
       exact Nat.div_lt_of_lt_mul (by rw[Nat.mul_comm];exact hlt)
      have:=h4 (k+1) (by omega) this
      show r.length+1+1<=_
      omega
theorem gH{n:Int}(h:0<=n/\n<1000000):∃a r,bS n=a::r/\(48<=a/\a<=57)/\(∀c∈r,48<=c/\c<=57)/\(r=[]\/a≠48)/\r.length<=5:=by
 obtain⟨m,rfl⟩:=Int.eq_ofNat_of_zero_le h.1
 obtain⟨a,r,e,h1,h2,h3,h4,h5⟩:=L8 m
 unfold bS
 rw[PySem.W.KIN.signs_num]
 refine⟨a,r,e,h1,h2,?_,?_⟩
 ·by_cases z:m<10
  ·exact .inl (h4 z)
  ·exact .inr (h3 (by omega))
 ·have:=h5 6 (by decide) (by have:=h.2;omega)
  omega
theorem wI{n:Int}(h:0<=n/\n<1000000):pQ (bS n) 6=true:=by
 obtain⟨a,r,e,h1,h2,h3,h4⟩:=gH h
 rw[e]
 unfold pQ
 have ha:∀c∈a::r,dig c=true:=fun c hc=>decide_eq_true (CG c (by
  rcases List.mem_cons.mp hc with rfl|hc
  ·exact h1
  ·exact h2 c hc))
 rw[if_pos (by rw[List.length_cons];omega),if_pos (all_true ha)]
 rcases h3 with rfl|h3
 ·rfl
 ·have:decide ((a::r)[0]?≠some 48)=true:=decide_eq_true (by simpa using h3)
  rw[this,Bool.or_true]
theorem Dp{x:Str}(h:bx x):∀c∈x.cps.toList,vV c:=fun c hc=>by
 have:=h.2.2.1 c hc
 unfold low at this
 unfold vV
 omega
theorem kP{x:Str}(h:bx x):x.cps.toList≠[]:=fun e=>by
 have h1:=h.1
 have:x.length=0:=by
  show x.cps.size=0
  rw[←Array.length_toList,e]
  rfl
 omega
theorem iP{x:Str}(h:bx x):(bF x).ok:=by
 unfold bF Bw.ok
 exact⟨kP h,Dp h⟩
theorem qa:∀{ws:List Bw},(∀x∈ws,x.ok)->Bw.jF ws
 | [],_=>by unfold Bw.jF;trivial
 |x::r,h=>by
  unfold Bw.jF
  exact⟨h x (.head _),qa fun y hy=>h y (.tail _ hy)⟩
theorem Dq{ws:List Bw}(h:∀x∈ws,x.ok):(Bw.g 40 ws).ok:=by
 unfold Bw.ok
 exact⟨.inl rfl,qa h⟩
theorem HW{a:Str×List Str}{k:Bw}(h1:bx a.1)(h2:∀x∈a.2,bx x)(hk:k.ok):(cW a k).ok:=by
 refine Dq fun x hx=>?_
 rcases List.mem_cons.mp hx with rfl|hx
 ·exact iP h1
 rcases List.mem_append.mp hx with hx|hx
 ·obtain⟨s,hs,rfl⟩:=List.mem_map.mp hx
  exact iP (h2 s hs)
 ·rw[List.mem_singleton.mp hx];exact hk
theorem JT:∀s∈(["row","more","first","others","long","call","match","if","let","fold","+","-","*",":","<","="]:List Str),s.cps.toList≠[]/\∀c∈s.cps.toList,c≠32/\c≠40/\c≠41/\c≠91/\c≠93:=by decide +kernel
theorem kw{s:Str}(h:s∈(["row","more","first","others","long","call","match","if","let","fold","+","-","*",":","<","="]:List Str)):(bF s).ok:=by
 unfold bF Bw.ok
 exact JT s h
theorem JU{tm:Tm}(h:cX tm):(bw tm).ok:=by
 induction h with
 |@mk hd ks ar ho hk ih =>
  have kk:∀x∈ks.map bw,x.ok:=fun x hx=>by
   obtain⟨k,h1,rfl⟩:=List.mem_map.mp hx
   exact ih k h1
  have two:∀{s:Str}{l:List Bw},(bF s).ok->(∀x∈l,x.ok)->(Bw.g 40 (bF s::l)).ok:=fun h1 h2=>Dq fun x hx=>(List.mem_cons.mp hx).elim (fun e=>by rw[e];exact h1) (h2 x)
  have dg:∀{n:Int},0<=n/\n<1000000->∀c∈bS n,vV c:=fun{n} hn c hc=>by
   obtain⟨a,r,e,h1,h2,_,_⟩:=gH hn
   rw[e]at hc
   have:48<=c/\c<=57:=(List.mem_cons.mp hc).elim (fun z=>by rw[z];exact h1) (h2 c)
   unfold vV
   omega
  have gt:∀i,i<ks.length->((ks.map bw).getD i (.a [])).ok:=fun i hi=>by
   rw[List.getD_eq_getElem?_getD,List.getElem?_map,List.getElem?_eq_getElem hi]
   exact ih _ (List.getElem_mem hi)
  rw[dM]
  cases hd with
  |num n =>
   show(Bw.a (bS n)).ok
   unfold Bw.ok
   obtain⟨a,r,e,_⟩:=gH (show 0<=n/\n<1000000 from ho)
   exact⟨by rw[e];simp,dg ho⟩
  |name x=>exact iP ho
  |gap n =>
   show(Bw.a (63::bS n)).ok
   unfold Bw.ok
   have hn:0<=n/\n<1000000:=⟨ho.1,by have:=ho.2;omega⟩
   exact⟨by simp,fun c hc=>(List.mem_cons.mp hc).elim (fun z=>by rw[z];unfold vV;omega) (dg hn c)⟩
  |op s=>exact two (kw (by have:s∈f7:=ho;unfold f7 at this;simp only[List.mem_cons,List.not_mem_nil,or_false]at this⊢;rcases this with h|h|h|h|h|h<;>simp[h])) kk
  |row=>exact two (kw (by simp)) kk
  |more=>exact two (kw (by simp)) kk
  |first=>exact two (kw (by simp)) kk
  |others=>exact two (kw (by simp)) kk
  |long=>exact two (kw (by simp)) kk
  |tag t =>
   refine Dq fun x hx=>(List.mem_cons.mp hx).elim (fun e=>?_) (kk x)
   rw[e]
   unfold Bw.ok
   exact⟨by simp,fun c hc=>(List.mem_append.mp hc).elim (Dp ho c) fun z=>by rw[List.mem_singleton.mp z];unfold vV;omega⟩
  |call f=>exact two (kw (by simp)) fun x hx=>(List.mem_cons.mp hx).elim (fun e=>by rw[e];exact iP ho) (kk x)
  |mat arms =>
   have ar':(ks.length == arms.length+1)=true:=ar
   have arl:ks.length=arms.length+1:=eq_of_beq ar'
   refine two (kw (by simp)) fun x hx=>?_
   rcases List.mem_cons.mp hx with rfl|hx
   ·cases ks with
    |nil=>cases arl
    |cons k r=>exact ih k (.head _)
   ·obtain⟨a,k,h1,h2,rfl⟩:=nY (a:=("",[])) hx
    exact HW (ho a h1).1 (ho a h1).2 (kk k (List.mem_of_mem_tail h2))
  |ife=>exact two (kw (by simp)) kk
  |lt x=>exact two (kw (by simp)) fun y hy=>(List.mem_cons.mp hy).elim (fun e=>by rw[e];exact iP ho) (kk y)
  |fold x y =>
   have ar':(ks.length == 3)=true:=ar
   have arl:ks.length=3:=eq_of_beq ar'
   refine two (kw (by simp)) fun z hz=>?_
   simp only[List.mem_cons,List.not_mem_nil,or_false]at hz
   rcases hz with rfl|rfl|rfl|rfl|rfl
   ·exact gt 0 (by omega)
   ·exact iP ho.1
   ·exact iP ho.2
   ·exact gt 1 (by omega)
   ·exact gt 2 (by omega)
end G09
namespace L2
open PySem PySem.Spec PyProof.Rows
section
variable {X:Cx}
theorem gk(K:PySem.W.Frag)(hK:X.K=K):gZ X (.builtin "isinstance") (fun xs H Q=>∃x,xs=[x,.ty "str"]/\((∃p ys,x=.ref p/\bf K H p ys/\Q (.bl false) H)\/(∃z,x=.str z/\Q (.bl true) H)\/∃z,x=.int z/\Q (.bl false) H)):=by
 subst hK
 intro pins s σ H xs us Q I r h
 obtain⟨x,rfl,h⟩:=h
 obtain⟨u,w',rfl,r1,r2⟩:=vals2 r
 obtain rfl:w'=Value.type "str":=r2
 rcases h with⟨p,ys,rfl,hq,q⟩|⟨z,rfl,q⟩|⟨z,rfl,q⟩
 ·obtain rfl:u=Value.ref p:=r1
  obtain⟨its,rv,pl,hz⟩:=I.tuple hq
  obtain⟨o,ho,hc,n,hd⟩:=pl
  exact IsiPair.tuple_str ho hc ⟨.bl false,H,I.tok _,rfl,q⟩
 ·obtain⟨t,rfl⟩:=r1
  exact IsiPair.str_str ⟨.bl true,H,I.tok _,rfl,q⟩
 ·obtain⟨t,rfl⟩:=r1
  exact IsiPair.int_str ⟨.bl false,H,I.tok _,rfl,q⟩
end
end L2
namespace G09
open PySem L2
theorem FA{tm:Tm}(h:lZ tm.hd=false):tv tm=.t [.s "term",enc tm]:=by
 obtain⟨ws,e⟩:=Dm h
 unfold tv
 rw[e]
noncomputable def jB(K:PySem.W.Frag):Sp:=fun vs H Q _=>∃(v:V) (tm:Tm),vs=[v]/\Rp K H (tv tm) v/\cX tm/\∀v' H',aL H H'->Rp K H' (enc tm) v'->Q v' H'
noncomputable def sW(K:PySem.W.Frag):Sp:=fun vs H Q _=>∃(p:Addr) (us:List V) (ks:List Tm),vs=[.ref p]/\H p=some (.lst us)/\aX K H (ks.map tv) us/\(∀k∈ks,cX k)/\ks.length<=900/\∀v' H',aL H H'->Rp K H' (.t (ks.map enc)) v'->Q v' H'
noncomputable def zW(K:PySem.W.Frag):Sp:=fun vs H Q _=>∃(v:V) (t:T),vs=[v]/\Rp K H (.t [.s "arm",t]) v/\∀v',Rp K H t v'->Q v' H
section
variable {P:Program}{w:World}{K:PySem.W.Frag}{mg:Str->Option Value}{base:Heap}{gF gB gN gT:Addr}{ffd bfd nfd tfd:FuncData}
theorem dQ:Nm ["item","sort","closed"] (ae jw):=by decide +kernel
theorem qZ:Lm ["item","sort","closed"] (ae jw):=by decide +kernel
theorem mY:aH ["item","sort","closed"] ["item"] (ae jw):=⟨rfl,rfl,rfl,by decide +kernel,rfl,by decide +kernel,by decide +kernel⟩
theorem Bh{f:Addr}{fd:FuncData}(F:eN K "term_of" "term_of" jw f fd)(IFG:bE P w K mg base "is_figures" 1 ["text","most"] uF gF ffd)(NB:bE P w K mg base "number_behind" 2 ["word"] yw gB bfd)(NO:bE P w K mg base "name_of" 2 ["item"] fc gN nfd)(z_isinstance:mg "isinstance"=none)(z_str:mg "str"=none)(z_int:mg "int"=none):bK P w K mg base d8 3 f fd ["item"] (jB K):=by
 refine F.ok mY (fun vs H Q E h=>?_) (fun cdv A outer s H vs Q E hr h=>?_)
 ·obtain⟨_,_,rfl,_⟩:=h
  rfl
 obtain⟨v,tm,rfl,r,ht,k⟩:=h
 refine⟨_,(Z4 (Z8 (@d9 _ _ _ _ (Zo (Z3 (gk K rfl) z_isinstance PyProof.Rows.boot_isinstance (Z1 (va dQ 0) (Z9 (Zg (v:=.ty "str") z_str)))))) (Z4 (@oF _ _ _ _ _ _ (va dQ 0) (Zh (2) (Zq (ga mY.nd qZ 1) (bW (ga mY.nd qZ 2) cM))) (by rfl) (by rfl) (by rfl)) (Z4 (Z8 (Zi ji (va dQ 1) ak) (aV b8)) (Zc (b7 (va dQ 2)))))) (Z4 (Z8 (Zo (Z0 IFG (dP (va dQ 0) (Z9 ao)))) (Zc (Zf (Zj (Z1 ak (Z1 (Z6 sO z_int PyProof.Rows.boot_int (Z9 (va dQ 0))) aj)))))) (Z4 (Z8 (Zo (cz PySem.F.plainAttrs_str PySem.F.slot_str_startswith PySem.F.type_str_startswith gp (va dQ 0) (Z9 ak) (hbase:=by kernel_rfl) (hfew:=by kernel_rfl) (hline:=by kernel_rfl) (hs:=by kernel_rfl) (hplain:=by kernel_rfl))) (Zc (Zf (Zj (Z1 ak (Z1 (Z0 NB (Z9 (va dQ 0))) aj)))))) (Zc (Zf (Zj (Z1 ak (Z1 (Z0 NO (Z9 (va dQ 0))) aj)))))))),?_⟩
 try dsimp only[aU]
 try dsimp only[aU]
 refine dR ?_
 intro N1 N2 N3 c1 c2 c3
 cases hleaf:lZ tm.hd with
 |false =>
  rw[FA hleaf]at r
  obtain⟨a,v1,v2,rfl,sq,g1,g2⟩:=r.t2
  obtain rfl:=g1.aG
  fail "R"
  refine .inl ⟨_,_,rfl,sq,?_⟩
  fail "R"
  exact k _ _ (aL.refl _) g2
 |true =>
  cases ht with
  |@mk hd ks ar ho hk =>
   cases hd with
   |num n =>
    obtain rfl:=(show Rp K H (.s (au (bS n))) v from r).aG
    have ho':0<=n/\n<1000000:=ho
    have fb:=wI ho'
    have e2:au (bS n)=Str.ofString (toString n):=az _
    obtain⟨da,dr,ed,_,_,_,dl⟩:=gH ho'
    have l3:(au (bS n)).length<=3000:=by rw[aI,ed,List.length_cons];omega
    fail "R"
    refine .inr (.inl ⟨_,rfl,?_⟩)
    fail "R"
    rw[aA,fb]
    intro H1 s1
    fail "R"
    intro p hp
    exact k _ _ (s1.trans (Zs hp)) (Rp.new (K:=K) hp (.cons .s (.one .i)))
   |gap n =>
    obtain rfl:=(show Rp K H (.s (au (63::bS n))) v from r).aG
    have ho':0<=n/\n<100:=ho
    have fb:pQ (63::bS n) 6=false:=jI (by omega)
    have l3:(au (63::bS n)).length<=3000:=by have:=fP ho';rw[aI,List.length_cons];omega
    have n2:Txt.startswith (au (63::bS n)) "?"=true:=by
     show Txt.startswith _ ⟨#[63]⟩=true
     rw[jO]
     rfl
    fail "R"
    refine .inr (.inl ⟨_,rfl,?_⟩)
    fail "R"
    rw[aA,fb]
    intro H1 s1
    fail "R"
    refine EW n2 ?_
    fail "R"
    intro H2 s2
    fail "R"
    intro p hp
    exact k _ _ ((s1.trans s2).trans (Zs hp)) (Rp.new (K:=K) hp (.cons .s (.one .i)))
   |name x =>
    have hx:bx x:=ho
    have ex:au x.cps.toList=x:=az x
    obtain rfl:=(show Rp K H (.s (au x.cps.toList)) v from r).aG
    rw[ex]
    obtain⟨c0,r0,e0⟩:∃c0 r0,x.cps.toList=c0::r0:=by
     cases e:x.cps.toList with
     |nil=>exact absurd e (kP hx)
     |cons c r=>exact⟨c,r,rfl⟩
    have lw:=hx.2.2.1 c0 (by rw[e0];exact .head _)
    have lw':97<=c0/\c0<=122:=lw
    have fb:pQ x.cps.toList 6=false:=by rw[e0];exact jI (by omega)
    have l3:x.length<=3000:=by have:=hx.2.1;omega
    have n2:Txt.startswith x "?"=false:=by
     show Txt.startswith x ⟨#[63]⟩=false
     rw[←ex,jO,e0]
     exact decide_eq_false (by simp;omega)
    fail "R"
    refine .inr (.inl ⟨_,rfl,?_⟩)
    fail "R"
    rw[fb]
    intro H1 s1
    fail "R"
    refine rR n2 ?_
    fail "R"
    intro H2 s2
    fail "R"
    intro p hp
    exact k _ _ ((s1.trans s2).trans (Zs hp)) (Rp.new (K:=K) hp (.cons .s (.one .s)))
   |_=>cases hleaf
theorem wJ:Nm ["items"] (ae iJ):=by decide +kernel
theorem wK:aH ["items"] ["items"] (ae iJ):=⟨rfl,rfl,rfl,by decide +kernel,rfl,by decide +kernel,by decide +kernel⟩
theorem yF{f:Addr}{fd:FuncData}(F:eN K "terms_of" "terms_of" iJ f fd)(TO:bE P w K mg base "term_of" 3 ["item"] (jB K) gT tfd)(z_tuple:mg "tuple"=none):bK P w K mg base d8 4 f fd ["items"] (sW K):=by
 refine F.ok wK (fun vs H Q E h=>?_) (fun cdv A outer s H vs Q E hr h=>?_)
 ·obtain⟨_,_,_,rfl,_⟩:=h
  rfl
 obtain⟨p,us,ks,rfl,hp,r,ht,hn,k⟩:=h
 refine⟨_,(Zc (Zf (Z6 aZ z_tuple PyProof.Rows.boot_tuple (Z1 (Za (ae iJ) ["items"] ["item"] (fJ (va wJ 0)) (fun _ _ _ _=>(Z2 (i:=0) (show(["item"]:List Str).Nodup by decide +kernel))) (fun _ _ _ _=>(Z0 TO (Z9 (va (show Nm ["item"] _ by show _=_;kernel_rfl) 0))))) aj)))),?_⟩
 try dsimp only[aU]
 try dsimp only[aU]
 have hsl:bB K H p us:=bB.of hp
 fail "R"
 refine jy (K:=K) (e:=tv) (φ:=fun t=>[enc t]) (ps:=ks) (fun σ=>∃x,σ=[x]) hp r hn (fun _=>Nat.le_refl _) ⟨_,rfl⟩ ?_ ?_
 ·rintro q hq x σ H2 N s2 ⟨y,rfl⟩ rx kN
  have tq:=ht q hq
  fail "R"
  intro v' H3 s3 r3
  exact kN _ _ _ ⟨⟨_,rfl⟩,s3,.one r3⟩
 ·intro l H' us' s3 hl h3 r3
  rw[cH]at r3
  have lus:=r3.length
  have lus2:us'.length<=sizeLine:=small (by rw[lus,List.length_map];omega)
  fail "R"
  refine .inl ⟨bB.of h3,fun p4 hp4=>?_⟩
  exact k _ _ (s3.trans (Zs hp4)) (Rp.new (K:=K) hp4 r3)
theorem oW:Nm ["item"] (ae nO):=by decide +kernel
theorem Bj:aH ["item"] ["item"] (ae nO):=⟨rfl,rfl,rfl,by decide +kernel,rfl,by decide +kernel,by decide +kernel⟩
theorem Dr{f:Addr}{fd:FuncData}(F:eN K "arm_of" "arm_of" nO f fd)(z_isinstance:mg "isinstance"=none)(z_str:mg "str"=none):bK P w K mg base d8 1 f fd ["item"] (zW K):=by
 refine F.ok Bj (fun vs H Q E h=>?_) (fun cdv A outer s H vs Q E hr h=>?_)
 ·obtain⟨_,_,rfl,_⟩:=h
  rfl
 obtain⟨v,t,rfl,r,k⟩:=h
 refine⟨_,(Z4 (Z8 (PW.pt (@iF _ _ _ _ _ _ _ (Zo (Z3 (gk K rfl) z_isinstance PyProof.Rows.boot_isinstance (Z1 (va oW 0) (Z9 (Zg (v:=.ty "str") z_str))))) (@f9 _ _ _ _ (Zr ji (Zb bH (va oW 0)) ak)))) (aV b8)) (Zc (Zf (Zb bH (va oW 0))))),?_⟩
 try dsimp only[aU]
 try dsimp only[aU]
 obtain⟨a,v1,v2,rfl,sq,g1,g2⟩:=r.t2
 obtain rfl:=g1.aG
 refine gq ?_
 intro N1 c1
 fail "R"
 refine .inl ⟨_,_,rfl,sq,?_⟩
 fail "R"
 exact k _ g2
end
noncomputable abbrev Sx:=Tm ⊕ Str
noncomputable def j4:Sx->V
 |.inl _=>.str "term"
 |.inr _=>.str "name"
noncomputable def Er:Sx->T
 |.inl t=>tv t
 |.inr x=>.s x
noncomputable def resT:Sx->T
 |.inl t=>enc t
 |.inr x=>.s x
noncomputable def uL:Sx->Prop
 |.inl t=>cX t
 |.inr x=>bx x
noncomputable def wL(K:PySem.W.Frag):Sp:=fun vs H Q _=>∃(ps pi:Addr) (us:List V) (xs:List Sx),vs=[.ref ps,.ref pi]/\bf K H ps (xs.map j4)/\H pi=some (.lst us)/\aX K H (xs.map Er) us/\(∀x∈xs,uL x)/\xs.length<=10/\∀v' H',aL H H'->Rp K H' (.t (xs.map resT)) v'->Q v' H'
structure Ma(K:PySem.W.Frag) (H:Hp) (ts:List T) (us:List V) (H5:Hp):Prop where
 s:aL H H5
 r:aX K H5 ts us
section
variable {P:Program}{w:World}{K:PySem.W.Frag}{mg:Str->Option Value}{base:Heap}{gT gN:Addr}{tfd nfd:FuncData}
theorem lD:Nm ["shape","items"] (ae kG):=by decide +kernel
theorem Bk:aH ["shape","items"] ["shape","items"] (ae kG):=⟨rfl,rfl,rfl,by decide +kernel,rfl,by decide +kernel,by decide +kernel⟩
theorem Bl{f:Addr}{fd:FuncData}(F:eN K "shaped" "shaped" kG f fd)(TO:bE P w K mg base "term_of" 3 ["item"] (jB K) gT tfd)(NO:bE P w K mg base "name_of" 2 ["item"] fc gN nfd)(z_tuple:mg "tuple"=none)(z_len:mg "len"=none)(z_zip:mg "zip"=none):bK P w K mg base d8 4 f fd ["shape","items"] (wL K):=by
 refine F.ok Bk (fun vs H Q E h=>?_) (fun cdv A outer s H vs Q E hr h=>?_)
 ·obtain⟨_,_,_,_,rfl,_⟩:=h
  rfl
 obtain⟨ps,pi,us,xs,rfl,hS,hI,r,ho,hn,k⟩:=h
 refine⟨_,(Z4 (Z8 (Zr ji (Z3 aY z_len PySem.boot_len (Z9 (va lD 1))) (Z3 aY z_len PySem.boot_len (Z9 (va lD 0)))) (aV b8)) (Zc (Zf (Z6 aZ z_tuple PyProof.Rows.boot_tuple (Z1 (Za (ae kG) ["shape","items"] ["sort","item"] (yp K rfl (by show _=_;kernel_rfl) z_zip (Z1 (va lD 0) (Z9 (va lD 1)))) (fun _ _ _ _=>(Zh (2) (Zq (Z2 (i:=0) (show(["sort","item"]:List Str).Nodup by decide +kernel)) (bW (Z2 (i:=1) (show(["sort","item"]:List Str).Nodup by decide +kernel)) cM)))) (fun _ _ _ _=>(@vy _ _ _ _ _ _ _ _ (Zi b9 (va (show Nm ["sort","item"] _ by show _=_;kernel_rfl) 0) ak) (Z0 TO (Z9 (va (show Nm ["sort","item"] _ by show _=_;kernel_rfl) 1))) (Z0 NO (Z9 (va (show Nm ["sort","item"] _ by show _=_;kernel_rfl) 1)))))) aj))))),?_⟩
 try dsimp only[aU]
 try dsimp only[aU]
 have lus:=r.length
 rw[List.length_map]at lus
 have e1:((us.length:Nat):Int)=(((xs.map j4).length:Nat):Int):=by rw[lus,List.length_map]
 have hb1:nj K true H ps (xs.map j4):=hS
 have hb2:nj K false H pi us:=bB.of hI
 have h1:bB K H pi us\/bf K H pi us:=.inl (bB.of hI)
 have h2:bB K H ps (xs.map j4)\/bf K H ps (xs.map j4):=.inr hS
 refine gq ?_
 intro N1 c1
 fail "R"
 refine rR (by rw[e1,decide_eq_true rfl];rfl) ?_
 fail "R"
 refine qP (K:=K) (xs:=xs.map j4) (ys:=us) (fun i σ ws H5=>(∃x y,σ=[x,y])/\Ma K H ((xs.take i).map resT) ws H5) ⟨⟨_,_,rfl⟩,⟨aL.refl _,.nil⟩⟩ ?_ (small (by rw[List.length_map,lus];omega)) ?_ ?_ ?_ ?_
 ·rintro i σ ws H5 hi ⟨_,⟨_,r5⟩⟩
  rw[r5.length,List.length_map,List.length_take]
  exact Nat.min_le_left _ _
 ·rintro i σ ws H5 hi ⟨_,⟨s5,_⟩⟩
  exact hS.same s5
 ·rintro i σ ws H5 hi ⟨_,⟨s5,_⟩⟩
  exact bB.of (s5 _ _ hI)
 ·rintro i x y σ ws H5 p6 hx hy ⟨⟨_,_,rfl⟩,⟨s5,r5⟩⟩ hp6
  rw[List.getElem?_map]at hx
  obtain⟨z,hz,rfl⟩:=Option.map_eq_some_iff.mp hx
  obtain⟨t6,ht6,ry⟩:=r.get' hy
  rw[List.getElem?_map,hz]at ht6
  obtain rfl:Er z=t6:=Option.some.inj ht6
  have hil:=(List.getElem?_eq_some_iff.mp hz).1
  have etk:xs.take (i+1)=xs.take i++[z]:=by rw[List.take_succ_eq_append_getElem hil,(List.getElem?_eq_some_iff.mp hz).2]
  have s6:=ah hp6 (.tup [j4 z,y])
  have h6:upd H5 p6 (.tup [j4 z,y]) p6=some (.tup [j4 z,y]):=aa
  have ry6:=ry.same (s5.trans s6)
  have r6:=r5.same s6
  generalize upd H5 p6 (.tup [j4 z,y])=H6 at s6 h6 ry6 r6⊢
  have s06:=s5.trans s6
  have oz:=ho z (List.mem_of_getElem? hz)
  rw[etk,List.map_append]
  cases z with
  |inl t =>
   have ot:cX t:=oz
   fail "R"
   intro v' H7 s7 r7
   fail "R"
   exact⟨s06.trans s7,(r6.same s7).append (.one r7)⟩
  |inr x =>
   have ox:bx x:=oz
   obtain rfl:=(show Rp K H6 (.s x) y from ry6).aG
   fail "R"
   intro H7 s7
   fail "R"
   exact⟨s06.trans s7,(r6.same s7).append (.one .s)⟩
 ·rintro σ ws H5 ⟨_,⟨s5,r5⟩⟩ p6 hp6
  rw[List.length_map,lus,Nat.min_self,List.take_length]at r5
  have s6:=ah hp6 (.lst ws)
  have h6:upd H5 p6 (.lst ws) p6=some (.lst ws):=aa
  have r6:=r5.same s6
  generalize upd H5 p6 (.lst ws)=H6 at s6 h6 r6⊢
  fail "R"
  refine .inl ⟨bB.of h6,fun p7 hp7=>?_⟩
  exact k _ _ ((s5.trans s6).trans (Zs hp7)) (Rp.new (K:=K) hp7 r6)
end
noncomputable def wM(x:Str):Int:=(PySem.intText? x).getD 0
noncomputable def bT:T->T
 |.t [_,x]=>x
 |.s x=>if pQ x.cps.toList 6=true then .t [.s "num",.i (wM x)]else if x.cps.toList[0]?=some 63 then .t [.s "gap",.i (wM (au x.cps.toList.tail))]else .t [.s "name",.s x]
 |t=>t
theorem uM(x:Str):bT (.s x)=if pQ x.cps.toList 6=true then .t [.s "num",.i (wM x)]else if x.cps.toList[0]?=some 63 then .t [.s "gap",.i (wM (au x.cps.toList.tail))]else .t [.s "name",.s x]:=rfl
noncomputable def Ds:T->T
 |.t [_,x]=>x
 |t=>t
noncomputable def plainS:List Str:=["more","first","others","long","if"]
noncomputable def gU:List T->T
 |.s hd::r =>
  if hd∈f7 then .t [.s "term",.t (.s "op"::.s hd::r.map bT)]
  else if hd∈plainS then .t [.s "term",.t (.s hd::r.map bT)]
  else if hd="let" then .t [.s "term",.t (.s "let"::r.headD .n::r.tail.map bT)]
  else if hd="fold" then .t [.s "term",.t [.s "fold",bT (r.getD 0 .n),r.getD 1 .n,r.getD 2 .n,bT (r.getD 3 .n),bT (r.getD 4 .n)]]
  else if hd="row" then .t [.s "term",.t [.s "row",.t (r.map bT)]]
  else if hd="call" then .t [.s "term",.t [.s "call",r.headD .n,.t (r.tail.map bT)]]
  else if hd="match" then .t [.s "term",.t [.s "match",bT (r.headD .n),.t (r.tail.map Ds)]]
  else if hd.cps.toList.getLast?=some 58 then .t [.s "term",.t [.s "tag",.s (au hd.cps.toList.dropLast),.t (r.map bT)]]
  else .t [.s "arm",.t [.s hd,.t r.dropLast,bT (r.getLast?.getD .n)]]
 |_=>.n
mutual
noncomputable def val:Bw->T
 |.a w=>.s (au w)
 |.g _ ws=>gU (vals ws)
noncomputable def vals:List Bw->List T
 | []=>[]
 |x::r=>val x::vals r
end
theorem wN:∀ws:List Bw,vals ws=ws.map val
 | []=>rfl
 |x::r=>by unfold vals;rw[wN r];rfl
theorem jC(o:Nat)(ws:List Bw):val (.g o ws)=gU (ws.map val):=by unfold val;rw[wN]
theorem cA(x:Str):val (bF x)=.s x:=by unfold bF val;rw[az]
theorem lE{tm:Tm}(h:cX tm):bT (tv tm)=enc tm:=by
 cases hl:lZ tm.hd with
 |false=>rw[FA hl];rfl
 |true =>
  cases h with
  |@mk hd ks ar ho hk =>
   cases hd with
   |num n =>
    have ho':0<=n/\n<1000000:=ho
    show bT (.s (au (bS n)))=.t [.s "num",.i n]
    rw[uM,aA,if_pos (wI ho')]
    have:wM (au (bS n))=n:=by
     unfold wM
     rw[show au (bS n)=Str.ofString (toString n)from az _,PySem.W.KIN.num_reads ho'.1 (by omega)]
     rfl
    rw[this]
   |name x =>
    have hx:bx x:=ho
    show bT (.s (au x.cps.toList))=.t [.s "name",.s x]
    rw[az]
    obtain⟨c0,r0,e0⟩:∃c0 r0,x.cps.toList=c0::r0:=by
     cases e:x.cps.toList with
     |nil=>exact absurd e (kP hx)
     |cons c r=>exact⟨c,r,rfl⟩
    have lw:97<=c0/\c0<=122:=hx.2.2.1 c0 (by rw[e0];exact .head _)
    rw[uM,e0,if_neg (by rw[jI (by omega)];simp),if_neg (by simp;omega)]
   |gap n =>
    have ho':0<=n/\n<100:=ho
    show bT (.s (au (63::bS n)))=.t [.s "gap",.i n]
    rw[uM,aA,if_neg (by rw[jI (by omega)];simp),if_pos (show(63::bS n)[0]?=some 63 from rfl)]
    have:wM (au (63::bS n).tail)=n:=by
     unfold wM
     rw[show au (63::bS n).tail=Str.ofString (toString n)from az _,PySem.W.KIN.num_reads ho'.1 (by omega)]
     rfl
    rw[this]
   |_=>cases hl
theorem kQ{x:Str}(h:bx x){s:Str}(hs:s∈jm):x≠s:=fun e=>h.2.2.2 (e▸hs)
theorem Dt{x:Str}(h:bx x):x∉f7:=fun hx=>by
 have all:∀s∈f7,∃c∈s.cps.toList,¬(97<=c/\c<=122):=by decide +kernel
 obtain⟨c,hc,hn⟩:=all x hx
 exact hn (h.2.2.1 c hc)
theorem zX{x:Str}(h:bx x):x.cps.toList.getLast?≠some 58:=fun e=>by
 have:=h.2.2.1 58 (List.mem_of_getLast? e)
 unfold low at this
 omega
theorem gJ(hd:Str)(r:List T):gU (.s hd::r)=(if hd∈f7 then .t [.s "term",.t (.s "op"::.s hd::r.map bT)]
  else if hd∈plainS then .t [.s "term",.t (.s hd::r.map bT)]
  else if hd="let" then .t [.s "term",.t (.s "let"::r.headD .n::r.tail.map bT)]
  else if hd="fold" then .t [.s "term",.t [.s "fold",bT (r.getD 0 .n),r.getD 1 .n,r.getD 2 .n,bT (r.getD 3 .n),bT (r.getD 4 .n)]]
  else if hd="row" then .t [.s "term",.t [.s "row",.t (r.map bT)]]
  else if hd="call" then .t [.s "term",.t [.s "call",r.headD .n,.t (r.tail.map bT)]]
  else if hd="match" then .t [.s "term",.t [.s "match",bT (r.headD .n),.t (r.tail.map Ds)]]
  else if hd.cps.toList.getLast?=some 58 then .t [.s "term",.t [.s "tag",.s (au hd.cps.toList.dropLast),.t (r.map bT)]]
  else .t [.s "arm",.t [.s hd,.t r.dropLast,bT (r.getLast?.getD .n)]]):=rfl
theorem Du{hd:Str}{r:List T}(h:hd∈f7):gU (.s hd::r)=.t [.s "term",.t (.s "op"::.s hd::r.map bT)]:=by
 rw[gJ,if_pos h]
theorem gQ{hd:Str}{r:List T}(h0:hd∉f7)(h:hd∈plainS):gU (.s hd::r)=.t [.s "term",.t (.s hd::r.map bT)]:=by
 rw[gJ,if_neg h0,if_pos h]
theorem Bm{r:List T}:gU (.s "let"::r)=.t [.s "term",.t (.s "let"::r.headD .n::r.tail.map bT)]:=by
 rw[gJ,if_neg (by decide +kernel),if_neg (by decide +kernel),if_pos rfl]
theorem yG{r:List T}:gU (.s "fold"::r)=.t [.s "term",.t [.s "fold",bT (r.getD 0 .n),r.getD 1 .n,r.getD 2 .n,bT (r.getD 3 .n),bT (r.getD 4 .n)]]:=by
 rw[gJ,if_neg (by decide +kernel),if_neg (by decide +kernel),if_neg (by decide +kernel),if_pos rfl]
theorem Bo{r:List T}:gU (.s "row"::r)=.t [.s "term",.t [.s "row",.t (r.map bT)]]:=by
 rw[gJ,if_neg (by decide +kernel),if_neg (by decide +kernel),if_neg (by decide +kernel),if_neg (by decide +kernel),if_pos rfl]
theorem yH{r:List T}:gU (.s "call"::r)=.t [.s "term",.t [.s "call",r.headD .n,.t (r.tail.map bT)]]:=by
 rw[gJ,if_neg (by decide +kernel),if_neg (by decide +kernel),if_neg (by decide +kernel),if_neg (by decide +kernel),if_neg (by decide +kernel),if_pos rfl]
theorem wO{r:List T}:gU (.s "match"::r)=.t [.s "term",.t [.s "match",bT (r.headD .n),.t (r.tail.map Ds)]]:=by
 rw[gJ,if_neg (by decide +kernel),if_neg (by decide +kernel),if_neg (by decide +kernel),if_neg (by decide +kernel),if_neg (by decide +kernel),if_neg (by decide +kernel),if_pos rfl]
theorem rf{hd:Str}{r:List T}(h1:hd∉f7)(h2:hd∉plainS)(h3:hd≠"let")(h4:hd≠"fold")(h5:hd≠"row")(h6:hd≠"call")(h7:hd≠"match"):gU (.s hd::r) =
  if hd.cps.toList.getLast?=some 58 then .t [.s "term",.t [.s "tag",.s (au hd.cps.toList.dropLast),.t (r.map bT)]]else .t [.s "arm",.t [.s hd,.t r.dropLast,bT (r.getLast?.getD .n)]]:=by
 rw[gJ,if_neg h1,if_neg h2,if_neg h3,if_neg h4,if_neg h5,if_neg h6,if_neg h7]
theorem Dv{x:Str}(h:bx x):x∉plainS:=fun hx=>by
 have all:∀s∈plainS,s∈jm:=by decide +kernel
 exact h.2.2.2 (all x hx)
theorem uN{a:Str×List Str}{k:Tm}(h1:bx a.1)(hk:cX k)(ih:val (bw k)=tv k):val (cW a (bw k))=.t [.s "arm",jd a (enc k)]:=by
 unfold cW
 rw[jC,List.map_cons,cA,rf (Dt h1) (Dv h1) (kQ h1 (by decide +kernel)) (kQ h1 (by decide +kernel)) (kQ h1 (by decide +kernel)) (kQ h1 (by decide +kernel)) (kQ h1 (by decide +kernel)),if_neg (zX h1)]
 have e:(a.2.map bF++[bw k]).map val=a.2.map T.s++[tv k]:=by
  rw[List.map_append,List.map_map]
  show a.2.map (val ∘ bF)++[val (bw k)]=_
  rw[ih]
  congr 1
 rw[e,List.dropLast_concat,List.getLast?_concat,Option.getD_some,lE hk]
 rfl
theorem wQ{ks:List Tm}(ih:∀k∈ks,val (bw k)=tv k):(ks.map bw).map val=ks.map tv:=by
 rw[List.map_map]
 exact List.map_congr_left fun k hk=>ih k hk
theorem Bp{ks:List Tm}(h:∀k∈ks,cX k):(ks.map tv).map bT=ks.map enc:=by
 rw[List.map_map]
 exact List.map_congr_left fun k hk=>lE (h k hk)
theorem wR:∀{arms:List (Str×List Str)}{ks:List Tm},(∀a∈arms,bx a.1)->(∀k∈ks,cX k/\val (bw k)=tv k)->((List.zipWith cW arms (ks.map bw)).map val).map Ds=List.zipWith jd arms (ks.map enc)
 | [],_,_,_=>by simp
 |_::_,[],_,_=>by simp
 |a::r,k::q,h1,h2=>by
  have ih:=wR (arms:=r) (ks:=q) (fun b hb=>h1 b (.tail _ hb)) fun b hb=>h2 b (.tail _ hb)
  obtain⟨ok,ev⟩:=h2 k (.head _)
  rw[List.map_cons,List.zipWith_cons_cons,List.map_cons,List.map_cons,ih,uN (h1 a (.head _)) ok ev,List.map_cons,List.zipWith_cons_cons]
  rfl
theorem je{tm:Tm}(h:cX tm):val (bw tm)=tv tm:=by
 induction h with
 |@mk hd ks ar ho hk ih =>
  have kv:=wQ ih
  have kt:=Bp hk
  cases hl:lZ hd with
  |true =>
   obtain⟨w,e⟩:=zV (tm:=.mk hd ks) hl
   unfold tv
   rw[e]
   rfl
  |false =>
   rw[FA (tm:=.mk hd ks) hl,dM,cS]
   cases hd with
   |num n=>cases hl
   |name x=>cases hl
   |gap n=>cases hl
   |op s=>show val (.g 40 (bF s::ks.map bw))=_;rw[jC,List.map_cons,cA,kv,Du ho,kt];rfl
   |row=>show val (.g 40 (bF "row"::ks.map bw))=_;rw[jC,List.map_cons,cA,kv,Bo,kt];rfl
   |more=>show val (.g 40 (bF "more"::ks.map bw))=_;rw[jC,List.map_cons,cA,kv,gQ (by decide +kernel) (by decide +kernel),kt];rfl
   |first=>show val (.g 40 (bF "first"::ks.map bw))=_;rw[jC,List.map_cons,cA,kv,gQ (by decide +kernel) (by decide +kernel),kt];rfl
   |others=>show val (.g 40 (bF "others"::ks.map bw))=_;rw[jC,List.map_cons,cA,kv,gQ (by decide +kernel) (by decide +kernel),kt];rfl
   |long=>show val (.g 40 (bF "long"::ks.map bw))=_;rw[jC,List.map_cons,cA,kv,gQ (by decide +kernel) (by decide +kernel),kt];rfl
   |ife=>show val (.g 40 (bF "if"::ks.map bw))=_;rw[jC,List.map_cons,cA,kv,gQ (by decide +kernel) (by decide +kernel),kt];rfl
   |call f=>show val (.g 40 (bF "call"::bF f::ks.map bw))=_;rw[jC,List.map_cons,List.map_cons,cA,cA,kv,yH];show T.t [.s "term",.t [.s "call",.s f,.t ((ks.map tv).map bT)]]=_;rw[kt];rfl
   |lt x=>show val (.g 40 (bF "let"::bF x::ks.map bw))=_;rw[jC,List.map_cons,List.map_cons,cA,cA,kv,Bm];show T.t [.s "term",.t (.s "let"::.s x::(ks.map tv).map bT)]=_;rw[kt];rfl
   |tag t =>
    have ht:bx t:=ho
    show val (.g 40 (.a (t.cps.toList++[58])::ks.map bw))=_
    have e1:val (.a (t.cps.toList++[58]))=.s (au (t.cps.toList++[58])):=rfl
    have l58:(au (t.cps.toList++[58])).cps.toList.getLast?=some 58:=by rw[aA];simp
    have n58:∀s:Str,s.cps.toList.getLast?≠some 58->au (t.cps.toList++[58])≠s:=fun s hs e=>hs (e▸l58)
    have two:2<=(au (t.cps.toList++[58])).length:=by
     rw[aI,List.length_append]
     have:=ht.1
     have e:t.cps.toList.length=t.length:=by show _=t.cps.size;simp
     rw[e]
     show 2<=t.length+1
     omega
    have o1:au (t.cps.toList++[58])∉f7:=fun hx=>by
     have all:∀s∈f7,s.length=1:=by decide +kernel
     have:=all _ hx
     omega
    have o2:au (t.cps.toList++[58])∉plainS:=fun hx=>by
     have all:∀s∈plainS,s.cps.toList.getLast?≠some 58:=by decide +kernel
     exact all _ hx l58
    rw[jC,List.map_cons,e1,kv,rf o1 o2 (n58 _ (by decide +kernel)) (n58 _ (by decide +kernel)) (n58 _ (by decide +kernel)) (n58 _ (by decide +kernel)) (n58 _ (by decide +kernel)),if_pos l58,kt,aA,List.dropLast_concat,az]
    rfl
   |mat arms =>
    have arl:ks.length=arms.length+1:=eq_of_beq (show(ks.length == arms.length+1)=true from ar)
    cases ks with
    |nil=>cases arl
    |cons k r =>
     show val (.g 40 (bF "match"::bw k::List.zipWith cW arms (r.map bw)))=_
     rw[jC,List.map_cons,List.map_cons,cA,ih k (.head _),wO]
     show T.t [.s "term",.t [.s "match",bT (tv k),.t (((List.zipWith cW arms (r.map bw)).map val).map Ds)]]=_
     rw[lE (hk k (.head _)),wR (fun a ha=>(ho a ha).1) fun q hq=>⟨hk q (.tail _ hq),ih q (.tail _ hq)⟩]
     rfl
   |fold x y =>
    have arl:ks.length=3:=eq_of_beq (show(ks.length == 3)=true from ar)
    match ks,arl,ih,hk with
    | [k1,k2,k3],_,ih,hk =>
     show val (.g 40 [bF "fold",bw k1,bF x,bF y,bw k2,bw k3])=_
     rw[jC]
     show gU [val (bF "fold"),val (bw k1),val (bF x),val (bF y),val (bw k2),val (bw k3)]=_
     rw[cA,cA,cA,ih k1 (by simp),ih k2 (by simp),ih k3 (by simp),yG]
     show T.t [.s "term",.t [.s "fold",bT (tv k1),.s x,.s y,bT (tv k2),bT (tv k3)]]=_
     rw[lE (hk k1 (by simp)),lE (hk k2 (by simp)),lE (hk k3 (by simp))]
     rfl
end G09
namespace L2
open PySem PySem.Spec PyProof.Rows
theorem wU{X:Cx}:Cf X "str.endswith" (fun x vs H Q=>∃z y,x=.str z/\vs=[.str y]/\Q (.bl (Txt.endswith z y)) H):=by
 intro pins s σ H x xs v us Q I rx rs h
 obtain⟨z,y,rfl,rfl,q⟩:=h
 obtain⟨t,rfl⟩:=rx
 obtain⟨u,rfl,t',rfl⟩:=vals1 rs
 exact call_gives F.slot_str_endswith (typeIs_str _ _ _) F.entry_str_endswith (F.args_str_endswith_2 _ _) (gives_str_endswith z y t t') ⟨.bl _,H,I,rfl,q⟩
theorem wW(l:List Nat)(k:Nat):Txt.endswith (au l) ⟨#[k]⟩=decide (l.getLast?=some k):=by
 have h:=StrLaws.subAt_one (au l) k ((au l).length-1)
 rw[aA]at h
 have e0:l.getLast?=l[(au l).length-1]?:=by rw[List.getLast?_eq_getElem?,aI]
 show(decide (0+1<=(au l).length)&&Builtin.Str.subAt (au l) ⟨#[k]⟩ ((au l).length-1))=_
 by_cases e:l[(au l).length-1]?=some k
 ·have h1:=h.mpr e
  have hl:0+1<=(au l).length:=by
   have:=h1.1
   have z:(au l).length-1+1<=(au l).length:=this
   omega
  rw[e0,decide_eq_true e,decide_eq_true hl,h1.2]
  rfl
 ·rw[e0,decide_eq_false e]
  by_cases hl:0+1<=(au l).length
  ·cases h2:Builtin.Str.subAt (au l) ⟨#[k]⟩ ((au l).length-1)with
   |false=>rw[Bool.and_false]
   |true=>exact absurd (h.mp ⟨by show(au l).length-1+1<=_;omega,h2⟩) e
  ·rw[decide_eq_false hl]
   rfl
end L2
namespace G09
open PySem L2
theorem iS{α:Type}(v:α)(q:List α):cK (v::q) 0=some v:=bh (j:=0) rfl
theorem fF(v:V)(q:List V):fH (v::q) (some 1) none=q:=lA (v::q) 1
theorem JV{s hd:Str}(h:bF s=.a hd.cps.toList):hd=s:=by
 injection h with e
 rw[←az hd,←e,az]
noncomputable abbrev wX:List V:=f7.map V.str
theorem HX{x:Str}(h:x∈f7):nh (.str x) wX=true:=by
 unfold nh
 rw[List.any_eq_true]
 exact⟨.str x,List.mem_map_of_mem h,show(x == x)=true from beq_self_eq_true x⟩
theorem ir{x:Str}(h:x∉f7):nh (.str x) wX=false:=by
 unfold nh
 rw[List.any_eq_false]
 intro y hy e
 obtain⟨z,hz,rfl⟩:=List.mem_map.mp hy
 have:z=x:=eq_of_beq (show(z == x)=true from e)
 exact h (this▸hz)
theorem wY:wX.all dI=true:=by decide +kernel
noncomputable def jS(s1 s2 s3 s4 s5 s6 s7:Addr):List (Str×V):=[("more",.ref s1),("first",.ref s2),("others",.ref s3),("long",.ref s4),("if",.ref s5),("let",.ref s6),("fold",.ref s7)]
noncomputable def oX:List Str:=["more","first","others","long","if","let","fold"]
theorem wZ{x:Str}(s1 s2 s3 s4 s5 s6 s7:Addr)(h:x∉oX):(jS s1 s2 s3 s4 s5 s6 s7).lookup x=none:=by
 have n:∀s∈oX,(x == s)=false:=fun s hs=>beq_eq_false_iff_ne.mpr fun e=>h (e▸hs)
 unfold jS
 simp only[List.lookup_cons,n _ (show("more":Str)∈oX by decide +kernel),n _ (show("first":Str)∈oX by decide +kernel),n _ (show("others":Str)∈oX by decide +kernel),n _ (show("long":Str)∈oX by decide +kernel),n _ (show("if":Str)∈oX by decide +kernel),n _ (show("let":Str)∈oX by decide +kernel),n _ (show("fold":Str)∈oX by decide +kernel)]
 rfl
theorem w5:∀s∈oX,s∈jm:=by decide +kernel
theorem jT:∀s∈oX,s∉f7:=by decide +kernel
theorem HY{x:Str}(h:bx x):x∉oX:=fun hx=>h.2.2.2 (w5 x hx)
theorem iQ{h:Hd}{ks:List Tm}{hd:Str}{ws:List Bw}{s:Str}{l:List Bw}(e:JS h (ks.map bw)=.g 40 (bF s::l))(eb:bw (.mk h ks)=.g 40 (.a hd.cps.toList::ws)):hd=s/\ws=l:=by
 rw[dM,e]at eb
 injection eb with _ e2
 injection e2 with e3 e4
 exact⟨JV e3,e4.symm⟩
theorem FE{ks:List Tm}{hd:Str}{ws:List Bw}{t:Str}(eb:bw (.mk (.tag t) ks)=.g 40 (.a hd.cps.toList::ws)):hd=au (t.cps.toList++[58])/\ws=ks.map bw:=by
 rw[dM]at eb
 injection eb with _ e2
 injection e2 with e3 e4
 injection e3 with e5
 exact⟨by rw[e5,az],e4.symm⟩
theorem Bq{t:Str}(ht:bx t):au (t.cps.toList++[58])∉f7/\au (t.cps.toList++[58])∉oX/\au (t.cps.toList++[58])∉jm/\Txt.endswith (au (t.cps.toList++[58])) ":"=true:=by
 have l58:(au (t.cps.toList++[58])).cps.toList.getLast?=some 58:=by rw[aA];simp
 have two:2<=(au (t.cps.toList++[58])).length:=by
  rw[aI,List.length_append]
  have:=ht.1
  have e:t.cps.toList.length=t.length:=by show _=t.cps.size;simp
  rw[e]
  show 2<=t.length+1
  omega
 have k:au (t.cps.toList++[58])∉jm:=fun hx=>by
  have all:∀s∈jm,s.cps.toList.getLast?≠some 58:=by decide +kernel
  exact all _ hx l58
 refine⟨fun hx=>?_,fun hx=>k (w5 _ hx),k,?_⟩
 ·have all:∀s∈f7,s.length=1:=by decide +kernel
  have:=all _ hx
  omega
 ·show Txt.endswith _ ⟨#[58]⟩=true
  rw[wW]
  exact decide_eq_true (by simp)
theorem Br{x:Str}(h:bx x):Txt.endswith x ":"=false:=by
 rw[←az x]
 show Txt.endswith _ ⟨#[58]⟩=false
 rw[wW]
 exact decide_eq_false (zX h)
theorem Je{x s:Str}(h:x≠s):decide (V.str x=V.str s)=false:=decide_eq_false fun e=>h (by injection e)
end G09
namespace G09
theorem Kx{α:Type}{l:List α}(h:l.length=1):∃a,l=[a]:=by
 cases l with
 |nil=>cases h
 |cons a r=>exact⟨a,by rw[List.length_eq_zero_iff.mp (Nat.succ.inj h)]⟩
theorem JW{α:Type}{l:List α}(h:l.length=2):∃a b,l=[a,b]:=by
 cases l with
 |nil=>cases h
 |cons a r =>
  obtain⟨b,rfl⟩:=Kx (Nat.succ.inj h)
  exact⟨a,b,rfl⟩
theorem GI{α:Type}{l:List α}(h:l.length=3):∃a b c,l=[a,b,c]:=by
 cases l with
 |nil=>cases h
 |cons a r =>
  obtain⟨b,c,rfl⟩:=JW (Nat.succ.inj h)
  exact⟨a,b,c,rfl⟩
end G09
namespace G09
open PySem L2
noncomputable def JX(p:(Str×List Str)×Tm):T:=.t [.s "arm",jd p.1 (enc p.2)]
theorem sX:∀{arms:List (Str×List Str)}{ks:List Tm},(∀a∈arms,bx a.1)->(∀k∈ks,cX k)->(List.zipWith cW arms (ks.map bw)).map val=(arms.zip ks).map JX
 | [],_,_,_=>by simp
 |_::_,[],_,_=>by simp
 |a::r,k::q,h1,h2=>by
  have ih:=sX (arms:=r) (ks:=q) (fun b hb=>h1 b (.tail _ hb)) fun b hb=>h2 b (.tail _ hb)
  have ok:=h2 k (.head _)
  rw[List.map_cons,List.zipWith_cons_cons,List.map_cons,ih,uN (h1 a (.head _)) ok (je ok)]
  rfl
theorem lG:∀(arms:List (Str×List Str)) (ks:List Tm),(arms.zip ks).map (fun p=>jd p.1 (enc p.2))=List.zipWith jd arms (ks.map enc)
 | [],_=>by simp
 |_::_,[]=>by simp
 |a::r,k::q=>by
  rw[List.zip_cons_cons,List.map_cons,lG r q,List.map_cons,List.zipWith_cons_cons]
theorem gr(xs:List V)(j:Nat)(hj:1<=j)(hx:1<=xs.length):¬(HT.f6 xs.length 0 (some (j:Int))=0/\HT.f6 xs.length xs.length none=xs.length):=fun z=>by
 have:=z.1
 rw[HT.zk]at this
 omega
theorem HZ:∀c∈("+-*:<=":Str).cps.toList,(⟨#[c]⟩:Str)∈f7:=by decide +kernel
theorem Dw(a b:V)(us:List V):¬(HT.f6 (a::b::us).length 0 (some ((2:Nat):Int))=0/\HT.f6 (a::b::us).length (a::b::us).length none=(a::b::us).length):=gr _ 2 (by decide) (by simp)
mutual
noncomputable def rW:Bw->Prop
 |.a _=>True
 |.g _ ws=>ws.length<=900/\yI ws
noncomputable def yI:List Bw->Prop
 | []=>True
 |x::r=>rW x/\yI r
end
theorem w9:∀{ws:List Bw},yI ws->∀x∈ws,rW x
 | [],_,_,h=>nomatch h
 |y::r,h,x,hx=>by
  unfold yI at h
  cases hx with
  |head=>exact h.1
  |tail _ hx=>exact w9 h.2 x hx
theorem zY:∀{ws:List Bw},(∀x∈ws,rW x)->yI ws
 | [],_=>by unfold yI;trivial
 |y::r,h=>by unfold yI;exact⟨h y (.head _),zY fun x hx=>h x (.tail _ hx)⟩
theorem xg{o:Nat}{ws:List Bw}(h1:ws.length<=900)(h:∀x∈ws,rW x):rW (.g o ws):=by unfold rW;exact⟨h1,zY h⟩
theorem er(w:List Nat):rW (.a w):=by unfold rW;trivial
noncomputable def GJ(b:Bw):Prop:=Gd b/\rW b
theorem GJ.Lr:∀o ws,GJ (.g o ws)->∀x∈ws,GJ x:=fun o ws h x hx=>⟨Gd.Lr o ws h.1 x hx,by
 have:=h.2
 unfold rW at this
 exact w9 this.2 x hx⟩
noncomputable def LK:Hd->Prop
 |.mat arms=>∀a∈arms,a.2.length<=800
 |_=>True
inductive Wd:Tm->Prop
 |mk {h:Hd}{ks:List Tm}:ks.length<=800->LK h->(∀k∈ks,Wd k)->Wd (.mk h ks)
theorem FF{a:Str×List Str}{k:Bw}(h:a.2.length<=800)(hk:rW k):rW (cW a k):=by
 refine xg ?_ fun x hx=>?_
 ·simp only[List.length_cons,List.length_append,List.length_map,List.length_nil];omega
 ·rcases List.mem_cons.mp hx with rfl|hx
  ·exact er _
  rcases List.mem_append.mp hx with hx|hx
  ·obtain⟨s,_,rfl⟩:=List.mem_map.mp hx
   exact er _
  ·rw[List.mem_singleton.mp hx];exact hk
theorem Ia{tm:Tm}(h:Wd tm):rW (bw tm):=by
 induction h with
 |@mk hd ks hl hw hk ih =>
  have kk:∀x∈ks.map bw,rW x:=fun x hx=>by
   obtain⟨k,h1,rfl⟩:=List.mem_map.mp hx
   exact ih k h1
  have ll:(ks.map bw).length<=800:=by rw[List.length_map];exact hl
  have one:∀(x:Bw),rW x->rW (.g 40 (x::ks.map bw)):=fun x hx=>xg (by rw[List.length_cons];omega) fun y hy=>(List.mem_cons.mp hy).elim (fun e=>e▸hx) (kk y)
  have two:∀(x y:Bw),rW x->rW y->rW (.g 40 (x::y::ks.map bw)):=fun x y hx hy=>xg (by rw[List.length_cons,List.length_cons];omega) fun z hz=>(List.mem_cons.mp hz).elim (fun e=>e▸hx) fun hz=>(List.mem_cons.mp hz).elim (fun e=>e▸hy) (kk z)
  have gt:∀i,rW ((ks.map bw).getD i (.a [])):=fun i=>by
   rw[List.getD_eq_getElem?_getD]
   cases e:(ks.map bw)[i]? with
   |none=>exact er _
   |some x=>exact kk x (List.mem_of_getElem? e)
  rw[dM]
  cases hd with
  |num n=>exact er _
  |name x=>exact er _
  |gap n=>exact er _
  |op s=>exact one _ (er _)
  |row=>exact one _ (er _)
  |more=>exact one _ (er _)
  |first=>exact one _ (er _)
  |others=>exact one _ (er _)
  |long=>exact one _ (er _)
  |tag t=>exact one _ (er _)
  |ife=>exact one _ (er _)
  |call f=>exact two _ _ (er _) (er _)
  |lt x=>exact two _ _ (er _) (er _)
  |fold x y =>
   refine xg (Nat.le_of_ble_eq_true rfl) fun z hz=>?_
   simp only[List.mem_cons,List.not_mem_nil,or_false]at hz
   rcases hz with rfl|rfl|rfl|rfl|rfl|rfl
   ·exact er _
   ·exact gt 0
   ·exact er _
   ·exact er _
   ·exact gt 1
   ·exact gt 2
  |mat arms =>
   refine xg ?_ fun z hz=>?_
   ·have l1:(List.zipWith cW arms (ks.map bw).tail).length<=(ks.map bw).tail.length:=by rw[List.length_zipWith];exact Nat.min_le_right _ _
    rw[List.length_tail]at l1
    rw[List.length_cons,List.length_cons]
    omega
   ·rcases List.mem_cons.mp hz with rfl|hz
    ·exact er _
    rcases List.mem_cons.mp hz with rfl|hz
    ·cases e:ks.map bw with
     |nil=>exact er _
     |cons x r=>exact kk x (by rw[e];exact .head _)
    ·obtain⟨a,k,h1,h2,rfl⟩:=nY (a:=("",[])) hz
     exact FF (hw a h1) (kk k (List.mem_of_mem_tail h2))
theorem Ib {c : Nat} {ws : List Bw} (h : Gd (.g c ws)) : c = 40 ∧
    ((∃ (hd : Str) (h : Hd) (ks : List Tm) (ws' : List Bw), cX (.mk h ks) ∧ lZ h = false ∧ bw (.mk h ks) = .g 40 (.a hd.cps.toList :: ws') ∧ ws = .a hd.cps.toList :: ws') ∨
     (∃ (a : Str × List Str) (k : Tm), bx a.1 ∧ (∀ x ∈ a.2, bx x) ∧ cX k ∧ Bw.g c ws = cW a (bw k) ∧ ws = bF a.1 :: (a.2.map bF ++ [bw k]))) := by
  generalize eb : Bw.g c ws = b at h
  cases h with
  | a w => cases eb
  | @r a k h1 h2 h3 =>
    have eb' := eb
    unfold cW at eb
    injection eb with e1 e2
    exact ⟨e1, .inr ⟨a, k, h1, h2, h3, rfl, e2⟩⟩
  | @t tm ht =>
    obtain ⟨h, ks⟩ := tm
    cases hl : lZ h with
    | true =>
      obtain ⟨w, e⟩ := zV (tm := .mk h ks) hl
      rw [e] at eb
      cases eb
    | false =>
      have key : ∃ (s : List Nat) (ws' : List Bw), JS h (ks.map bw) = .g 40 (.a s :: ws') := by
        cases h <;> first | exact ⟨_, _, rfl⟩ | cases hl
      obtain ⟨s, ws', e⟩ := key
      have e' := e
      rw [← dM] at e
      rw [e] at eb
      injection eb with e1 e2
      refine ⟨e1, .inl ⟨au s, h, ks, ws', ht, hl, ?_, ?_⟩⟩
      · rw [aA]; exact e
      · rw [aA]; exact e2
theorem Ic(v:V)(us:List V)(u:V):fH (v::(us++[u])) (some 1) (some (-1))=us:=by
 have h:(-1+(((us.length:Nat):Int)+1+1)).toNat=us.length+1:=by omega
 unfold fH HT.f6
 simp
 rw[h]
 simp
theorem aX.snoc_inv{K:PySem.W.Frag}{H:Hp}:∀{ts:List T}{t:T}{us:List V},aX K H (ts++[t]) us->∃vs v,us=vs++[v]/\aX K H ts vs/\Rp K H t v
 | [],t,us,h=>by
  obtain⟨v,r,rfl,g1,g2⟩:=h.inv
  obtain rfl:=g2.nL
  exact⟨[],v,rfl,.nil,g1⟩
 |x::q,t,us,h=>by
  obtain⟨v,r,rfl,g1,g2⟩:=L2.aX.inv h
  obtain⟨vs,u,rfl,h1,h2⟩:=aX.snoc_inv g2
  exact⟨v::vs,u,rfl,.cons g1 h1,h2⟩
end G09
namespace G09
open PySem L2
noncomputable def Dy:List Sx->List Sx
 | []=>[]
 |x::r=>x::r.flatMap fun y=>[.inr " ",y]
noncomputable def brk(xs:List Sx):List Sx:=.inr "("::(Dy xs++[.inr ")"])
noncomputable def rX(a:Str×List Str)(k:Tm):List Sx:=.inr " "::brk (.inr a.1::(a.2.map .inr++[.inl k]))
noncomputable def kd(ks:List Tm):List Sx:=ks.map .inl
noncomputable def Dz:Hd->List Tm->List Sx
 |.num n,_=>[.inr (au (bS n))]
 |.name x,_=>[.inr x]
 |.gap n,_=>[.inr (au (63::bS n))]
 |.op s,ks=>brk (.inr s::kd ks)
 |.row,ks=>brk (.inr "row"::kd ks)
 |.more,ks=>brk (.inr "more"::kd ks)
 |.first,ks=>brk (.inr "first"::kd ks)
 |.others,ks=>brk (.inr "others"::kd ks)
 |.long,ks=>brk (.inr "long"::kd ks)
 |.tag t,ks=>brk (.inr (au (t.cps.toList++[58]))::kd ks)
 |.call f,ks=>brk (.inr "call"::.inr f::kd ks)
 |.mat arms,ks=>.inr "(match "::.inl (ks.headD (.mk .row []))::((arms.zip ks.tail).flatMap (fun z=>rX z.1 z.2)++[.inr ")"])
 |.ife,ks=>brk (.inr "if"::kd ks)
 |.lt x,ks=>brk (.inr "let"::.inr x::kd ks)
 |.fold x y,ks=>brk [.inr "fold",.inl (ks.getD 0 (.mk .row [])),.inr x,.inr y,.inl (ks.getD 1 (.mk .row [])),.inl (ks.getD 2 (.mk .row []))]
noncomputable def GK:Tm->List Sx
 |.mk h ks=>Dz h ks
noncomputable def iu:Sx->List Nat
 |.inl t=>(bw t).txt
 |.inr x=>x.cps.toList
noncomputable def rL:Sx->Bw
 |.inl t=>bw t
 |.inr x=>bF x
theorem uO(x:Sx):(rL x).txt=iu x:=by
 cases x with
 |inl t=>rfl
 |inr x=>unfold rL bF Bw.txt;rfl
theorem xh:∀r:List Sx,Bw.bP (r.map rL)=(r.flatMap fun y=>([.inr " ",y]:List Sx)).flatMap iu
 | []=>rfl
 |x::r=>by
  rw[List.map_cons,List.flatMap_cons,List.flatMap_append]
  unfold Bw.bP
  rw[xh r,uO,List.flatMap_cons,List.flatMap_cons]
  show _=([32]++(iu x++[]))++_
  simp
theorem DA:∀xs:List Sx,Bw.bC (xs.map rL)=(Dy xs).flatMap iu
 | []=>rfl
 |x::r=>by
  rw[List.map_cons]
  unfold Bw.bC
  rw[xh r,uO]
  rfl
theorem qb(xs:List Sx):(Bw.g 40 (xs.map rL)).txt=(brk xs).flatMap iu:=by
 unfold Bw.txt
 rw[DA]
 show _=[40]++(Dy xs++([.inr ")"]:List Sx)).flatMap iu
 rw[List.flatMap_append]
 rfl
theorem kR(ks:List Tm):(kd ks).map rL=ks.map bw:=by unfold kd;rw[List.map_map];rfl
theorem DB(a:Str×List Str)(k:Tm):32::(cW a (bw k)).txt=(rX a k).flatMap iu:=by
 have:=qb (.inr a.1::(a.2.map .inr++[.inl k]))
 unfold rX
 rw[List.flatMap_cons,←this]
 show 32::_=32::_
 congr 3
 unfold cW
 rw[List.map_cons,List.map_append,List.map_map]
 rfl
theorem xj:∀(arms:List (Str×List Str)) (ks:List Tm),Bw.bP (List.zipWith cW arms (ks.map bw))=((arms.zip ks).flatMap (fun z=>rX z.1 z.2)).flatMap iu
 | [],_=>by simp[Bw.bP]
 |_::_,[]=>by simp[Bw.bP]
 |a::r,k::q=>by
  rw[List.map_cons,List.zipWith_cons_cons,List.zip_cons_cons,List.flatMap_cons,List.flatMap_append,←xj r q,←DB]
  conv=>lhs;unfold Bw.bP
  rfl
theorem uP{tm:Tm}(h:cX tm):(GK tm).flatMap iu=(bw tm).txt:=by
 cases h with
 |@mk hd ks ar ho hk =>
  rw[dM]
  show(Dz hd ks).flatMap iu=_
  have one:∀s:Str,(brk (.inr s::kd ks)).flatMap iu=(Bw.g 40 (bF s::ks.map bw)).txt:=fun s=>by rw[←qb,List.map_cons,kR];rfl
  have two:∀s x:Str,(brk (.inr s::.inr x::kd ks)).flatMap iu=(Bw.g 40 (bF s::bF x::ks.map bw)).txt:=fun s x=>by rw[←qb,List.map_cons,List.map_cons,kR];rfl
  cases hd with
  |num n=>show iu (.inr (au (bS n)))++[]=(Bw.a (bS n)).txt;rw[List.append_nil];unfold Bw.txt;exact aA _
  |name x=>show iu (.inr x)++[]=(Bw.a x.cps.toList).txt;rw[List.append_nil];unfold Bw.txt;rfl
  |gap n=>show iu (.inr (au (63::bS n)))++[]=(Bw.a (63::bS n)).txt;rw[List.append_nil];unfold Bw.txt;exact aA _
  |op s=>exact one s
  |row=>exact one "row"
  |more=>exact one "more"
  |first=>exact one "first"
  |others=>exact one "others"
  |long=>exact one "long"
  |ife=>exact one "if"
  |call f=>exact two "call" f
  |lt x=>exact two "let" x
  |tag t =>
   have e:=one (au (t.cps.toList++[58]))
   unfold bF at e
   rw[aA]at e
   exact e
  |fold x y =>
   have arl:ks.length=3:=eq_of_beq (show(ks.length == 3)=true from ar)
   obtain⟨k1,k2,k3,rfl⟩:=GI arl
   exact(qb [.inr "fold",.inl k1,.inr x,.inr y,.inl k2,.inl k3]).symm
  |mat arms =>
   have arl:ks.length=arms.length+1:=eq_of_beq (show(ks.length == arms.length+1)=true from ar)
   cases ks with
   |nil=>cases arl
   |cons k r =>
    show(.inr "(match "::.inl k::((arms.zip r).flatMap (fun z=>rX z.1 z.2)++[.inr ")"]):List Sx).flatMap iu=(Bw.g 40 (bF "match"::bw k::List.zipWith cW arms (r.map bw))).txt
    unfold Bw.txt
    conv=>rhs;unfold Bw.bC
    conv=>rhs;unfold Bw.bP
    rw[List.flatMap_cons,List.flatMap_cons,List.flatMap_append,←xj,show(bF "match").txt=("match":Str).cps.toList by unfold bF Bw.txt;rfl]
    show("(match ":Str).cps.toList++((bw k).txt++(Bw.bP (List.zipWith cW arms (r.map bw))++[41]))=_
    rw[show("(match ":Str).cps.toList=40::(("match":Str).cps.toList++[32]) by decide +kernel]
    simp[kE]
noncomputable def lP:Sx->Prop
 |.inl t=>cX t/\Wd t
 |.inr x=>x.cps.toList≠[]
theorem FG{xs:List Sx}(h:∀x∈xs,lP x):∀x∈Dy xs,lP x:=by
 cases xs with
 |nil=>exact fun _ h=>nomatch h
 |cons y r =>
  intro x hx
  rcases List.mem_cons.mp hx with rfl|hx
  ·exact h _ (.head _)
  ·obtain⟨z,hz,hx⟩:=List.mem_flatMap.mp hx
   rcases List.mem_cons.mp hx with rfl|hx
   ·show(" ":Str).cps.toList≠[]
    decide +kernel
   ·rw[List.mem_singleton.mp hx];exact h z (.tail _ hz)
theorem uQ{xs:List Sx}(h:∀x∈xs,lP x):∀x∈brk xs,lP x:=fun x hx=>by
 rcases List.mem_cons.mp hx with rfl|hx
 ·show("(":Str).cps.toList≠[]
  decide +kernel
 rcases List.mem_append.mp hx with hx|hx
 ·exact FG h x hx
 ·rw[List.mem_singleton.mp hx]
  show(")":Str).cps.toList≠[]
  decide +kernel
theorem FH{h:Hd}{ks:List Tm}(w:Wd (.mk h ks)):∀k∈ks,Wd k:=by
 cases w with
 |mk _ _ hk=>exact hk
theorem Ie{h:Hd}{ks:List Tm}(w:Wd (.mk h ks)):ks.length<=800:=by
 cases w with
 |mk hl _ _=>exact hl
theorem JY{h:Hd}{ks:List Tm}(w:Wd (.mk h ks)):LK h:=by
 cases w with
 |mk _ hw _=>exact hw
theorem jD:∀s∈(["row","more","first","others","long","call","match","if","let","fold","+","-","*",":","<","=","(match ",")"," "]:List Str),s.cps.toList≠[]:=by decide +kernel
theorem DC{tm:Tm}(h:cX tm)(w:Wd tm):∀x∈GK tm,lP x:=by
 cases h with
 |@mk hd ks ar ho hk =>
  have wk:=FH w
  have kk:∀k∈ks,lP (.inl k):=fun k h1=>⟨hk k h1,wk k h1⟩
  have kds:∀x∈kd ks,lP x:=fun x hx=>by
   obtain⟨k,h1,rfl⟩:=List.mem_map.mp hx
   exact kk k h1
  have gt:∀i,i<ks.length->lP (.inl (ks.getD i (.mk .row []))):=fun i hi=>by
   rw[List.getD_eq_getElem?_getD,List.getElem?_eq_getElem hi]
   exact kk _ (List.getElem_mem hi)
  have st:∀{s:Str},s.cps.toList≠[]->lP (.inr s):=fun h=>h
  have one:∀s:Str,s.cps.toList≠[]->∀x∈brk (.inr s::kd ks),lP x:=fun s hs=>uQ fun x hx=>(List.mem_cons.mp hx).elim (fun e=>e▸st hs) (kds x)
  have two:∀s y:Str,s.cps.toList≠[]->y.cps.toList≠[]->∀x∈brk (.inr s::.inr y::kd ks),lP x:=fun s y hs hy=>uQ fun x hx=>(List.mem_cons.mp hx).elim (fun e=>e▸st hs) fun hx=>(List.mem_cons.mp hx).elim (fun e=>e▸st hy) (kds x)
  show ∀x∈Dz hd ks,lP x
  cases hd with
  |num n =>
   intro x hx
   rw[List.mem_singleton.mp hx]
   show(au (bS n)).cps.toList≠[]
   obtain⟨a,r,e,_⟩:=gH (show 0<=n/\n<1000000 from ho)
   rw[aA,e];simp
  |name y =>
   intro x hx
   rw[List.mem_singleton.mp hx]
   exact kP (show bx y from ho)
  |gap n =>
   intro x hx
   rw[List.mem_singleton.mp hx]
   show(au (63::bS n)).cps.toList≠[]
   rw[aA];simp
  |op s=>exact one s (jD s (by have:s∈f7:=ho;unfold f7 at this;simp only[List.mem_cons,List.not_mem_nil,or_false]at this⊢;rcases this with h|h|h|h|h|h<;>simp[h]))
  |row=>exact one _ (jD _ (by simp))
  |more=>exact one _ (jD _ (by simp))
  |first=>exact one _ (jD _ (by simp))
  |others=>exact one _ (jD _ (by simp))
  |long=>exact one _ (jD _ (by simp))
  |ife=>exact one _ (jD _ (by simp))
  |tag t=>exact one _ (by rw[aA];simp)
  |call f=>exact two _ _ (jD _ (by simp)) (kP (show bx f from ho))
  |lt x=>exact two _ _ (jD _ (by simp)) (kP (show bx x from ho))
  |fold x y =>
   have arl:ks.length=3:=eq_of_beq (show(ks.length == 3)=true from ar)
   refine uQ fun z hz=>?_
   simp only[List.mem_cons,List.not_mem_nil,or_false]at hz
   rcases hz with rfl|rfl|rfl|rfl|rfl|rfl
   ·exact jD "fold" (by simp)
   ·exact gt 0 (by omega)
   ·exact kP (show bx x from ho.1)
   ·exact kP (show bx y from ho.2)
   ·exact gt 1 (by omega)
   ·exact gt 2 (by omega)
  |mat arms =>
   have arl:ks.length=arms.length+1:=eq_of_beq (show(ks.length == arms.length+1)=true from ar)
   cases ks with
   |nil=>cases arl
   |cons k r =>
    intro x hx
    rcases List.mem_cons.mp hx with rfl|hx
    ·exact jD "(match " (by simp)
    rcases List.mem_cons.mp hx with rfl|hx
    ·exact kk k (.head _)
    rcases List.mem_append.mp hx with hx|hx
    ·obtain⟨⟨a,q⟩,hz,hx⟩:=List.mem_flatMap.mp hx
     have z1:a∈arms:=(List.of_mem_zip hz).1
     have z2:q∈r:=(List.of_mem_zip hz).2
     obtain⟨n1,n2⟩:=(show ∀a∈arms,bx a.1/\∀x∈a.2,bx x from ho) a z1
     rcases List.mem_cons.mp hx with rfl|hx
     ·exact jD " " (by simp)
     ·refine uQ (fun y hy=>?_) x hx
      rcases List.mem_cons.mp hy with rfl|hy
      ·exact kP n1
      rcases List.mem_append.mp hy with hy|hy
      ·obtain⟨u,hu,rfl⟩:=List.mem_map.mp hy
       exact kP (n2 u hu)
      ·rw[List.mem_singleton.mp hy];exact kk q (.tail _ z2)
    ·rw[List.mem_singleton.mp hx];exact jD ")" (by simp)
theorem sY(tm:Tm):∃s r,GK tm=Sum.inr s::r:=by
 obtain⟨h,ks⟩:=tm
 cases h<;>exact⟨_,_,rfl⟩
noncomputable def mu:Sx->Nat
 |.inl t=>2*(bw t).txt.length
 |.inr x=>x.cps.toList.length
noncomputable def rM:List Sx->Nat
 | []=>0
 |x::r=>mu x+rM r
theorem zZ:∀a b:List Sx,rM (a++b)=rM a+rM b
 | [],b=>by rw[List.nil_append];show _=0+_;omega
 |x::r,b=>by
  show mu x+rM (r++b)=mu x+rM r+rM b
  rw[zZ r b];omega
theorem JZ(x:Sx):mu x<=2*(iu x).length:=by
 cases x with
 |inl t=>exact Nat.le_refl _
 |inr x=>show x.cps.toList.length<=2*x.cps.toList.length;omega
theorem yJ:∀xs:List Sx,rM xs<=2*(xs.flatMap iu).length
 | []=>Nat.zero_le _
 |x::r=>by
  rw[List.flatMap_cons,List.length_append]
  show mu x+rM r<=_
  have:=JZ x
  have:=yJ r
  omega
theorem FJ{tm:Tm}(h:cX tm)(w:Wd tm):rM (GK tm)<mu (.inl tm):=by
 have e:=uP h
 obtain⟨s,r,ep⟩:=sY tm
 have ok:=DC h w (.inr s) (by rw[ep];exact .head _)
 have hl:0<s.cps.toList.length:=List.length_pos_iff.mpr ok
 have:=yJ r
 show _<2*(bw tm).txt.length
 rw[←e,ep,List.flatMap_cons,List.length_append]
 show s.cps.toList.length+rM r<2*(s.cps.toList.length+_)
 omega
theorem Ig{tm:Tm}(h:cX tm):0<(bw tm).txt.length:=by
 obtain⟨s,r,ep⟩:=sY tm
 have e:=uP h
 have:s.cps.toList≠[]:=by
  cases h with
  |@mk hd ks ar ho hk =>
   have g1:("(":Str).cps.toList≠[]:=by decide +kernel
   have g2:("(match ":Str).cps.toList≠[]:=by decide +kernel
   have key:∀s' r',Dz hd ks=.inr s'::r'->s'.cps.toList≠[]->s.cps.toList≠[]:=fun s' r' e h=>by
    have ep':Dz hd ks=.inr s::r:=ep
    rw[e]at ep'
    injection ep' with e1 _
    injection e1 with e1
    rw[←e1];exact h
   cases hd with
   |num n =>
    obtain⟨a,r,e,_⟩:=gH (show 0<=n/\n<1000000 from ho)
    exact key _ _ rfl (by rw[aA,e];simp)
   |name x=>exact key _ _ rfl (kP (show bx x from ho))
   |gap n=>exact key _ _ rfl (by rw[aA];simp)
   |mat arms=>exact key _ _ rfl g2
   |_=>exact key _ _ rfl g1
 have hl:0<s.cps.toList.length:=List.length_pos_iff.mpr this
 rw[←e,ep,List.flatMap_cons,List.length_append]
 show 0<s.cps.toList.length+_
 omega
theorem DE{x:Sx}(h:lP x):1<=mu x:=by
 cases x with
 |inl t=>have:=Ig h.1;show 1<=2*_;omega
 |inr x=>exact List.length_pos_iff.mpr h
theorem uR:∀{xs:List Sx},(∀x∈xs,lP x)->xs.length<=rM xs
 | [],_=>Nat.zero_le _
 |x::r,h=>by
  have:=DE (h x (.head _))
  have:=uR (xs:=r) fun y hy=>h y (.tail _ hy)
  show r.length+1<=mu x+rM r
  omega
noncomputable def Jf:Hd->Prop
 |.mat arms=>∀a∈arms,a.2.length<=2
 |_=>True
inductive Nw:Tm->Prop
 |mk {h:Hd}{ks:List Tm}:ks.length<=5->Jf h->(∀k∈ks,Nw k)->Nw (.mk h ks)
theorem Nw.wd{tm:Tm}(h:Nw tm):Wd tm:=by
 induction h with
 |@mk h ks hl hh hk ih =>
  refine .mk (by omega) ?_ ih
  cases h with
  |mat arms=>exact fun a ha=>Nat.le_trans (hh a ha) (by decide)
  |_=>exact True.intro
theorem Nw.len{h:Hd}{ks:List Tm}(w:Nw (.mk h ks)):ks.length<=5:=by
 cases w with
 |mk hl _ _=>exact hl
theorem Nw.hd{h:Hd}{ks:List Tm}(w:Nw (.mk h ks)):Jf h:=by
 cases w with
 |mk _ hw _=>exact hw
theorem Nw.kids{h:Hd}{ks:List Tm}(w:Nw (.mk h ks)):∀k∈ks,Nw k:=by
 cases w with
 |mk _ _ hk=>exact hk
noncomputable def iT:List Bw->Nat
 | []=>0
 |x::r=>x.txt.length+1+iT r
theorem rg:∀ws:List Bw,(Bw.bP ws).length=iT ws
 | []=>by unfold Bw.bP;rfl
 |x::r=>by
  unfold Bw.bP
  rw[List.length_cons,List.length_append,rg r]
  show _=x.txt.length+1+iT r
  omega
theorem rh:∀ws:List Bw,(Bw.bC ws).length<=iT ws
 | []=>by unfold Bw.bC;exact Nat.le_refl _
 |x::r=>by
  unfold Bw.bC
  rw[List.length_append,rg r]
  show _<=x.txt.length+1+iT r
  omega
theorem rj(ws:List Bw):(Bw.g 40 ws).txt.length<=2+iT ws:=by
 unfold Bw.txt
 rw[List.length_cons,List.length_append]
 have:=rh ws
 show _+1+1<=_
 omega
theorem Aa:∀a b:List Bw,iT (a++b)=iT a+iT b
 | [],b=>by rw[List.nil_append];show _=0+_;omega
 |x::r,b=>by
  show x.txt.length+1+iT (r++b)=x.txt.length+1+iT r+iT b
  rw[Aa r b];omega
theorem gu(x:Str):(bF x).txt.length=x.length:=by
 unfold bF Bw.txt
 show _=x.cps.size
 simp
theorem sZ:∀xs:List Str,(∀x∈xs,bx x)->iT (xs.map bF)<=7*xs.length
 | [],_=>Nat.le_refl _
 |x::r,h=>by
  have h1:=(h x (.head _)).2.1
  have h2:=sZ r fun y hy=>h y (.tail _ hy)
  show(bF x).txt.length+1+iT (r.map bF)<=7*(r.length+1)
  rw[gu]
  omega
theorem xm:∀ks:List Tm,(∀k∈ks,(bw k).txt.length+25<=45*k.size)->iT (ks.map bw)+24*ks.length<=45*Tm.sizes ks
 | [],_=>by rw[Tm.sizes];exact Nat.le_refl _
 |k::r,h=>by
  have h1:=h k (.head _)
  have h2:=xm r fun y hy=>h y (.tail _ hy)
  rw[Tm.cT]
  show(bw k).txt.length+1+iT (r.map bw)+24*(r.length+1)<=_
  omega
theorem Ab{a:Str×List Str}{k:Bw}(h1:bx a.1)(h2:∀x∈a.2,bx x)(h3:a.2.length<=2):(cW a k).txt.length<=24+k.txt.length:=by
 have:=rj (bF a.1::(a.2.map bF++[k]))
 have e:iT (bF a.1::(a.2.map bF++[k]))=(bF a.1).txt.length+1+(iT (a.2.map bF)+(k.txt.length+1+0)):=by
  show(bF a.1).txt.length+1+iT (a.2.map bF++[k])=_
  rw[Aa]
  rfl
 rw[e,gu]at this
 have n1:=h1.2.1
 have n2:=sZ a.2 h2
 unfold cW
 omega
theorem xn:∀(arms:List (Str×List Str)) (ks:List Tm),(∀a∈arms,(bx a.1/\∀x∈a.2,bx x)/\a.2.length<=2)->(∀k∈ks,(bw k).txt.length+25<=45*k.size)->iT (List.zipWith cW arms (ks.map bw))<=45*Tm.sizes ks
 | [],ks,_,_=>by simp[iT]
 |_::_,[],_,_=>by simp[iT]
 |a::r,k::q,h1,h2=>by
  obtain⟨⟨n1,n2⟩,n3⟩:=h1 a (.head _)
  have l1:=Ab (k:=bw k) n1 n2 n3
  have l2:=h2 k (.head _)
  have l3:=xn r q (fun b hb=>h1 b (.tail _ hb)) fun b hb=>h2 b (.tail _ hb)
  rw[List.map_cons,List.zipWith_cons_cons,Tm.cT]
  show(cW a (bw k)).txt.length+1+iT (List.zipWith cW r (q.map bw))<=_
  omega
theorem Ih:∀s∈(["row","more","first","others","long","call","match","if","let","fold","+","-","*",":","<","="]:List Str),s.length<=6:=by decide +kernel
theorem xq{n:Int}(h:0<=n/\n<1000000):(bS n).length<=6:=by
 obtain⟨a,r,e,_,_,_,l⟩:=gH h
 rw[e,List.length_cons];omega
theorem uS{tm:Tm}(h:cX tm)(w:Nw tm):(bw tm).txt.length+25<=45*tm.size:=by
 induction h with
 |@mk hd ks ar ho hk ih =>
  have wl:=w.len
  have wh:=w.hd
  have kk:∀k∈ks,(bw k).txt.length+25<=45*k.size:=fun k h1=>ih k h1 (w.kids k h1)
  have tk:=xm ks kk
  rw[dM,Tm.uo]
  have one:∀x:Bw,x.txt.length<=7->(Bw.g 40 (x::ks.map bw)).txt.length+25<=45*(Tm.sizes ks+1):=fun x hx=>by
   have:=rj (x::ks.map bw)
   have e:iT (x::ks.map bw)=x.txt.length+1+iT (ks.map bw):=rfl
   omega
  have two:∀x y:Bw,x.txt.length<=6->y.txt.length<=6->(Bw.g 40 (x::y::ks.map bw)).txt.length+25<=45*(Tm.sizes ks+1):=fun x y hx hy=>by
   have:=rj (x::y::ks.map bw)
   have e:iT (x::y::ks.map bw)=x.txt.length+1+(y.txt.length+1+iT (ks.map bw)):=rfl
   omega
  have kl:∀s∈(["row","more","first","others","long","call","match","if","let","fold","+","-","*",":","<","="]:List Str),(bF s).txt.length<=6:=fun s hs=>by rw[gu];exact Ih s hs
  have nl:∀{x:Str},bx x->(bF x).txt.length<=6:=fun h=>by rw[gu];exact h.2.1
  cases hd with
  |num n =>
   show(Bw.a (bS n)).txt.length+25<=_
   unfold Bw.txt
   have:=xq (show 0<=n/\n<1000000 from ho)
   omega
  |name x =>
   show(bF x).txt.length+25<=_
   have:=nl (show bx x from ho)
   omega
  |gap n =>
   show(Bw.a (63::bS n)).txt.length+25<=_
   unfold Bw.txt
   have:=(fP (show 0<=n/\n<100 from ho)).2.1
   rw[List.length_cons]
   omega
  |op s=>exact one _ (Nat.le_trans (kl s (by have:s∈f7:=ho;unfold f7 at this;simp only[List.mem_cons,List.not_mem_nil,or_false]at this⊢;rcases this with h|h|h|h|h|h<;>simp[h])) (by decide))
  |row=>exact one _ (Nat.le_trans (kl _ (by simp)) (by decide))
  |more=>exact one _ (Nat.le_trans (kl _ (by simp)) (by decide))
  |first=>exact one _ (Nat.le_trans (kl _ (by simp)) (by decide))
  |others=>exact one _ (Nat.le_trans (kl _ (by simp)) (by decide))
  |long=>exact one _ (Nat.le_trans (kl _ (by simp)) (by decide))
  |ife=>exact one _ (Nat.le_trans (kl _ (by simp)) (by decide))
  |call f=>exact two _ _ (kl _ (by simp)) (nl ho)
  |lt x=>exact two _ _ (kl _ (by simp)) (nl ho)
  |tag t =>
   refine one _ ?_
   unfold Bw.txt
   have:=(show bx t from ho).2.1
   have e:t.cps.toList.length=t.length:=by show _=t.cps.size;simp
   rw[List.length_append,e]
   show _+1<=7
   omega
  |fold x y =>
   have arl:ks.length=3:=eq_of_beq (show(ks.length == 3)=true from ar)
   obtain⟨k1,k2,k3,rfl⟩:=GI arl
   show(Bw.g 40 [bF "fold",bw k1,bF x,bF y,bw k2,bw k3]).txt.length+25<=_
   have:=rj [bF "fold",bw k1,bF x,bF y,bw k2,bw k3]
   have e:iT [bF "fold",bw k1,bF x,bF y,bw k2,bw k3]=(bF "fold").txt.length+1+((bw k1).txt.length+1+((bF x).txt.length+1+((bF y).txt.length+1+((bw k2).txt.length+1+((bw k3).txt.length+1+0))))):=rfl
   have l1:=kl "fold" (by simp)
   have l2:=nl (show bx x from ho.1)
   have l3:=nl (show bx y from ho.2)
   have q1:=kk k1 (by simp)
   have q2:=kk k2 (by simp)
   have q3:=kk k3 (by simp)
   have es:Tm.sizes [k1,k2,k3]=k1.size+(k2.size+(k3.size+0)):=by rw[Tm.cT,Tm.cT,Tm.cT];rfl
   omega
  |mat arms =>
   have arl:ks.length=arms.length+1:=eq_of_beq (show(ks.length == arms.length+1)=true from ar)
   cases ks with
   |nil=>cases arl
   |cons k r =>
    show(Bw.g 40 (bF "match"::bw k::List.zipWith cW arms (r.map bw))).txt.length+25<=_
    have:=rj (bF "match"::bw k::List.zipWith cW arms (r.map bw))
    have e:iT (bF "match"::bw k::List.zipWith cW arms (r.map bw))=(bF "match").txt.length+1+((bw k).txt.length+1+iT (List.zipWith cW arms (r.map bw))):=rfl
    have l1:=kl "match" (by simp)
    have l2:=kk k (.head _)
    have l3:=xn arms r (fun a ha=>⟨(show ∀a∈arms,bx a.1/\∀x∈a.2,bx x from ho) a ha,wh a ha⟩) fun b hb=>kk b (.tail _ hb)
    rw[Tm.cT]
    omega
end G09
namespace L2
open PySem PySem.Spec PyProof.Rows
noncomputable abbrev hU:List Nat:=[32,61,32]
theorem lH(l:List Nat)(i j:Nat):(au l).cps.extract i j=((l.drop i).take (j-i)).toArray:=by
 show l.toArray.extract i j=_
 rw[List.extract_toArray,List.extract_eq_take_drop]
theorem DF{a b:List Nat}(h:61∉a){k:Nat}(hk:k<a.length):((a++(hU++b)).drop k).take 3≠hU:=fun e=>by
 have e1:(((a++(hU++b)).drop k).take 3)[1]?=some 61:=by rw[e];rfl
 rw[List.getElem?_take_of_lt (by decide),List.getElem?_drop]at e1
 rcases Nat.lt_or_ge (k+1) a.length with c|c
 ·rw[List.getElem?_append_left c]at e1
  exact h (List.mem_of_getElem? e1)
 ·have ek:k+1=a.length:=by omega
  rw[List.getElem?_append_right c,ek,Nat.sub_self]at e1
  cases e1
theorem FL{a b:List Nat}(h:61∉a):∃r,Builtin.Str.occurrences (au (a++(hU++b))) (au hU) 0 (au (a++(hU++b))).length 1=a.length::r:=by
 have l3:(au hU).length=3:=rfl
 have at':∀i,StrLaws.At (au (a++(hU++b))) (au hU) (au (a++(hU++b))).length i->((a++(hU++b)).drop i).take 3=hU:=fun i hi=>by
  have h2:=eq_of_beq (show((au (a++(hU++b))).cps.extract i (i+3) == (au hU).cps)=true from hi.2)
  rw[lH,show i+3-i=3 by omega]at h2
  exact congrArg Array.toList h2
 have here:StrLaws.At (au (a++(hU++b))) (au hU) (au (a++(hU++b))).length a.length:=by
  refine⟨by show a.length+3<=(au (a++(hU++b))).length;rw[aI,List.length_append,List.length_append];show a.length+3<=a.length+(3+b.length);omega,?_⟩
  show((au (a++(hU++b))).cps.extract a.length (a.length+3) == (au hU).cps)=true
  rw[lH,show a.length+3-a.length=3 by omega,List.drop_left]
  exact beq_self_eq_true _
 rcases StrLaws.occ_head (au (a++(hU++b))) (au hU) 1 (Nat.le_refl _)with⟨_,hn⟩|⟨i,r,e,hi,hn⟩
 ·exact absurd here (hn _)
 ·refine⟨r,?_⟩
  have:i=a.length:=by
   rcases Nat.lt_trichotomy i a.length with c|c|c
   ·exact absurd (at' i hi) (DF h c)
   ·exact c
   ·exact absurd here (hn _ c)
  rw[e,this]
section
variable {X:Cx}
theorem DG:Cf X "str.partition" (fun x vs H Q=>∃a b:List Nat,x=.str (au (a++(hU++b)))/\vs=[.str (au hU)]/\61∉a/\(a++(hU++b)).length<=100000/\∀p,H p=none->Q (.ref p) (upd H p (.tup [.str (au a),.str (au hU),.str (au b)]))):=by
 intro pins s σ H x xs v us Q I rx rs h
 obtain⟨a,b,rfl,rfl,ha,hz,q⟩:=h
 obtain⟨t,rfl⟩:=rx
 obtain⟨u,rfl,t',rfl⟩:=vals1 rs
 refine call_meets F.slot_str_partition (typeIs_str _ _ _) F.entry_str_partition (F.args_str_partition_2 _ _) (meets_str_partition _ _ t t' rfl (by rw[aI,sizeLine_eq];omega)) ?_
 obtain⟨r,e⟩:=FL (b:=b) ha
 rw[e]
 have e1:Builtin.Str.strSub (au (a++(hU++b))) 0 a.length=au a:=by
  show(⟨_⟩:Str)=_
  rw[lH,List.drop_zero,Nat.sub_zero,List.take_left]
  rfl
 have e2:Builtin.Str.strSub (au (a++(hU++b))) (a.length+(au hU).length) (au (a++(hU++b))).length=au b:=by
  show(⟨_⟩:Str)=_
  rw[lH,aI]
  have z:(a++(hU++b)).drop (a.length+(au hU).length)=b:=by
   rw[show(au hU).length=hU.length from rfl,←List.append_assoc,show a.length+hU.length=(a++hU).length by rw[List.length_append],List.drop_left]
  rw[z,List.take_of_length_le]
  ·rfl
  ·rw[List.length_append,List.length_append];show b.length<=a.length+(3+b.length) - (a.length+3);omega
 show wants _ _ _ {s with toks:=s.toks+1+1,heap:=s.heap.push {cls:=.type "tuple",data:=.seq [.str (Builtin.Str.strSub (au (a++(hU++b))) 0 a.length) s.toks,.str (au hU) t',.str (Builtin.Str.strSub (au (a++(hU++b))) (a.length+(au hU).length) (au (a++(hU++b))).length) (s.toks+1)].toArray}}
 rw[e1,e2]
 refine⟨.ref s.heap.objs.size,_,I.laid (o:=.tup [.str (au a),.str (au hU),.str (au b)]) (t':=s.toks+1+1) (fun b o e=>Heap.get?_push_of_some _ e) (Nat.le_refl _) ?_,rfl,q _ (I.hok.fresh (Nat.le_refl _))⟩
 exact⟨by show 3<=sizeLine;decide,_,.cons ⟨_,rfl⟩ (.cons ⟨_,rfl⟩ (.cons ⟨_,rfl⟩ .nil)),⟨_,Heap.get?_push_size _ rfl,rfl,_,rfl⟩,⟨_,Heap.get?_push_size _ rfl,rfl⟩⟩
theorem FN{body:List Stmt}{tb:TS}{h0:ExceptHandler}{hs:List ExceptHandler}{pos:Pos}(hx:∀e s,X.xe e s->False)(hb:vt X body tb):PS X (.Try body (h0::hs) [] [] pos) tb:=by
 intro pins s σ H D I h
 refine wpAny_Try_except (wpAny_mono (hb pins s σ H D I h) (fun f s1 q=>?_) fun e s1 q=>(hx e s1 q).elim)
 cases f with
 |next=>exact wpAny_pure q
 |brk=>exact q
 |cont=>exact q
 |ret u=>exact q
end
end L2
namespace G09
open PySem L2
noncomputable abbrev Kd:=Cr×Nat
noncomputable def Es(k:Kd):T:=kT k.1 k.2
noncomputable def Ac(k:Kd):Bw:=kB k.1 k.2
noncomputable def yK(k:Kd):Prop:=k.1.ok/\k.2<=5
noncomputable abbrev Tg:=Str×List Kd
noncomputable def FO(t:Tg):T:=.t [.s t.1,.t (t.2.map Es)]
noncomputable def tu(t:Tg):Bw:=.g 40 (bF t.1::t.2.map Ac)
noncomputable def yL(t:Tg):Prop:=bx t.1/\t.2.length<=2/\∀k∈t.2,yK k/\k.1.cl=true
noncomputable abbrev Ki:=Str×List Tg
noncomputable def Et(k:Ki):T:=.t [.s k.1,.t (k.2.map FO)]
noncomputable def rN(k:Ki):List Bw:=bF "kind"::bF k.1::k.2.map tu
noncomputable def xu(k:Ki):Prop:=bx k.1/\1<=k.2.length/\k.2.length<=3/\∀t∈k.2,yL t
noncomputable abbrev Pa:=Str×Kd
noncomputable def Eu(p:Pa):T:=.t [.s p.1,Es p.2]
noncomputable def oA(p:Pa):Bw:=.g 40 [bF p.1,Ac p.2]
noncomputable def DH(p:Pa):Prop:=bx p.1/\yK p.2
noncomputable abbrev Df:=Str×List Pa×Tm
noncomputable def GL(d:Df):T:=.t [.s d.1,.t (d.2.1.map Eu),enc d.2.2]
noncomputable def rY(d:Df):List Bw:=bF "def"::bF d.1::d.2.1.map oA
noncomputable def pR(d:Df):Prop:=bx d.1/\d.2.1.length<=3/\(∀p∈d.2.1,DH p)/\cX d.2.2/\Wd d.2.2/\(bw d.2.2).txt.length<=3000
noncomputable def qc(k:Ki):List Nat:=Bw.bC (rN k)
noncomputable def qd(d:Df):List Nat:=Bw.bC (rY d)++(hU++(bw d.2.2).txt)
theorem nZ{k:Kd}(h:yK k):(Ac k).txt.length<=36:=by
 unfold Ac
 rw[yj]
 have:=yi h.1 k.2
 have:=h.2
 omega
theorem uT{α:Type}{f:α->Bw}{m:Nat}:∀{l:List α},(∀x∈l,(f x).txt.length<=m)->iT (l.map f)<=l.length*(m+1)
 | [],_=>by simp[iT]
 |x::r,h=>by
  have h1:=h x (.head _)
  have h2:=uT (l:=r) fun y hy=>h y (.tail _ hy)
  rw[List.map_cons,iT,List.length_cons,Nat.succ_mul]
  omega
theorem Ad{t:Tg}(h:yL t):(tu t).txt.length<=83:=by
 have h1:=rj (bF t.1::t.2.map Ac)
 have h2:=uT (f:=Ac) (l:=t.2) (m:=36) fun k hk=>nZ (h.2.2 k hk).1
 have h3:=Nat.mul_le_mul_right 37 h.2.1
 have h4:=gu t.1
 have h5:=h.1.2.1
 unfold tu
 rw[iT]at h1
 omega
theorem qe{k:Ki}(h:xu k):(qc k).length<=300:=by
 have h1:=rh (rN k)
 have h2:=uT (f:=tu) (l:=k.2) (m:=83) fun t ht=>Ad (h.2.2.2 t ht)
 have h3:=Nat.mul_le_mul_right 84 h.2.2.1
 have h4:=gu k.1
 have h5:=h.1.2.1
 have h6:(bF "kind").txt.length=4:=gu _
 unfold qc
 unfold rN at h1⊢
 rw[iT,iT]at h1
 omega
theorem FP{p:Pa}(h:DH p):(oA p).txt.length<=46:=by
 have h1:=rj [bF p.1,Ac p.2]
 have h2:=nZ h.2
 have h4:=gu p.1
 have h5:=h.1.2.1
 unfold oA
 rw[iT,iT,iT]at h1
 omega
theorem uU{d:Df}(h:pR d):(Bw.bC (rY d)).length<=300:=by
 have h1:=rh (rY d)
 have h2:=uT (f:=oA) (l:=d.2.1) (m:=46) fun t ht=>FP (h.2.2.1 t ht)
 have h3:=Nat.mul_le_mul_right 47 h.2.1
 have h4:=gu d.1
 have h5:=h.1.2.1
 have h6:(bF "def").txt.length=3:=gu _
 unfold rY at h1⊢
 rw[iT,iT]at h1
 omega
theorem Ii{t:Tg}(h:yL t):(tu t).ok:=Dq fun x hx=>by
 rcases List.mem_cons.mp hx with rfl|hx
 ·exact iP h.1
 ·obtain⟨k,hk,rfl⟩:=List.mem_map.mp hx
  exact CJ (h.2.2 k hk).1.1 _
theorem LL{s:Str}(h:s="kind"\/s="def"):(bF s).ok:=by
 unfold bF Bw.ok
 rcases h with rfl|rfl<;>exact⟨by decide,(show ∀c∈_,c≠32/\c≠40/\c≠41/\c≠91/\c≠93 by decide +kernel)⟩
theorem Ij{k:Ki}(h:xu k):Bw.jF (rN k):=qa fun x hx=>by
 rcases List.mem_cons.mp hx with rfl|hx
 ·exact LL (.inl rfl)
 rcases List.mem_cons.mp hx with rfl|hx
 ·exact iP h.1
 ·obtain⟨t,ht,rfl⟩:=List.mem_map.mp hx
  exact Ii (h.2.2.2 t ht)
theorem Ik{p:Pa}(h:DH p):(oA p).ok:=Dq fun x hx=>by
 rcases List.mem_cons.mp hx with rfl|hx
 ·exact iP h.1
 ·rw[List.mem_singleton.mp hx]
  exact CJ h.2.1 _
theorem Il{d:Df}(h:pR d):Bw.jF (rY d):=qa fun x hx=>by
 rcases List.mem_cons.mp hx with rfl|hx
 ·exact LL (.inr rfl)
 rcases List.mem_cons.mp hx with rfl|hx
 ·exact iP h.1
 ·obtain⟨p,hp,rfl⟩:=List.mem_map.mp hx
  exact Ik (h.2.2.1 p hp)
theorem lI(x:Str):qY (bF x):=by unfold bF;rw[qY];trivial
theorem GN{ws:List Bw}(h:∀x∈ws,qY x):qY (.g 40 ws):=by rw[qY];exact⟨rfl,uI h⟩
theorem Im(k:Ki):∀b∈rN k,qY b:=fun x hx=>by
 rcases List.mem_cons.mp hx with rfl|hx
 ·exact lI _
 rcases List.mem_cons.mp hx with rfl|hx
 ·exact lI _
 ·obtain⟨t,ht,rfl⟩:=List.mem_map.mp hx
  refine GN fun x hx=>?_
  rcases List.mem_cons.mp hx with rfl|hx
  ·exact lI _
  ·obtain⟨k,hk,rfl⟩:=List.mem_map.mp hx
   exact yE _ _
theorem Io(d:Df):∀b∈rY d,qY b:=fun x hx=>by
 rcases List.mem_cons.mp hx with rfl|hx
 ·exact lI _
 rcases List.mem_cons.mp hx with rfl|hx
 ·exact lI _
 ·obtain⟨t,ht,rfl⟩:=List.mem_map.mp hx
  refine GN fun x hx=>?_
  rcases List.mem_cons.mp hx with rfl|hx
  ·exact lI _
  ·rw[List.mem_singleton.mp hx]
   exact yE _ _
noncomputable def tD(P:Nat->Prop)(b:Bw):Prop:=∀c∈b.txt,P c
section
variable {P:Nat->Prop}
theorem GO(h2:P 32):∀{ws:List Bw},(∀x∈ws,tD P x)->∀c∈Bw.bP ws,P c
 | [],_,c,hc=>by unfold Bw.bP at hc;cases hc
 |x::r,h,c,hc=>by
  unfold Bw.bP at hc
  rcases List.mem_cons.mp hc with rfl|hc
  ·exact h2
  rcases List.mem_append.mp hc with hc|hc
  ·exact h x (.head _) c hc
  ·exact GO h2 (fun y hy=>h y (.tail _ hy)) c hc
theorem DI(h2:P 32):∀{ws:List Bw},(∀x∈ws,tD P x)->∀c∈Bw.bC ws,P c
 | [],_,c,hc=>by unfold Bw.bC at hc;cases hc
 |x::r,h,c,hc=>by
  unfold Bw.bC at hc
  rcases List.mem_append.mp hc with hc|hc
  ·exact h x (.head _) c hc
  ·exact GO h2 (fun y hy=>h y (.tail _ hy)) c hc
theorem Ae(h2:P 32)(h4:P 40)(h5:P 41){ws:List Bw}(h:∀x∈ws,tD P x):tD P (.g 40 ws):=fun c hc=>by
 unfold Bw.txt at hc
 rcases List.mem_cons.mp hc with rfl|hc
 ·exact h4
 rcases List.mem_append.mp hc with hc|hc
 ·exact DI h2 h c hc
 ·rw[List.mem_singleton.mp hc];exact h5
theorem l0{w:List Nat}(h:∀c∈w,P c):tD P (.a w):=fun c hc=>h c (by unfold Bw.txt at hc;exact hc)
end
noncomputable abbrev hS(c:Nat):Prop:=c≠10/\c≠61
theorem uV{x:Str}(h:bx x):tD hS (bF x):=l0 fun c hc=>by
 have:=h.2.2.1 c hc
 unfold low at this
 omega
theorem DJ{k:Kd}(h:yK k):tD hS (Ac k):=by
 have all:∀d,tD hS (kB k.1 d):=by
  intro d
  induction d with
  |zero =>
   refine l0 fun c hc=>?_
   have ho:=h.1
   generalize k.1=q at ho hc
   cases q with
   |num=>simp[Cr.L]at hc;omega
   |kd x=>have:=ho.2.2.1 c hc;unfold low at this;omega
   |op n =>
    rcases List.mem_cons.mp hc with rfl|hc
    ·decide
    ·have:=(fP ho).2.2.1 c hc;omega
  |succ d ih=>exact Ae (by decide) (by decide) (by decide) fun x hx=>(List.mem_cons.mp hx).elim (fun e=>by rw[e];exact l0 (by decide)) fun hx=>by rw[List.mem_singleton.mp hx];exact ih
 exact all k.2
theorem FQ{k:Ki}(h:xu k):∀c∈qc k,hS c:=DI (by decide) fun x hx=>by
 rcases List.mem_cons.mp hx with rfl|hx
 ·exact l0 (by decide +kernel)
 rcases List.mem_cons.mp hx with rfl|hx
 ·exact uV h.1
 ·obtain⟨t,ht,rfl⟩:=List.mem_map.mp hx
  have ht:=h.2.2.2 t ht
  refine Ae (by decide) (by decide) (by decide) fun x hx=>?_
  rcases List.mem_cons.mp hx with rfl|hx
  ·exact uV ht.1
  ·obtain⟨k,hk,rfl⟩:=List.mem_map.mp hx
   exact DJ (ht.2.2 k hk).1
theorem Af{d:Df}(h:pR d):∀c∈Bw.bC (rY d),hS c:=DI (by decide) fun x hx=>by
 rcases List.mem_cons.mp hx with rfl|hx
 ·exact l0 (by decide +kernel)
 rcases List.mem_cons.mp hx with rfl|hx
 ·exact uV h.1
 ·obtain⟨t,ht,rfl⟩:=List.mem_map.mp hx
  have ht:=h.2.2.1 t ht
  refine Ae (by decide) (by decide) (by decide) fun x hx=>?_
  rcases List.mem_cons.mp hx with rfl|hx
  ·exact uV ht.1
  ·rw[List.mem_singleton.mp hx]
   exact DJ ht.2
noncomputable abbrev ln(c:Nat):Prop:=c≠10
theorem Ip{ws:List Bw}(h:∀x∈ws,tD ln x):tD ln (.g 40 ws):=Ae (by decide) (by decide) (by decide) h
theorem GP{x:Str}(h:bx x):∀c∈x.cps.toList,ln c:=fun c hc=>by
 have:=h.2.2.1 c hc
 unfold low at this
 show c≠10
 omega
theorem rq{x:Str}(h:bx x):tD ln (bF x):=l0 (GP h)
theorem Iq:∀s∈(["row","more","first","others","long","call","match","if","let","fold","+","-","*",":","<","="]:List Str),∀c∈s.cps.toList,c≠10:=by decide +kernel
theorem kU{s:Str}(h:s∈(["row","more","first","others","long","call","match","if","let","fold","+","-","*",":","<","="]:List Str)):tD ln (bF s):=l0 (Iq s h)
theorem Ir{a:Str×List Str}{k:Bw}(h1:bx a.1)(h2:∀x∈a.2,bx x)(hk:tD ln k):tD ln (cW a k):=by
 refine Ip fun x hx=>?_
 rcases List.mem_cons.mp hx with rfl|hx
 ·exact rq h1
 rcases List.mem_append.mp hx with hx|hx
 ·obtain⟨s,hs,rfl⟩:=List.mem_map.mp hx
  exact rq (h2 s hs)
 ·rw[List.mem_singleton.mp hx];exact hk
theorem J0{tm:Tm}(h:cX tm):tD ln (bw tm):=by
 induction h with
 |@mk hd ks ar ho hk ih =>
  have kk:∀x∈ks.map bw,tD ln x:=fun x hx=>by
   obtain⟨k,h1,rfl⟩:=List.mem_map.mp hx
   exact ih k h1
  have two:∀{s:Str}{l:List Bw},tD ln (bF s)->(∀x∈l,tD ln x)->tD ln (Bw.g 40 (bF s::l)):=fun h1 h2=>Ip fun x hx=>(List.mem_cons.mp hx).elim (fun e=>by rw[e];exact h1) (h2 x)
  have dg:∀{n:Int},0<=n/\n<1000000->∀c∈bS n,ln c:=fun{n} hn c hc=>by
   obtain⟨a,r,e,h1,h2,_,_⟩:=gH hn
   rw[e]at hc
   have:48<=c/\c<=57:=(List.mem_cons.mp hc).elim (fun z=>by rw[z];exact h1) (h2 c)
   show c≠10
   omega
  have gt:∀i,i<ks.length->tD ln ((ks.map bw).getD i (.a [])):=fun i hi=>by
   rw[List.getD_eq_getElem?_getD,List.getElem?_map,List.getElem?_eq_getElem hi]
   exact ih _ (List.getElem_mem hi)
  rw[dM]
  cases hd with
  |num n =>
   exact l0 (dg ho)
  |name x=>exact rq ho
  |gap n =>
   have hn:0<=n/\n<1000000:=⟨ho.1,by have:=ho.2;omega⟩
   exact l0 fun c hc=>(List.mem_cons.mp hc).elim (fun z=>by rw[z];decide) (dg hn c)
  |op s=>exact two (kU (by have:s∈f7:=ho;unfold f7 at this;simp only[List.mem_cons,List.not_mem_nil,or_false]at this⊢;rcases this with h|h|h|h|h|h<;>simp[h])) kk
  |row=>exact two (kU (by simp)) kk
  |more=>exact two (kU (by simp)) kk
  |first=>exact two (kU (by simp)) kk
  |others=>exact two (kU (by simp)) kk
  |long=>exact two (kU (by simp)) kk
  |tag t =>
   refine Ip fun x hx=>(List.mem_cons.mp hx).elim (fun e=>?_) (kk x)
   rw[e]
   exact l0 fun c hc=>(List.mem_append.mp hc).elim (GP ho c) fun z=>by rw[List.mem_singleton.mp z];decide
  |call f=>exact two (kU (by simp)) fun x hx=>(List.mem_cons.mp hx).elim (fun e=>by rw[e];exact rq ho) (kk x)
  |mat arms =>
   have ar':(ks.length == arms.length+1)=true:=ar
   have arl:ks.length=arms.length+1:=eq_of_beq ar'
   refine two (kU (by simp)) fun x hx=>?_
   rcases List.mem_cons.mp hx with rfl|hx
   ·cases ks with
    |nil=>cases arl
    |cons k r=>exact ih k (.head _)
   ·obtain⟨a,k,h1,h2,rfl⟩:=nY (a:=("",[])) hx
    exact Ir (ho a h1).1 (ho a h1).2 (kk k (List.mem_of_mem_tail h2))
  |ife=>exact two (kU (by simp)) kk
  |lt x=>exact two (kU (by simp)) fun y hy=>(List.mem_cons.mp hy).elim (fun e=>by rw[e];exact rq ho) (kk y)
  |fold x y =>
   have ar':(ks.length == 3)=true:=ar
   have arl:ks.length=3:=eq_of_beq ar'
   refine two (kU (by simp)) fun z hz=>?_
   simp only[List.mem_cons,List.not_mem_nil,or_false]at hz
   rcases hz with rfl|rfl|rfl|rfl|rfl
   ·exact gt 0 (by omega)
   ·exact rq ho.1
   ·exact rq ho.2
   ·exact gt 1 (by omega)
   ·exact gt 2 (by omega)
theorem Iu{d:Df}(h:pR d):10∉qd d:=fun hc=>by
 rcases List.mem_append.mp hc with hc|hc
 ·exact(Af h 10 hc).1 rfl
 rcases List.mem_append.mp hc with hc|hc
 ·simp[hU]at hc
 ·exact J0 h.2.2.2.1 10 hc rfl
theorem Iv{k:Ki}(h:xu k):10∉qc k:=fun hc=>(FQ h 10 hc).1 rfl
theorem Iw{d:Df}(h:pR d):61∉Bw.bC (rY d):=fun hc=>(Af h 61 hc).2 rfl
noncomputable def DK(K:PySem.W.Frag)(so:List Str):Sp:=fun vs H Q _=>∃(v:V) (k:Kd) (p:Addr),vs=[v,.ref p]/\bf K H p (so.map V.str)/\RK [] H (Ac k) v/\yK k/\((("open":Str)∈so)->k.1.cl=true)/\∀v' H',aL H H'->Rp K H' (Es k) v'->Q v' H'
noncomputable def Ag(K:PySem.W.Frag):Sp:=fun vs H Q _=>∃(v:V) (t:Tg),vs=[v]/\RK [] H (tu t) v/\yL t/\∀v' H',aL H H'->Rp K H' (FO t) v'->Q v' H'
noncomputable def tE(K:PySem.W.Frag):Sp:=fun vs H Q _=>∃(v:V) (t:Pa),vs=[v]/\RK [] H (oA t) v/\DH t/\∀v' H',aL H H'->Rp K H' (Eu t) v'->Q v' H'
theorem Bs{K:PySem.W.Frag}{H:Hp}{c:Cr}{v:V}(r:Rp K H (CI c) v){Q:V->Hp->Prop}(hq:∀s:Str,(s="n"\/s="kind"\/s="open")->(c.cl=true->s≠"open")->Q (.str s) H):K2 K v (.int 0) H Q:=by
 cases c with
 |num =>
  obtain rfl:=(show Rp K H (.s "num") v from r).aG
  exact .inr (.inr ⟨_,0,110,rfl,rfl,(by decide +kernel),(by decide +kernel),hq _ (.inl (by decide +kernel)) fun _=>by decide +kernel⟩)
 |kd x =>
  obtain⟨ka,k1,k2,rfl,ksq,g1,g2⟩:=(show Rp K H (.t [.s "kind",.s x]) v from r).t2
  obtain rfl:=g1.aG
  exact .inr (.inl ⟨ka,_,0,.str "kind",rfl,rfl,ksq,rfl,hq _ (.inr (.inl rfl)) fun _=>by decide +kernel⟩)
 |op n =>
  obtain⟨ka,k1,k2,rfl,ksq,g1,g2⟩:=(show Rp K H (.t [.s "open",.i n]) v from r).t2
  obtain rfl:=g1.aG
  exact .inr (.inl ⟨ka,_,0,.str "open",rfl,rfl,ksq,rfl,hq _ (.inr (.inr rfl)) fun z=>nomatch z⟩)
theorem oY{M:List Addr}{H:Hp}{x:Str}{v:V}(h:RK M H (bF x) v):v=.str x:=by
 unfold bF at h
 rw[RK,az]at h
 exact h
structure DL(K:PySem.W.Frag) (H0:Hp) (ts:List T) (i:Nat) (ws:List V) (H:Hp):Prop where
 s:aL H0 H
 r:aX K H (ts.take i) ws
 len:ws.length=i
theorem DL.nil{K:PySem.W.Frag}{H:Hp}{ts:List T}:DL K H ts 0 [] H:=⟨aL.refl _,.nil,rfl⟩
theorem DL.snoc{K:PySem.W.Frag}{H0 H H':Hp}{ts:List T}{i:Nat}{ws:List V}{t:T}{v:V}(h:DL K H0 ts i ws H)(e:ts[i]?=some t)(s:aL H H')(r:Rp K H' t v):DL K H0 ts (i+1) (ws++[v]) H':=by
 obtain⟨hl,rfl⟩:=List.getElem?_eq_some_iff.mp e
 exact⟨h.s.trans s,by rw[List.take_succ_eq_append_getElem hl];exact(h.r.same s).append (.one r),by rw[List.length_append,h.len];rfl⟩
section
variable {P:Program}{w:World}{K:PySem.W.Frag}{mg:Str->Option Value}{base:Heap}{gO gI gN gW:Addr}{ofd ifd nfd wfd:FuncData}
theorem fq:Nm ["item","sorts","kind"] (ae ej):=by decide +kernel
theorem pT:Lm ["item","sorts","kind"] (ae ej):=by decide +kernel
theorem j2:aH ["item","sorts","kind"] ["item","sorts"] (ae ej):=⟨rfl,rfl,rfl,by decide +kernel,rfl,by decide +kernel,by decide +kernel⟩
theorem DM{f:Addr}{fd:FuncData}{so:List Str}(hso:so=[("any":Str),"open"]\/so=[("any":Str)])(F:eN K "kind_without" "kind_without" ej f fd)(KOF:bE P w K mg base "kind_of" 4 ["item"] (wG K) gO ofd)(IM:bE P w K mg base "innermost" 1 ["kind"] (Di K) gI ifd):bK P w K mg base d8 5 f fd ["item","sorts"] (DK K so):=by
 refine F.ok j2 (fun vs H Q E h=>?_) (fun cdv A outer s H vs Q E hr h=>?_)
 ·obtain⟨_,_,_,rfl,_⟩:=h
  rfl
 obtain⟨v,k,p,rfl,sq,rk,ko,hcl,go⟩:=h
 refine⟨_,(Z4 (Z5 j2.nd pT 2 (Z0 KOF (Z9 (va fq 0)))) (Z4 (Z8 (@fN _ _ _ _ _ _ _ _ iB (Zp qx (Z0 IM (Z9 (va fq 2))) ao) (va fq 1) (by with_unfolding_all rfl)) (aV b8)) (Zc (b7 (va fq 2))))),?_⟩
 try dsimp only[aU]
 try dsimp only[aU]
 have it:=GG (show RK [] H (kB k.1 k.2) v from rk)
 have hc:=ko.1
 have hd:k.2<=20:=by have:=ko.2;omega
 fail "R"
 intro v1 H1 s1 r1
 have sq1:=sq.same s1
 fail "R"
 intro v2 r2
 refine Bs r2 fun s hs hn=>?_
 have hin:nh (.str s) (so.map V.str)=false:=by
  rcases hso with rfl|rfl
  ·have:s≠"open":=hn (hcl (by simp))
   rcases hs with rfl|rfl|rfl
   ·decide +kernel
   ·decide +kernel
   ·exact absurd rfl this
  ·rcases hs with rfl|rfl|rfl<;>decide +kernel
 have hfl:(so.map V.str).all dI=true:=by rcases hso with rfl|rfl<;>decide +kernel
 fail "R"
 refine rR (by rw[hin];rfl) ?_
 fail "R"
 exact go _ _ s1 r1
theorem lJ:Nm ["item"] (ae kH):=by decide +kernel
theorem Bt:aH ["item"] ["item"] (ae kH):=⟨rfl,rfl,rfl,by decide +kernel,rfl,by decide +kernel,by decide +kernel⟩
theorem Bu{f:Addr}{fd:FuncData}(F:eN K "tag_of" "tag_of" kH f fd)(NO:bE P w K mg base "name_of" 2 ["item"] fc gN nfd)(KWO:bE P w K mg base "kind_without" 5 ["item","sorts"] (DK K [("any":Str),"open"]) gW wfd)(z_isinstance:mg "isinstance"=none)(z_str:mg "str"=none)(z_tuple:mg "tuple"=none):bK P w K mg base d8 6 f fd ["item"] (Ag K):=by
 refine F.ok Bt (fun vs H Q E h=>?_) (fun cdv A outer s H vs Q E hr h=>?_)
 ·obtain⟨_,_,rfl,_⟩:=h
  rfl
 obtain⟨v,t,rfl,rk,⟨nt,lt,kt⟩,go⟩:=h
 refine⟨_,(Z4 (Z8 (PW.pt (@iF _ _ _ _ _ _ _ (Zo (Z3 (lB K rfl) z_isinstance PyProof.Rows.boot_isinstance (Z1 (va lJ 0) (Z9 (Zg (v:=.ty "str") z_str))))) (@f9 _ _ _ _ (@d9 _ _ _ _ (eT (va lJ 0) (fun _=>rfl)))))) (aV b8)) (Zc (Zf (Zj (Z1 (Z0 NO (Z1 (Zb aN (va lJ 0)) aj)) (Z1 (Z6 aZ z_tuple PyProof.Rows.boot_tuple (Z1 (Za (ae kH) ["item"] ["part"] (@fJ _ _ _ _ (cC ic (va lJ 0) (cN ao) cV)) (fun _ _ _ _=>(Z2 (i:=0) (show(["part"]:List Str).Nodup by decide +kernel))) (fun _ _ _ _=>(Z0 KWO (Z1 (va (show Nm ["part"] _ by show _=_;kernel_rfl) 0) (Z1 (Zj (dP ak (Z9 ak))) aj))))) aj)) aj)))))),?_⟩
 try dsimp only[aU]
 try dsimp only[aU]
 unfold tu at rk
 rw[RK]at rk
 obtain⟨a,us,rfl,_,ha,rks⟩:=rk
 rw[xN]at rks
 obtain⟨v1,us1,rfl,r1,rs1⟩:=rks
 obtain rfl:=oY r1
 have rs1:=uH.mp rs1
 have lu:=rs1.len
 rw[List.length_map]at lu
 have a0:cK (V.str t.1::us1) 0=some (V.str t.1):=iS _ _
 have ec:fH (V.str t.1::us1) (some 1) none=us1:=fF _ _
 have tr:xS K (.ref a) H true:=.inl ⟨_,bB.of ha,rfl⟩
 fail "R"
 refine .inl ⟨a,_,rfl,bB.of ha,?_⟩
 fail "R"
 intro H1 s1
 have ha1:=s1 _ _ ha
 fail "R"
 intro p2 hp2
 rw[ec]
 have s2:=ah hp2 (.lst us1)
 have h2:upd H1 p2 (.lst us1) p2=some (.lst us1):=aa
 generalize upd H1 p2 (.lst us1)=H2 at s2 h2⊢
 have rs2:=qX (s1.trans s2) rs1
 fail "R"
 refine jj (K:=K) (xs:=us1) (fun i σ ws Hc=>(∃y,σ=[y])/\DL K H2 (t.2.map Es) i ws Hc) ⟨⟨_,rfl⟩,DL.nil⟩ (fun i σ ws Hc hi ⟨_,i2⟩=>by rw[i2.len];have:=lt;omega) (small (by omega)) ?_ ?_ ?_
 ·rintro i σ ws Hc hi ⟨_,i2⟩
  exact bB.of (i2.s _ _ h2)
 ·rintro i xv σ ws Hc hxv ⟨⟨y,rfl⟩,i2⟩
  obtain⟨b,hb,rb⟩:=rs2.get hxv
  rw[List.getElem?_map]at hb
  obtain⟨k,hk,rfl⟩:=Option.map_eq_some_iff.mp hb
  obtain⟨ko,kc⟩:=kt k (List.mem_of_getElem? hk)
  fail "R"
  intro p3 hp3
  have s3:=ah hp3 (.tup [.str "any",.str "open"])
  have h3:upd Hc p3 (.tup [.str "any",.str "open"]) p3=some (.tup [.str "any",.str "open"]):=aa
  generalize upd Hc p3 (.tup [.str "any",.str "open"])=H3 at s3 h3⊢
  have rb3:=nV (i2.s.trans s3) rb
  have sq3:bf K H3 p3 ([("any":Str),"open"].map V.str):=bf.of h3
  have kc3:((("open":Str)∈[("any":Str),"open"])->k.1.cl=true):=fun _=>kc
  fail "R"
  intro v4 H4 s4 r4
  exact⟨⟨_,rfl⟩,i2.snoc (by rw[List.getElem?_map,hk];rfl) (s3.trans s4) r4⟩
 ·rintro σ ws Hc ⟨_,i2⟩ p4 hp4
  have r4:=i2.r
  rw[List.take_of_length_le (by rw[List.length_map];omega)]at r4
  have s4:=ah hp4 (.lst ws)
  have h4:upd Hc p4 (.lst ws) p4=some (.lst ws):=aa
  generalize upd Hc p4 (.lst ws)=H4 at s4 h4⊢
  refine⟨p4,ws,rfl,.inl ⟨bB.of h4,fun p5 hp5=>?_⟩⟩
  have s5:=ah hp5 (.tup ws)
  have h5:upd H4 p5 (.tup ws) p5=some (.tup ws):=aa
  generalize upd H4 p5 (.tup ws)=H5 at s5 h5⊢
  fail "R"
  intro p6 hp6
  have s6:=ah hp6 (.tup [.str t.1,.ref p5])
  refine go _ _ ((((s1.trans s2).trans i2.s).trans (s4.trans s5)).trans s6) ?_
  exact Rp.new (K:=K) hp6 (.cons .s (.one (Rp.t (bf.of h5) (r4.same (s4.trans s5)))))
theorem i8:Nm ["item"] (ae jK):=by decide +kernel
theorem xw:aH ["item"] ["item"] (ae jK):=⟨rfl,rfl,rfl,by decide +kernel,rfl,by decide +kernel,by decide +kernel⟩
theorem xx{f:Addr}{fd:FuncData}(F:eN K "param_of" "param_of" jK f fd)(NO:bE P w K mg base "name_of" 2 ["item"] fc gN nfd)(KWO:bE P w K mg base "kind_without" 5 ["item","sorts"] (DK K [("any":Str)]) gW wfd)(z_isinstance:mg "isinstance"=none)(z_str:mg "str"=none)(z_len:mg "len"=none):bK P w K mg base d8 6 f fd ["item"] (tE K):=by
 refine F.ok xw (fun vs H Q E h=>?_) (fun cdv A outer s H vs Q E hr h=>?_)
 ·obtain⟨_,_,rfl,_⟩:=h
  rfl
 obtain⟨v,t,rfl,rk,⟨nt,ko⟩,go⟩:=h
 refine⟨_,(Z4 (Z8 (PW.pt (@iF _ _ _ _ _ _ _ (Zo (Z3 (lB K rfl) z_isinstance PyProof.Rows.boot_isinstance (Z1 (va i8 0) (Z9 (Zg (v:=.ty "str") z_str))))) (@f9 _ _ _ _ (Zr ji (Z3 aY z_len PySem.boot_len (Z9 (va i8 0))) ao)))) (aV b8)) (Zc (Zf (Zj (Z1 (Z0 NO (Z1 (Zb aN (va i8 0)) aj)) (Z1 (Z0 KWO (Z1 (Zb aN (va i8 0)) (Z1 (qv (Z9 ak)) aj))) aj)))))),?_⟩
 try dsimp only[aU]
 try dsimp only[aU]
 unfold oA at rk
 rw[RK]at rk
 obtain⟨a,us,rfl,_,ha,rks⟩:=rk
 rw[xN]at rks
 obtain⟨v1,us1,rfl,r1,rs1⟩:=rks
 obtain rfl:=oY r1
 rw[xN]at rs1
 obtain⟨v2,us2,rfl,r2,rs2⟩:=rs1
 rw[xN]at rs2
 subst rs2
 fail "R"
 refine .inl ⟨a,_,rfl,bB.of ha,?_⟩
 fail "R"
 intro H1 s1
 have ha1:=s1 _ _ ha
 fail "R"
 intro p3 hp3
 have s3:=ah hp3 (.tup [.str "any"])
 have h3:upd H1 p3 (.tup [.str "any"]) p3=some (.tup [.str "any"]):=aa
 generalize upd H1 p3 (.tup [.str "any"])=H3 at s3 h3⊢
 have rb3:=nV (s1.trans s3) r2
 have sq3:bf K H3 p3 ([("any":Str)].map V.str):=bf.of h3
 have kc3:((("open":Str)∈[("any":Str)])->t.2.1.cl=true):=fun z=>absurd z (by decide +kernel)
 fail "R"
 intro v4 H4 s4 r4
 fail "R"
 intro p6 hp6
 refine go _ _ (((s1.trans s3).trans s4).trans (Zs hp6)) ?_
 exact Rp.new (K:=K) hp6 (.cons .s (.one r4))
end
noncomputable abbrev RT(K:PySem.W.Frag):BO:=fun _ H b v=>Rp K H (val b) v
theorem J1(K:PySem.W.Frag):uC (RT K):=⟨fun h k=>h.kt k.kt,fun h _=>h,fun _ _ w=>by show Rp _ _ (val (.a w)) _;rw[val];exact .s⟩
theorem Ah{K:PySem.W.Frag}{M:List Addr}{H:Hp}:∀{ws:List Bw}{us:List V},uD (RT K) M H ws us->aX K H (ws.map val) us
 | [],us,e=>by
  have e:us=[]:=e
  subst e
  exact .nil
 |b::r,us,⟨v,q,e,h1,h2⟩=>by
  subst e
  exact .cons h1 (Ah h2)
noncomputable def DN(K:PySem.W.Frag):Sp:=fun vs H Q _=>∃tm:Tm,vs=[.str (au (bw tm).txt)]/\cX tm/\Wd tm/\(bw tm).txt.length<=3000/\∀v' H',aL H H'->Rp K H' (enc tm) v'->Q v' H'
section
variable {P:Program}{w:World}{K:PySem.W.Frag}{mg:Str->Option Value}{base:Heap}{gK gS gT:Addr}{kfd sfd tfd:FuncData}
theorem uW:Nm ["text"] (ae iY):=by decide +kernel
theorem uX:aH ["text"] ["text"] (ae iY):=⟨rfl,rfl,rfl,by decide +kernel,rfl,by decide +kernel,by decide +kernel⟩
theorem FT{f:Addr}{fd:FuncData}{jc js:Nat}(hj:3<=js)(F:eN K "read_term" "read_term" iY f fd)(KL:bE P w K mg base "close_term" jc ["opener","items"] (jM (RT K) GJ) gK kfd)(SC1:bE P w K mg base "scanned_one" js ["text","close"] (zP (RT K) GJ gK) gS sfd)(TO:bE P w K mg base "term_of" 3 ["item"] (jB K) gT tfd):bK P w K mg base d8 (js+1) f fd ["text"] (DN K):=by
 refine F.ok uX (fun vs H Q E h=>?_) (fun cdv A outer s H vs Q E hr h=>?_)
 ·obtain⟨_,rfl,_⟩:=h
  rfl
 obtain⟨tm,rfl,ht,hw,hl,k⟩:=h
 refine⟨_,(Zc (Zf (Z0 TO (Z1 (Z0 SC1 (Z1 (va uW 0) (Z9 (d7 (v:=.ref gK) (by show _=_;kernel_rfl) KL.at' rfl)))) aj)))),?_⟩
 try dsimp only[aU]
 try dsimp only[aU,rT]
 have hb:=JU ht
 have hg:GJ (bw tm):=⟨.t ht,Ia hw⟩
 fail "R"
 intro v H1 s1 r1
 have r1:Rp K H1 (val (bw tm)) v:=r1
 rw[je ht]at r1
 fail "R"
 intro v' H2 s2 r2
 exact k _ _ (s1.trans s2) r2
end
noncomputable def GQ(K:PySem.W.Frag):Sp:=fun vs H Q _=>∃k:Ki,vs=[.str (au (qc k))]/\xu k/\∀v' H',aL H H'->Rp K H' (Et k) v'->Q v' H'
noncomputable def GR(K:PySem.W.Frag):Sp:=fun vs H Q _=>∃d:Df,vs=[.str (au (qd d))]/\pR d/\∀v' H',aL H H'->Rp K H' (GL d) v'->Q v' H'
theorem tF(x y:V)(us:List V):fH (x::y::us) (some 2) none=us:=by
 rw[show(some (2:Int))=some ((2:Nat):Int)from rfl,lA]
 rfl
section
variable {P:Program}{w:World}{K:PySem.W.Frag}{mg:Str->Option Value}{base:Heap}{gK gS gN gT gR:Addr}{kfd sfd nfd tfd rfd:FuncData}
theorem eL:Nm ["row","items"] (ae cY):=by decide +kernel
theorem oZ:Lm ["row","items"] (ae cY):=by decide +kernel
theorem jE:aH ["row","items"] ["row"] (ae cY):=⟨rfl,rfl,rfl,by decide +kernel,rfl,by decide +kernel,by decide +kernel⟩
theorem Iz{f:Addr}{fd:FuncData}{js:Nat}(hj:6<=js)(F:eN K "read_kind_row" "read_kind_row" cY f fd)(KL:bE P w K mg base "kept_list" 1 ["opener","items"] (jM RK qY) gK kfd)(SC:bE P w K mg base "scanned" js ["text","close"] (uE RK qY gK) gS sfd)(NO:bE P w K mg base "name_of" 2 ["item"] fc gN nfd)(TGF:bE P w K mg base "tag_of" 6 ["item"] (Ag K) gT tfd)(z_len:mg "len"=none)(z_tuple:mg "tuple"=none):bK P w K mg base d8 (js+1) f fd ["row"] (GQ K):=by
 refine F.ok jE (fun vs H Q E h=>?_) (fun cdv A outer s H vs Q E hr h=>?_)
 ·obtain⟨_,rfl,_⟩:=h
  rfl
 obtain⟨k,rfl,ko,go⟩:=h
 refine⟨_,(Z4 (Z5 jE.nd oZ 1 (Z0 SC (Z1 (va eL 0) (Z9 (d7 (v:=.ref gK) (by show _=_;kernel_rfl) KL.at' rfl))))) (Z4 (Z8 (Zr ny (Z3 aY z_len PySem.boot_len (Z9 (va eL 1))) ao) (aV b8)) (Zc (Zf (Zj (Z1 (Z0 NO (Z1 (Zb aN (va eL 1)) aj)) (Z1 (Z6 aZ z_tuple PyProof.Rows.boot_tuple (Z1 (Za (ae cY) ["row","items"] ["item"] (@fJ _ _ _ _ (cC ic (va eL 1) (cN ao) cV)) (fun _ _ _ _=>(Z2 (i:=0) (show(["item"]:List Str).Nodup by decide +kernel))) (fun _ _ _ _=>(Z0 TGF (Z9 (va (show Nm ["item"] _ by show _=_;kernel_rfl) 0))))) aj)) aj))))))),?_⟩
 try dsimp only[aU]
 try dsimp only[aU]
 obtain⟨nk,l1,l3,kt⟩:=id ko
 have bo:=Ij ko
 have bg:=Im k
 have bl:(Bw.bC (rN k)).length<=3000:=by have:=qe ko;unfold qc at this;omega
 have bn:rN k≠[]:=by unfold rN;simp
 unfold qc
 fail "R"
 intro p us H1 s1 h1 r1
 unfold rN at r1
 obtain⟨v1,us1,rfl,e1,v2,us2,rfl,e2,r3⟩:=r1
 obtain rfl:=oY e1
 obtain rfl:=oY e2
 have lu:=r3.len
 rw[List.length_map]at lu
 have a1:cK (V.str "kind"::V.str k.1::us2) 1=some (V.str k.1):=bh (j:=1) rfl
 have ec:=tF (V.str "kind") (V.str k.1) us2
 have z2:(V.str "kind"::V.str k.1::us2).length<=sizeLine:=small (by simp only[List.length_cons];omega)
 have hlt:¬((decide (((V.str "kind"::V.str k.1::us2).length:Int)<3))=true):=by
  rw[decide_eq_true_iff];simp only[List.length_cons];omega
 fail "R"
 refine dG (fun z=>absurd z hlt) (fun _=>?_)
 fail "R"
 intro H2 s2
 have h2:=s2 _ _ h1
 fail "R"
 intro p3 hp3
 rw[ec]
 have s3:=ah hp3 (.lst us2)
 have h3:upd H2 p3 (.lst us2) p3=some (.lst us2):=aa
 generalize upd H2 p3 (.lst us2)=H3 at s3 h3⊢
 have rs3:=qX (s2.trans s3) r3
 fail "R"
 refine jj (K:=K) (xs:=us2) (fun i σ ws Hc=>(∃y,σ=[y])/\DL K H3 (k.2.map FO) i ws Hc) ⟨⟨_,rfl⟩,DL.nil⟩ (fun i σ ws Hc hi ⟨_,i2⟩=>by rw[i2.len];omega) (small (by omega)) ?_ ?_ ?_
 ·rintro i σ ws Hc hi ⟨_,i2⟩
  exact bB.of (i2.s _ _ h3)
 ·rintro i xv σ ws Hc hxv ⟨⟨y,rfl⟩,i2⟩
  obtain⟨b,hb,rb⟩:=rs3.get hxv
  rw[List.getElem?_map]at hb
  obtain⟨t,ht,rfl⟩:=Option.map_eq_some_iff.mp hb
  have to:=kt t (List.mem_of_getElem? ht)
  have rb3:=nV i2.s rb
  fail "R"
  intro v4 H4 s4 r4
  exact⟨⟨_,rfl⟩,i2.snoc (by rw[List.getElem?_map,ht];rfl) s4 r4⟩
 ·rintro σ ws Hc ⟨_,i2⟩ p4 hp4
  have r4:=i2.r
  rw[List.take_of_length_le (by rw[List.length_map];omega)]at r4
  have s4:=ah hp4 (.lst ws)
  have h4:upd Hc p4 (.lst ws) p4=some (.lst ws):=aa
  generalize upd Hc p4 (.lst ws)=H4 at s4 h4⊢
  refine⟨p4,ws,rfl,.inl ⟨bB.of h4,fun p5 hp5=>?_⟩⟩
  have s5:=ah hp5 (.tup ws)
  have h5:upd H4 p5 (.tup ws) p5=some (.tup ws):=aa
  generalize upd H4 p5 (.tup ws)=H5 at s5 h5⊢
  fail "R"
  intro p6 hp6
  refine go _ _ ((((s1.trans s2).trans s3).trans (i2.s.trans (s4.trans s5))).trans (Zs hp6)) ?_
  exact Rp.new (K:=K) hp6 (.cons .s (.one (Rp.t (bf.of h5) (r4.same (s4.trans s5)))))
theorem cI:Nm ["row","head","mark","text","items"] (ae dJ):=by decide +kernel
theorem fu:Lm ["row","head","mark","text","items"] (ae dJ):=by decide +kernel
theorem dU:aH ["row","head","mark","text","items"] ["row"] (ae dJ):=⟨rfl,rfl,rfl,by decide +kernel,rfl,by decide +kernel,by decide +kernel⟩
theorem IA{f:Addr}{fd:FuncData}{js:Nat}(hj:9<=js)(F:eN K "read_def_row" "read_def_row" dJ f fd)(KL:bE P w K mg base "kept_list" 1 ["opener","items"] (jM RK qY) gK kfd)(SC:bE P w K mg base "scanned" js ["text","close"] (uE RK qY gK) gS sfd)(NO:bE P w K mg base "name_of" 2 ["item"] fc gN nfd)(PAF:bE P w K mg base "param_of" 6 ["item"] (tE K) gT tfd)(RDT:bE P w K mg base "read_term" js ["text"] (DN K) gR rfd)(z_len:mg "len"=none)(z_tuple:mg "tuple"=none):bK P w K mg base d8 (js+1) f fd ["row"] (GR K):=by
 refine F.ok dU (fun vs H Q E h=>?_) (fun cdv A outer s H vs Q E hr h=>?_)
 ·obtain⟨_,rfl,_⟩:=h
  rfl
 obtain⟨d,rfl,ko,go⟩:=h
 refine⟨_,(Z4 (@oF _ _ _ _ _ _ (cz PySem.F.plainAttrs_str PySem.F.slot_str_partition PySem.F.type_str_partition DG (va cI 0) (Z9 ak) (hbase:=by kernel_rfl) (hfew:=by kernel_rfl) (hline:=by kernel_rfl) (hs:=by kernel_rfl) (hplain:=by kernel_rfl)) (Zh (3) (Zq (ga dU.nd fu 1) (Zq (ga dU.nd fu 2) (bW (ga dU.nd fu 3) cM)))) (by rfl) (by rfl) (by rfl)) (Z4 (Z5 dU.nd fu 4 (Z0 SC (Z1 (va cI 1) (Z9 (d7 (v:=.ref gK) (by show _=_;kernel_rfl) KL.at' rfl))))) (Z4 (Z8 (PW.pt (@iF _ _ _ _ _ _ _ (Zr ny (Z3 aY z_len PySem.boot_len (Z9 (va cI 4))) ao) (@f9 _ _ _ _ (Zr ji (Zb aN (va cI 4)) ak)))) (aV b8)) (Zc (Zf (Zj (Z1 (Z0 NO (Z1 (Zb aN (va cI 4)) aj)) (Z1 (Z6 aZ z_tuple PyProof.Rows.boot_tuple (Z1 (Za (ae dJ) ["row","head","mark","text","items"] ["item"] (@fJ _ _ _ _ (cC ic (va cI 4) (cN ao) cV)) (fun _ _ _ _=>(Z2 (i:=0) (show(["item"]:List Str).Nodup by decide +kernel))) (fun _ _ _ _=>(Z0 PAF (Z9 (va (show Nm ["item"] _ by show _=_;kernel_rfl) 0))))) aj)) (Z1 (Z0 RDT (Z9 (va cI 3))) aj))))))))),?_⟩
 try dsimp only[aU]
 try dsimp only[aU]
 have bo:=Il ko
 have bg:=Io d
 have b3:=uU ko
 have bl:(Bw.bC (rY d)).length<=3000:=by omega
 have bn:rY d≠[]:=by unfold rY;simp
 have b61:=Iw ko
 obtain⟨nk,l3,kt,tok,twd,tln⟩:=ko
 have bz:(Bw.bC (rY d)++(hU++(bw d.2.2).txt)).length<=100000:=by rw[List.length_append,List.length_append];show _+(3+_)<=_;omega
 unfold qd
 fail "R"
 intro p0 hp0
 have s0:=ah hp0 (.tup [.str (au (Bw.bC (rY d))),.str (au hU),.str (au (bw d.2.2).txt)])
 have h0:upd H p0 (.tup [.str (au (Bw.bC (rY d))),.str (au hU),.str (au (bw d.2.2).txt)]) p0=some (.tup [.str (au (Bw.bC (rY d))),.str (au hU),.str (au (bw d.2.2).txt)]):=aa
 generalize upd H p0 (.tup [.str (au (Bw.bC (rY d))),.str (au hU),.str (au (bw d.2.2).txt)])=H0 at s0 h0⊢
 fail "R"
 intro p us H1 s1 h1 r1
 unfold rY at r1
 obtain⟨v1,us1,rfl,e1,v2,us2,rfl,e2,r3⟩:=r1
 obtain rfl:=oY e1
 obtain rfl:=oY e2
 have lu:=r3.len
 rw[List.length_map]at lu
 have a0:cK (V.str "def"::V.str d.1::us2) 0=some (V.str "def"):=iS _ _
 have a1:cK (V.str "def"::V.str d.1::us2) 1=some (V.str d.1):=bh (j:=1) rfl
 have ec:=tF (V.str "def") (V.str d.1) us2
 have hlt:¬((decide (((V.str "def"::V.str d.1::us2).length:Int)<2))=true):=by
  rw[decide_eq_true_iff];simp only[List.length_cons];omega
 have z2:(V.str "def"::V.str d.1::us2).length<=sizeLine:=small (by simp only[List.length_cons];omega)
 fail "R"
 intro H2 s2
 have h2:=s2 _ _ h1
 fail "R"
 intro p3 hp3
 rw[ec]
 have s3:=ah hp3 (.lst us2)
 have h3:upd H2 p3 (.lst us2) p3=some (.lst us2):=aa
 generalize upd H2 p3 (.lst us2)=H3 at s3 h3⊢
 have rs3:=qX (s2.trans s3) r3
 fail "R"
 refine jj (K:=K) (xs:=us2) (fun i σ ws Hc=>(∃y,σ=[y])/\DL K H3 (d.2.1.map Eu) i ws Hc) ⟨⟨_,rfl⟩,DL.nil⟩ (fun i σ ws Hc hi ⟨_,i2⟩=>by rw[i2.len];omega) (small (by omega)) ?_ ?_ ?_
 ·rintro i σ ws Hc hi ⟨_,i2⟩
  exact bB.of (i2.s _ _ h3)
 ·rintro i xv σ ws Hc hxv ⟨⟨y,rfl⟩,i2⟩
  obtain⟨b,hb,rb⟩:=rs3.get hxv
  rw[List.getElem?_map]at hb
  obtain⟨t,ht,rfl⟩:=Option.map_eq_some_iff.mp hb
  have to:=kt t (List.mem_of_getElem? ht)
  have rb3:=nV i2.s rb
  fail "R"
  intro v4 H4 s4 r4
  exact⟨⟨_,rfl⟩,i2.snoc (by rw[List.getElem?_map,ht];rfl) s4 r4⟩
 ·rintro σ ws Hc ⟨_,i2⟩ p4 hp4
  have r4:=i2.r
  rw[List.take_of_length_le (by rw[List.length_map];omega)]at r4
  have s4:=ah hp4 (.lst ws)
  have h4:upd Hc p4 (.lst ws) p4=some (.lst ws):=aa
  generalize upd Hc p4 (.lst ws)=H4 at s4 h4⊢
  refine⟨p4,ws,rfl,.inl ⟨bB.of h4,fun p5 hp5=>?_⟩⟩
  have s5:=ah hp5 (.tup ws)
  have h5:upd H4 p5 (.tup ws) p5=some (.tup ws):=aa
  generalize upd H4 p5 (.tup ws)=H5 at s5 h5⊢
  fail "R"
  intro v6 H6 s6 r6
  fail "R"
  intro p7 hp7
  refine go _ _ (((((s0.trans s1).trans s2).trans s3).trans (i2.s.trans (s4.trans s5))).trans (s6.trans (Zs hp7))) ?_
  exact Rp.new (K:=K) hp7 (.cons .s (.cons ((Rp.t (bf.of h5) (r4.same (s4.trans s5))).same s6) (.one r6)))
end
end G09
namespace L2
open PySem PySem.Spec PyProof.Rows
open PySem.AutoSeq1 (wpAny_loadPart')
theorem DO{prog:Program}{w:World}{A:Around}{b:Bool}(hh:A.handled=none)(it l:Addr)(hne:l≠it)(items:Array Value) :
  Draws prog w A it [it,l] items.size (fun i v=>items[i]?=some v) (fun i h=>ow b h it l i/\pD b h l items) where
 live:=fun _ _ st=>st.1.got
 frame:=fun _ _ _ st hk=>⟨st.1.at fun o e=>hk it (by simp) o e,st.2.at fun o e=>hk l (by simp) o e⟩
 item:=fun i s Q E hi st hQ=>by
  refine nQ st.1 st.2 (x:=items[i]) (by simp[hi]) fun h' hit' hs'=>?_
  exact hQ _ h' s.toks (by simp[hi]) ⟨hit',st.2.extBut hs'.extBut hne⟩ hs'
 done:=fun s Q E st hE=>uy hh st.1 st.2 (by simp) hE
set_option maxRecDepth 100000 in
theorem FU(b:Bool)(l:Addr)(items:Array Value) :
  Meets (Builtin.«enumerate.__new__» ⟨[.type "enumerate",.ref l],[]⟩) (fun _ R s=>pD b s.heap l items /\
   R (.ok (.ret (.ref (s.heap.push (kK b l)).objs.size)))
    {s with heap:=(s.heap.push (kK b l)).push {cls:=.type "enumerate",data:=.fields #[.none,.bool false,.ref s.heap.objs.size,rawInt 0,.none,.none]}}) :=
 .of_wp fun prog w A R s h=>by
  obtain⟨hp,g,d,tk,os⟩:=s
  obtain⟨hl0,h⟩:=h
  have hsub:=sub_enumerate
  have hL:pD b (Shared.heap ⟨hp,g,d,tk,os⟩) l items:=hl0
  obtain⟨o,hl⟩:=hl0.got
  obtain⟨oc,od,odt,osl⟩:=o
  wp_walk using wpAny_loadPart' hl
  refine wpAny_stack_any fun st=>wpAny_pure ?_
  split
  ·rename_i c _ _ _ _ _
   cases(c == Value.type "enumerate")
   ·wp_walk using wpAny_loadPart' hl,wj hL
    exact⟨_,rfl,h⟩
   ·wp_walk using wpAny_loadPart' hl,wj hL
    exact⟨_,rfl,h⟩
  ·wp_walk using wpAny_loadPart' hl,wj hL
   exact⟨_,rfl,h⟩
end L2
namespace L2
open PySem PySem.Spec PyProof.Rows
section
variable {prog:Program}{w:World}{A:Around}{E:Value->Shared->Prop}{s:Shared}{b:Bool}
theorem DP{l:Addr}{items:Array Value}{Q:Value->Shared->Prop}(hl:pD b s.heap l items)
  (h:∀h',IsEnum h' (s.heap.objs.size+1) s.heap.objs.size 0 .none->ow b h' s.heap.objs.size l 0->h'.objs.size=s.heap.objs.size+2 ->
   (∀b o,s.heap.get? b=some o->h'.get? b=some o)->Q (.ref (s.heap.objs.size+1)) {s with heap:=h'}) :
  wpAny (model prog w) A (call (.type "enumerate") [.ref l]) Q E s:=by
 refine callType_new PySem.F.called_enumerate (by decide) (PySem.F.typeCall_enumerate_1 _) (PySem.F.newCall_enumerate_1 _) (fun obj=>PySem.F.args_object_init_2 obj _) PySem.F.entry_enumerate_new (FU b l items) ⟨hl,?_⟩
 have hz:(s.heap.push (kK b l)).objs.size=s.heap.objs.size+1:=Heap.size_push ..
 have he:=Heap.get?_push_size (s.heap.push (kK b l)) (o:={cls:=.type "enumerate",data:=.fields #[.none,.bool false,.ref s.heap.objs.size,rawInt 0,.none,.none]}) rfl
 show _/\_
 rw[hz]at he⊢
 exact⟨⟨_,he,rfl⟩,h _ he (CY (Heap.get?_push_of_some _ (Heap.get?_push_size _ rfl))) (by rw[Heap.size_push,hz]) fun b o x=>Heap.get?_push_of_some _ (Heap.get?_push_of_some _ x)⟩
end
noncomputable def J2 (K : PySem.W.Frag) (b : Bool) (l : Addr) : It :=
  ⟨fun i H => ∃ xs x, nj K b H l xs ∧ xs[i]? = some x,
   fun i H v H' => ∃ p x, H p = none ∧ v = .ref p ∧ H' = upd H p (.tup [.int i, x]) ∧ ∀ xs, nj K b H l xs → xs[i]? = some x,
   fun i H => ∃ xs, nj K b H l xs ∧ xs.length = i⟩
theorem Bv{P:Program}{w:World}{K:PySem.W.Frag}{elts:List Expr}{x1:Nat}{pos:Pos}{b:Bool}(e it l:Addr)(d1:e≠it)(d2:l≠it)(d3:l≠e):Turn P w K (.Tuple elts x1 pos) (J2 K b l) [e,it] e
  (fun i h=>(∃old,IsEnum h e it i old)/\ow b h it l i) where
 mem:=by simp
 obj:=fun i h st c hc=>by
  obtain⟨⟨old,he⟩,h1⟩:=st
  simp only[List.mem_cons,List.not_mem_nil,or_false]at hc
  rcases hc with rfl|rfl
  ·exact⟨_,he,fun v z=>by cases z⟩
  ·cases b with
   |false=>obtain⟨o,e,_,d⟩:=(show h.IsListIter _ l i from h1);exact⟨o,e,fun v z=>by rw[d]at z;cases z⟩
   |true=>obtain⟨o,e,_,d⟩:=(show h.IsTupleIter _ l i from h1);exact⟨o,e,fun v z=>by rw[d]at z;cases z⟩
 keep:=fun i h h' st k=>by
  obtain⟨⟨old,he⟩,h1⟩:=st
  exact⟨⟨old,k e (by simp) _ he⟩,h1.at fun o q=>k it (by simp) o q⟩
 item:=by
  intro X hP hw hK hc i pins s σ H E I hf st hg
  subst hP hw hK
  obtain⟨xs,x,hq,hx⟩:=hg
  obtain⟨⟨old,he⟩,h1⟩:=st
  obtain⟨its,rv,p1,_⟩:=jL I hq
  obtain⟨u,hu,ru⟩:=rv.get hx
  have hlt:i<its.toArray.size:=by
   have:=(List.getElem?_eq_some_iff.mp hu).1
   simpa using this
  refine wpAny_pyNext_enum_itemD (DO (A:=X.A.in1) (b:=b) (I.ok.hd hc) it l d2 its.toArray) he ⟨h1,p1⟩ hlt d1 (by simp[d1,Ne.symm d3]) fun y h' tk hy ho hst hT hsz hk=>?_
  have hyu:y=u:=by
   have hy':its[i]?=some y:=by simpa using hy
   rw[hu]at hy'
   exact(Option.some.inj hy').symm
  subst hyu
  refine⟨.ref s.heap.objs.size,rfl,wpAny_letOwnedTupleGo_enum (s:={s with heap:=h',toks:=tk+1}) ho fun h2' he' hs'=>?_⟩
  have ne:∀c∈[e,it],c≠s.heap.objs.size:=fun c hc z=>by
   obtain⟨o,e2⟩:∃o,s.heap.get? c=some o:=by
    simp only[List.mem_cons,List.not_mem_nil,or_false]at hc
    rcases hc with rfl|rfl
    ·exact⟨_,he⟩
    ·exact h1.got
   have:=Heap.lt_size e2
   rw[z]at this
   exact Nat.lt_irrefl _ this
  have kk:∀c o,c∉[e,it]->s.heap.get? c=some o->h2'.get? c=some o:=fun c o hc q=>by
   simp only[List.mem_cons,List.not_mem_nil,or_false,not_or]at hc
   exact(hs'.2 c hc.1).trans (hk c o hc.1 hc.2 q)
  have hT':h2'.get? s.heap.objs.size=some {cls:=.type "tuple",data:=.seq #[.int i tk,y]}:=(hs'.2 _ (ne e (by simp)).symm).trans hT
  refine⟨.ref s.heap.objs.size,upd H s.heap.objs.size (.tup [.int i,x]),I.zI (t':=tk+1) hf kk (Nat.le_refl _) ⟨(by show 2<=sizeLine;decide),_,.cons ⟨tk,rfl⟩ (.cons ru .nil),⟨_,hT',rfl,_,rfl⟩,_,hT',rfl⟩,rfl,
   ⟨_,x,I.hok.fresh (Nat.le_refl _),rfl,rfl,fun zs hz2=>by rw[nj.inj I hz2 hq];exact hx⟩,?_,fun c hc=>?_⟩
  ·exact⟨⟨_,by simpa using he'⟩,hst.1.at fun o q=>(hs'.2 it (Ne.symm d1)).trans q⟩
  ·rw[ay (ne c hc)];exact(hf c hc).1
 done:=by
  intro X hP hw hK hc i pins s σ H E I hf st hg
  subst hP hw hK
  obtain⟨xs,hq,hl⟩:=hg
  obtain⟨⟨old,he⟩,h1⟩:=st
  obtain⟨its,rv,p1,_⟩:=jL I hq
  have e1:=rv.length
  have ei:i=its.toArray.size:=by simp;omega
  rw[ei]at h1
  refine wpAny_pyNext_enum_endD (DO (A:=X.A.in1) (b:=b) (I.ok.hd hc) it l d2 its.toArray) he ⟨h1,p1⟩ fun h' hk=>⟨rfl,I.zH (t':=s.toks) hf fun c o hc q=>?_⟩
  simp only[List.mem_cons,List.not_mem_nil,or_false,not_or]at hc
  exact hk c o hc.2 q
 self:=fun _ _ _ _ _ st h=>let⟨_,he⟩:=st.1;wpAny_pyIter_enum he h
noncomputable def Ka(K:PySem.W.Frag)(t:TA):TI:=fun σ H R=>t σ H fun vs H2=>∃b p xs,vs=[.ref p]/\nj K b H2 p xs/\R (J2 K b p) H2
theorem Ai{X:Cx}{a:Expr}{t:TA}{p1 p2 pos:Pos}{elts:List Expr}{x1:Nat}(K:PySem.W.Frag)(hK:X.K=K)(hg:Gl X "enumerate")(hm:X.mg "enumerate"=none)(ha:PA X [a] t)
  (he:starEach [a] X.env=(false,eval a X.env)::starEach [] X.env:=by rfl) (hpl:(backTo p2 (starEach [] X.env)).any (·.1)=false:=by rfl):PI X (.Tuple elts x1 pos) (.Call (.Name "enumerate" p1) [a] [] p2) (Ka K t):=by
 subst hK
 intro pins s σ H R I h
 refine wpAny_Call_Name_kw (oB I hg hm (u:=.type "enumerate") (by decide +kernel) ?_ (by decide) (by decide))
 refine PyProof.Rows.callWith_type1 ?_ he hpl
 refine cF (ha p2 pins s σ H _ I h) fun us s1 ⟨vs,H1,I1,r1,q1⟩=>?_
 obtain⟨c,p,xs,rfl,hx,hq⟩:=q1
 obtain⟨u,rfl,ru⟩:=vals1 r1
 obtain rfl:u=Value.ref p:=ru
 obtain⟨its,rv,pl,_⟩:=jL I1 hx
 have lt1:@LT.lt Nat _ p s1.heap.objs.size:=by obtain⟨_,e⟩:=pl.got;exact Heap.lt_size e
 refine DP pl fun g hz h1 hsz hk=>?_
 refine wpAny_pyIter_enum (s:={s1 with heap:=g}) hz ?_
 refine⟨s1.heap.objs.size+1,[s1.heap.objs.size+1,s1.heap.objs.size],_,_,H1,rfl,I1.kept (t':=s1.toks) hk,Bv _ _ p (by show @Ne Nat _ _;omega) (by show @Ne Nat _ _;omega) (by show @Ne Nat _ _;omega),⟨⟨_,hz⟩,h1⟩,fun b hb=>?_,hq⟩
 have hb':s1.heap.objs.size<=b:=by
  simp only[List.mem_cons,List.not_mem_nil,or_false]at hb
  rcases hb with rfl|rfl
  ·exact Nat.le_add_right _ 1
  ·exact Nat.le_refl _
 exact I1.xP hb' (I1.hok.fresh hb')
theorem xy{K:PySem.W.Frag}{b:Bool}{a:Addr}{xs:List V}{g:TG}{tb:TS}{D:Ends}{σ:St}{H:Hp}(Pv:Nat->St->Hp->Prop)(h0:Pv 0 σ H)(hl:∀i σ H,i<=xs.length->Pv i σ H->nj K b H a xs)
  (hs:∀i x σ H p,xs[i]?=some x->Pv i σ H->H p=none->g (.ref p) σ (upd H p (.tup [.int i,x])) fun σ2 H2=>tb {D with nx:=Pv (i+1),ct:=Pv (i+1),bk:=D.nx} σ2 H2) (hd:∀σ H,Pv xs.length σ H->D.nx σ H) :
  ∃W:Nat->Nat->St->Hp->Prop,(∃m,W 0 m σ H)/\∀i m σ H,W i m σ H ->
   ((J2 K b a).stop i H/\D.nx σ H)\/((J2 K b a).go i H/\∃N:St->Hp->Prop,(∀σ' H',N σ' H'->∃m',m' < m/\W (i+1) m' σ' H')/\∀x H',(J2 K b a).yld i H x H'->g x σ H' fun σ2 H2=>tb {D with nx:=N,ct:=N,bk:=D.nx} σ2 H2):=by
 refine⟨fun i m σ H=>m=xs.length-i/\i<=xs.length/\Pv i σ H,⟨xs.length,by simp,Nat.zero_le _,h0⟩,?_⟩
 rintro i m σ H ⟨rfl,hi,p⟩
 have q1:=hl i σ H hi p
 by_cases hlt:i<xs.length
 ·refine .inr ⟨⟨xs,xs[i],q1,by simp[hlt]⟩,Pv (i+1),fun σ' H' p'=>⟨xs.length - (i+1),by omega,rfl,hlt,p'⟩,fun x H' y=>?_⟩
  obtain⟨pp,x',hp,rfl,rfl,e1⟩:=y
  exact hs i x' σ H pp (e1 xs q1) p hp
 ·have e:i=xs.length:=by omega
  subst e
  exact .inl ⟨⟨xs,q1,rfl⟩,hd σ H p⟩
section
variable {K:PySem.W.Frag}{σ0:St}{H0:Hp}{g:TG}{tt:TT}{te:TE}{Q:VK}
end
end L2
namespace G09
open PySem L2
theorem DQ{l y:List Nat}(h:l.take y.length=y):Txt.startswith (au l) (au y)=true:=by
 unfold Txt.startswith
 have h1:0+(au y).length<=(au l).length:=by
  rw[aI,aI]
  have:=congrArg List.length h
  rw[List.length_take]at this
  omega
 rw[decide_eq_true h1]
 show((au l).cps.extract 0 (0+(au y).length) == (au y).cps)=true
 rw[lH,aI,List.drop_zero,show 0+y.length-0=y.length by omega,h]
 exact beq_self_eq_true _
theorem DR{l y:List Nat}(h:l.take y.length≠y):Txt.startswith (au l) (au y)=false:=by
 unfold Txt.startswith
 have:Builtin.Str.subAt (au l) (au y) 0=false:=by
  show((au l).cps.extract 0 (0+(au y).length) == (au y).cps)=false
  refine beq_eq_false_iff_ne.mpr fun e=>h ?_
  rw[lH,aI,List.drop_zero,show 0+y.length-0=y.length by omega]at e
  exact congrArg Array.toList e
 rw[this,Bool.and_false]
noncomputable abbrev LM:List Nat:=[107,105,110,100,32]
theorem Bx(k:Ki):Txt.startswith (au (qc k)) "kind "=true:=by
 refine DQ (y:=LM) ?_
 unfold qc rN
 rw[Bw.bC,Bw.bP]
 have e:(bF "kind").txt=[107,105,110,100]:=by unfold bF;rw[Bw.txt];decide +kernel
 rw[e]
 rfl
theorem By(d:Df):Txt.startswith (au (qd d)) "kind "=false:=by
 refine DR (y:=LM) ?_
 unfold qd rY
 rw[Bw.bC]
 have e:(bF "def").txt=[100,101,102]:=by unfold bF;rw[Bw.txt];decide +kernel
 rw[e]
 intro z
 have z2:=congrArg List.head? z
 cases z2
noncomputable def dh(kis:List Ki)(ds:List Df):List Str:=kis.map (fun k=>au (qc k))++ds.map fun d=>au (qd d)
noncomputable def mh(kis:List Ki)(ds:List Df):Str:=Txt.join "\n" (dh kis ds)
structure mZ(kis:List Ki) (ds:List Df):Prop where
 k:∀k∈kis,xu k
 d:∀d∈ds,pR d
 k3:kis.length<=3
 d1:1<=ds.length
 d3:ds.length<=3
theorem xA(z:Str):∀l:List Str,(Str.join z l).length<=(l.map (·.length)).sum+l.length*z.length
 | []=>by show 0<=_;omega
 | [p]=>by show p.length<=_;simp
 |p::q::r=>by
  have:=xA z (q::r)
  show(p++z++Str.join z (q::r)).length<=_
  rw[strLen_append,strLen_append]
  simp only[List.map_cons,List.sum_cons,List.length_cons,Nat.succ_mul]at this⊢
  omega
theorem uY{m:Nat}:∀{l:List Str},(∀x∈l,x.length<=m)->(l.map (·.length)).sum<=l.length*m
 | [],_=>by simp
 |x::r,h=>by
  have h1:=h x (.head _)
  have h2:=uY (l:=r) fun y hy=>h y (.tail _ hy)
  simp only[List.map_cons,List.sum_cons,List.length_cons,Nat.succ_mul]
  omega
section
variable {kis:List Ki}{ds:List Df}
theorem mZ.row(o:mZ kis ds):∀x∈dh kis ds,x.length<=4000/\10∉x.cps.toList:=fun x hx=>by
 rcases List.mem_append.mp hx with hx|hx
 ·obtain⟨k,hk,rfl⟩:=List.mem_map.mp hx
  have:=qe (o.k k hk)
  exact⟨by rw[aI];omega,by rw[aA];exact Iv (o.k k hk)⟩
 ·obtain⟨d,hd,rfl⟩:=List.mem_map.mp hx
  have h1:=uU (o.d d hd)
  have h2:=(o.d d hd).2.2.2.2.2
  refine⟨?_,by rw[aA];exact Iu (o.d d hd)⟩
  rw[aI]
  unfold qd
  rw[List.length_append,List.length_append]
  show _+(3+_)<=_
  omega
theorem mZ.rl(o:mZ kis ds):(dh kis ds).length<=6/\dh kis ds≠[]:=by
 have h1:=o.k3
 have h2:=o.d1
 have h3:=o.d3
 have e:(dh kis ds).length=kis.length+ds.length:=by unfold dh;rw[List.length_append,List.length_map,List.length_map]
 exact⟨by omega,fun z=>by rw[z]at e;have e:0=_:=e;omega⟩
theorem mZ.len(o:mZ kis ds):(mh kis ds).length<=100000:=by
 unfold mh
 show(Builtin.Str.glued _ _).length<=_
 rw[StrLaws.glued_eq_join]
 have h1:=xA (Str.ofString "\n") (dh kis ds)
 have h2:=uY (m:=4000) fun x hx=>(o.row x hx).1
 have h3:=o.rl.1
 have h4:(Str.ofString "\n").length=1:=rfl
 rw[h4]at h1
 omega
theorem mZ.split(o:mZ kis ds):Txt.split (mh kis ds) "\n"=dh kis ds:=by
 unfold mh
 show Txt.split (Builtin.Str.glued (Str.ofString "\n") _) ⟨#[10]⟩=_
 rw[StrLaws.glued_eq_join]
 have h1:=ug (c:=10) o.rl.2 fun x hx=>(o.row x hx).2
 have h2:=vR (Str.join ⟨#[10]⟩ (dh kis ds)) 10
 rw[h1]at h2
 have inj:∀(a b:List Str),a.map (fun p=>p.cps.toList)=b.map (fun p=>p.cps.toList)->a=b:=by
  intro a
  induction a with
  |nil=>intro b h;cases b with|nil=>rfl|cons=>cases h
  |cons x r ih =>
   intro b h
   cases b with
   |nil=>cases h
   |cons y q =>
    injection h with e1 e2
    rw[ih q e2,←az x,←az y,show x.cps.toList=y.cps.toList from e1]
 exact inj _ _ h2
end
noncomputable def FW(kis:List Ki)(ds:List Df):T:=.t [.t (kis.map Et),.t (ds.map GL)]
noncomputable def GS(K:PySem.W.Frag):Sp:=fun vs H Q _=>∃(kis:List Ki) (ds:List Df),vs=[.str (mh kis ds)]/\mZ kis ds/\∀v' H',aL H H'->Rp K H' (FW kis ds) v'->Q v' H'
structure Mb(K:PySem.W.Frag) (H0:Hp) (lk ld:Addr) (kis:List Ki) (ds:List Df) (i:Nat) (H:Hp):Prop where
 s:aL H0 H
 x:∃us ws,H lk=some (.lst us)/\H ld=some (.lst ws)/\aX K H ((kis.take i).map Et) us/\aX K H ((ds.take (i-kis.length)).map GL) ws
section
variable {P:Program}{w:World}{K:PySem.W.Frag}{mg:Str->Option Value}{base:Heap}{gK gD:Addr}{kfd dfd:FuncData}
theorem bL:Nm ["text","rows","kinds","defs","at","row"] (ae eo):=by decide +kernel
theorem dW:Lm ["text","rows","kinds","defs","at","row"] (ae eo):=by decide +kernel
theorem cZ:aH ["text","rows","kinds","defs","at","row"] ["text"] (ae eo):=⟨rfl,rfl,rfl,by decide +kernel,rfl,by decide +kernel,by decide +kernel⟩
theorem IB{f:Addr}{fd:FuncData}{j:Nat}(hj:1<=j)(F:eN K "read_program" "read_program" eo f fd)(RKR:bE P w K mg base "read_kind_row" j ["row"] (GQ K) gK kfd)(RDR:bE P w K mg base "read_def_row" j ["row"] (GR K) gD dfd)(z_enumerate:mg "enumerate"=none)(z_tuple:mg "tuple"=none)(z_len:mg "len"=none):bK P w K mg base d8 (j+1) f fd ["text"] (GS K):=by
 refine F.ok cZ (fun vs H Q E h=>?_) (fun cdv A outer s H vs Q E hr h=>?_)
 ·obtain⟨_,_,rfl,_⟩:=h
  rfl
 obtain⟨kis,ds,rfl,o,go⟩:=h
 refine⟨_,(Z4 (Z5 cZ.nd dW 1 (cz PySem.F.plainAttrs_str PySem.F.slot_str_split PySem.F.type_str_split vQ (va bL 0) (Z9 ak) (hbase:=by kernel_rfl) (hfew:=by kernel_rfl) (hline:=by kernel_rfl) (hs:=by kernel_rfl) (hplain:=by kernel_rfl))) (Z4 (sa cZ.nd dW 2 (bq aj)) (Z4 (sa cZ.nd dW 3 (bq aj)) (Z4 (Zl (Ai K rfl (by show _=_;kernel_rfl) z_enumerate (Z9 (va bL 1))) (Zh (2) (Zq (ga cZ.nd dW 4) (bW (ga cZ.nd dW 5) cM))) (Zc (FN (fun _ _ z=>z) (Zc (@iG _ _ _ _ _ _ _ _ (PW.pt (@tP _ _ _ _ _ _ _ (Zo (cz PySem.F.plainAttrs_str PySem.F.slot_str_startswith PySem.F.type_str_startswith gp (va bL 5) (Z9 ak) (hbase:=by kernel_rfl) (hfew:=by kernel_rfl) (hline:=by kernel_rfl) (hs:=by kernel_rfl) (hplain:=by kernel_rfl))) (@pV _ _ _ _ (@d9 _ _ _ _ (eT (va bL 3) (fun _=>rfl)))))) (Zc (@cG _ _ _ _ (@cz _ _ _ _ _ _ _ _ _ _ _ _ PySem.F.plainAttrs_list PySem.F.slot_list_append PySem.F.type_list_append bX (va bL 2) (Z1 (Z0 RKR (Z9 (va bL 5))) aj) (by rfl) (by rfl) (by rfl) (by rfl) (by rfl)) (by rfl))) (Zc (@cG _ _ _ _ (@cz _ _ _ _ _ _ _ _ _ _ _ _ PySem.F.plainAttrs_list PySem.F.slot_list_append PySem.F.type_list_append bX (va bL 3) (Z1 (Z0 RDR (Z9 (va bL 5))) aj) (by rfl) (by rfl) (by rfl) (by rfl) (by rfl)) (by rfl)))))))) (Z4 (Z8 (@d9 _ _ _ _ (eT (va bL 3) (fun _=>rfl))) (aV b8)) (Zc (Zf (Zj (Z1 (Z6 aZ z_tuple PyProof.Rows.boot_tuple (Z9 (va bL 2))) (Z1 (Z6 aZ z_tuple PyProof.Rows.boot_tuple (Z9 (va bL 3))) aj)))))))))),?_⟩
 try dsimp only[aU]
 try dsimp only[aU]
 have zl:=o.len
 have es:=o.split
 obtain⟨rl,rn⟩:=o.rl
 fail "R"
 intro p1 hp1
 rw[es]
 have s1:=ah hp1 (.lst ((dh kis ds).map V.str))
 have h1:upd H p1 (.lst ((dh kis ds).map V.str)) p1=some (.lst ((dh kis ds).map V.str)):=aa
 generalize upd H p1 (.lst ((dh kis ds).map V.str))=H1 at s1 h1⊢
 fail "R"
 intro lk hlk
 have s2:=ah hlk (.lst [])
 have h2:upd H1 lk (.lst []) lk=some (.lst []):=aa
 generalize upd H1 lk (.lst [])=H2 at s2 h2⊢
 fail "R"
 intro ld hld
 have s3:=ah hld (.lst [])
 have h3:upd H2 ld (.lst []) ld=some (.lst []):=aa
 have h3k:=s3 _ _ h2
 have nkd:lk≠ld:=bG h2 hld
 generalize upd H2 ld (.lst [])=H3 at s3 h3 h3k⊢
 have hld1:H1 ld=none:=s2.free hld
 have sqb:nj K false H3 p1 ((dh kis ds).map V.str):=bB.of ((s2.trans s3) _ _ h1)
 fail "R"
 refine xy (K:=K) (b:=false) (xs:=(dh kis ds).map V.str) (fun i σ H4=>(∃y z,σ=[some (.str (mh kis ds)),some (.ref p1),some (.ref lk),some (.ref ld),y,z])/\Mb K H1 lk ld kis ds i H4) ⟨⟨_,_,rfl⟩,s2.trans s3,[],[],h3k,h3,.nil,by rw[Nat.zero_sub];exact .nil⟩ ?_ ?_ ?_
 ·rintro i σ H4 hi ⟨_,i4⟩
  exact bB.of (i4.s _ _ h1)
 ·rintro i xv σ H4 p5 hxv ⟨⟨y,z,rfl⟩,i4⟩ hp5
  obtain⟨s4,us,ws,hu,hw,ru,rw4⟩:=i4
  have s5:=ah hp5 (.tup [.int i,xv])
  have h5:upd H4 p5 (.tup [.int i,xv]) p5=some (.tup [.int i,xv]):=aa
  generalize upd H4 p5 (.tup [.int i,xv])=H5 at s5 h5⊢
  rw[List.getElem?_map]at hxv
  obtain⟨x,hx,rfl⟩:=Option.map_eq_some_iff.mp hxv
  have lu:=ru.length
  have lw:=rw4.length
  rw[List.length_map,List.length_take]at lu lw
  have o1:=o.k3
  have o2:=o.d3
  have hu5:=s5 _ _ hu
  have hw5:=s5 _ _ hw
  by_cases c:i<kis.length
  ·have ex:x=au (qc kis[i]):=by
    unfold dh at hx
    rw[List.getElem?_append_left (by rw[List.length_map];exact c),List.getElem?_map,List.getElem?_eq_getElem c]at hx
    exact(Option.some.inj hx).symm
   have ko:=o.k kis[i] (List.getElem_mem c)
   subst ex
   have st:=Bx kis[i]
   have hwn:ws=[]:=List.length_eq_zero_iff.mp (by omega)
   subst hwn
   have tr:xS K (.ref ld) H5 false:=.inl ⟨[],bB.of hw5,rfl⟩
   have tyk:Ci K "list" (.ref lk) H5:=.inl ⟨rfl,_,bB.of hu5⟩
   have z5:us.length<sizeLine:=by rw[sizeLine_eq];omega
   fail "R"
   refine EW st ?_
   fail "R"
   intro v6 H6 s6 r6
   have hu6:=s6 _ _ hu5
   have k7:Kt H6 (upd H6 lk (.lst (us++[v6]))):=Kt.lst hu6 _
   fail "R"
   have s56:=s5.trans s6
   refine⟨fun b o e=>by rw[ay (bG e hlk)];exact s56 _ _ (s4 _ _ e),us++[v6],[],aa,by rw[ay (Ne.symm nkd)];exact s56 _ _ hw,?_,?_⟩
   ·rw[List.take_succ_eq_append_getElem c,List.map_append]
    exact((ru.same s56).kt k7).append (.one (r6.kt k7))
   ·rw[show i+1-kis.length=0 by omega]
    exact .nil
  ·have hil:i-kis.length<ds.length:=by
    have:=(List.getElem?_eq_some_iff.mp hx).1
    unfold dh at this
    rw[List.length_append,List.length_map,List.length_map]at this
    omega
   have ex:x=au (qd ds[i-kis.length]):=by
    unfold dh at hx
    rw[List.getElem?_append_right (by rw[List.length_map];omega),List.length_map,List.getElem?_map,List.getElem?_eq_getElem hil]at hx
    exact(Option.some.inj hx).symm
   have ko:=o.d ds[i-kis.length] (List.getElem_mem hil)
   subst ex
   have st:=By ds[i-kis.length]
   have tyk:Ci K "list" (.ref ld) H5:=.inl ⟨rfl,_,bB.of hw5⟩
   have z5:ws.length<sizeLine:=by rw[sizeLine_eq];omega
   fail "R"
   refine rR st ?_
   fail "R"
   intro v6 H6 s6 r6
   have hw6:=s6 _ _ hw5
   have k7:Kt H6 (upd H6 ld (.lst (ws++[v6]))):=Kt.lst hw6 _
   fail "R"
   have s56:=s5.trans s6
   refine⟨fun b o e=>by rw[ay (bG e hld1)];exact s56 _ _ (s4 _ _ e),us,ws++[v6],by rw[ay nkd];exact s56 _ _ hu,aa,?_,?_⟩
   ·rw[List.take_of_length_le (by omega)]at ru⊢
    exact(ru.same s56).kt k7
   ·rw[show i+1-kis.length=i-kis.length+1 by omega,List.take_succ_eq_append_getElem hil,List.map_append]
    exact((rw4.same s56).kt k7).append (.one (r6.kt k7))
 ·rintro σ H4 ⟨⟨y,z,rfl⟩,i4⟩
  obtain⟨s4,us,ws,hu,hw,ru,rw4⟩:=i4
  have el:((dh kis ds).map V.str).length=kis.length+ds.length:=by unfold dh;rw[List.length_map,List.length_append,List.length_map,List.length_map]
  rw[el]at ru rw4
  rw[List.take_of_length_le (by omega)]at ru
  rw[show kis.length+ds.length-kis.length=ds.length by omega,List.take_length]at rw4
  have lw:=rw4.length
  rw[List.length_map]at lw
  have o1:=o.d1
  have tr:xS K (.ref ld) H4 true:=.inl ⟨ws,bB.of hw,by cases ws with|nil=>simp at lw;omega|cons=>rfl⟩
  fail "R"
  refine .inl ⟨bB.of hu,fun p5 hp5=>?_⟩
  have s5:=ah hp5 (.tup us)
  have h5:upd H4 p5 (.tup us) p5=some (.tup us):=aa
  generalize upd H4 p5 (.tup us)=H5 at s5 h5⊢
  have hw5:=s5 _ _ hw
  fail "R"
  refine .inl ⟨bB.of hw5,fun p6 hp6=>?_⟩
  have s6:=ah hp6 (.tup ws)
  have h6:upd H5 p6 (.tup ws) p6=some (.tup ws):=aa
  generalize upd H5 p6 (.tup ws)=H6 at s6 h6⊢
  fail "R"
  intro p7 hp7
  refine go _ _ (((s1.trans s4).trans (s5.trans s6)).trans (Zs hp7)) ?_
  exact Rp.new (K:=K) hp7 (.cons (Rp.t (bf.of (s6 _ _ h5)) (ru.same (s5.trans s6))) (.one (Rp.t (bf.of h6) (rw4.same (s5.trans s6)))))
end
end G09
namespace L2
open PySem
theorem DS{X:Cx}{pos:Pos}{k1 k2 v1 v2:Expr}{t1 t2 s1 s2:TE}(a1:PE X k1 t1)(b1:PE X v1 s1)(a2:PE X k2 t2)(b2:PE X v2 s2) :
  PE X (.Dict [some k1,some k2] [v1,v2] pos) (Cs [(t1,s1),(t2,s2)]) :=
 zw (kD a1 b1 (kD a2 b2 zu)) rfl rfl (List.cons_ne_nil _ _) (by show 2<=15;decide)
end L2
namespace G09
open PySem L2
noncomputable def xB(K:PySem.W.Frag):Sp:=fun vs H Q _=>∃(v:V) (c:Cr),vs=[v]/\Rp K H (CI c) v/\c.ok/\Q (.str (au c.L)) H
noncomputable def rA(K:PySem.W.Frag):Sp:=fun vs H Q _=>∃(v:V) (c:Cr) (d:Nat),vs=[v]/\Rp K H (kT c d) v/\c.ok/\d<=20/\Q (.str (kS c d)) H
noncomputable def pG(K:PySem.W.Frag)(n:Nat):Sp:=fun vs H Q _=>∃(v:V) (c:Cr) (d:Nat),vs=[v]/\Rp K H (kT c d) v/\c.ok/\d<=20/\d<n/\∀H',aL H H'->Q (.str (kS c d)) H'
theorem Aj(c:Cr):∀d,kL c d=(List.replicate d [40,114,111,119,32]).flatten++c.L++(List.replicate d [41]).flatten
 |0=>by simp[kL]
 |d+1=>by
  show [40,114,111,119,32]++(kL c d++[41])=_
  rw[Aj c d,List.replicate_succ,List.flatten_cons,List.replicate_succ',List.flatten_append]
  simp
theorem Ak(c:Cr):(CI c).dep<=1:=by
 cases c with
 |num=>exact Nat.zero_le _
 |kd x=>exact zF (d:=0) (uw Fd (uw Fd Ep))
 |op n=>exact zF (d:=0) (uw Fd (uw LG Ep))
theorem yM(c:Cr):∀d,(kT c d).dep<=d+1
 |0=>Ak c
 |d+1=>zF (d:=d+1) (uw Fd (uw (yM c d) Ep))
noncomputable abbrev Al:List (Key×V):=[(.inr "kind",.str ""),(.inr "open",.str "?"),(.inr "any",.str "'")]
theorem DT:mJ [] Al=Al:=by kernel_rfl
section
variable {P:Program}{w:World}{K:PySem.W.Frag}{mg:Str->Option Value}{base:Heap}{gC gD gI gL:Addr}{cfd dfd ifd lfd:FuncData}
theorem eM:Nm ["core"] (ae iZ):=by decide +kernel
theorem uZ:aH ["core"] ["core"] (ae iZ):=⟨rfl,rfl,rfl,by decide +kernel,rfl,by decide +kernel,by decide +kernel⟩
theorem BA{f:Addr}{fd:FuncData}(F:eN K "core_text" "core_text" iZ f fd):bK P w K mg base d8 1 f fd ["core"] (xB K):=by
 refine F.ok uZ (fun vs H Q E h=>?_) (fun cdv A outer s H vs Q E hr h=>?_)
 ·obtain⟨_,_,rfl,_⟩:=h
  rfl
 obtain⟨v,c,rfl,r,hc,k⟩:=h
 refine⟨_,(Z4 (Z8 (Zi (Cy hr.JN) (va eM 0) ak) (aV (b7 ak))) (Z4 (Z8 (Zr b9 (Zb bH (va eM 0)) ak) (Zc (Zf (CB (Zb bH (va eM 0)))))) (Z4 (Z8 (Zr b9 (Zb bH (va eM 0)) ak) (Zc (Zf (CB (Zb bH (va eM 0)))))) (Zc (Zf (Zb bH (va eM 0))))))),?_⟩
 try dsimp only[aU]
 try dsimp only[aU]
 have rn:Rp K H (.s "num") (.str "num"):=.s
 have dep:=Ak c
 cases c with
 |num =>
  obtain rfl:=(show Rp K H (.s "num") v from r).aG
  fail "R"
  refine dG (fun _=>?_) (fun z=>absurd (decide_eq_true rfl) z)
  fail "R"
  exact k
 |kd x =>
  obtain⟨ka,k1,k2,rfl,ksq,g1,g2⟩:=(show Rp K H (.t [.s "kind",.s x]) v from r).t2
  obtain rfl:=g1.aG
  obtain rfl:=g2.aG
  fail "R"
  rw[show au (Cr.kd x).L=x from az x]at k
  exact k
 |op n =>
  obtain⟨ka,k1,k2,rfl,ksq,g1,g2⟩:=(show Rp K H (.t [.s "open",.i n]) v from r).t2
  obtain rfl:=g1.aG
  obtain rfl:=g2.ef
  have hn:0<=n/\n<100:=hc
  have hl:(Str.ofString (toString n)).length<=2:=by have:=(fP hn).2.1;unfold bS at this;rw[Array.length_toList]at this;exact this
  fail "R"
  refine .inr ⟨n,rfl,by omega,(by show 1+(Str.ofString (toString n)).length<=100000;omega),?_⟩
  have e:au [63]++Str.ofString (toString n)=au (63::bS n):=by
   rw[←az (Str.ofString (toString n)),bZ]
   rfl
  rw[show au (Cr.op n).L=au [63]++Str.ofString (toString n)from e.symm]at k
  exact k
theorem iw:Nm ["kind","depth"] (ae gG):=by decide +kernel
theorem vc:Lm ["kind","depth"] (ae gG):=by decide +kernel
theorem n9:aH ["kind","depth"] ["kind"] (ae gG):=⟨rfl,rfl,rfl,by decide +kernel,rfl,by decide +kernel,by decide +kernel⟩
theorem BB{f:Addr}{fd:FuncData}(F:eN K "kind_text" "kind_text" gG f fd)(KDP:bE P w K mg base "kind_deep" 1 ["kind"] (Dj K) gD dfd)(IM:bE P w K mg base "innermost" 1 ["kind"] (Di K) gI ifd)(CTX:bE P w K mg base "core_text" 1 ["core"] (xB K) gC cfd):bK P w K mg base d8 2 f fd ["kind"] (rA K):=by
 refine F.ok n9 (fun vs H Q E h=>?_) (fun cdv A outer s H vs Q E hr h=>?_)
 ·obtain⟨_,_,_,rfl,_⟩:=h
  rfl
 obtain⟨v,c,d,rfl,r,hc,hd,k⟩:=h
 refine⟨_,(Z4 (Z5 n9.nd vc 1 (Z0 KDP (Z9 (va iw 0)))) (Zc (Zf (Zd bN (Zd bN (cy qF ak (va iw 1)) (Z0 CTX (Z1 (Z0 IM (Z9 (va iw 0))) aj))) (cy qF ak (va iw 1)))))),?_⟩
 try dsimp only[aU]
 try dsimp only[aU]
 have lc:=(c.len hc).2
 have e1:Txt.mul "(row " (d:Int)=au (List.replicate d [40,114,111,119,32]).flatten:=zR (l:=[40,114,111,119,32]) (by simp) d
 have e2:Txt.mul ")" (d:Int)=au (List.replicate d [41]).flatten:=zR (l:=[41]) (by simp) d
 have n1:(List.replicate d [40,114,111,119,32]).flatten.length=d*5:=by simp
 have n2:(List.replicate d [41]).flatten.length=d*1:=by simp
 have m1:("(row ":Str).length*(d:Int).toNat<=sizeLine:=small (by show 5*(d:Int).toNat<=1000;omega)
 have m2:(")":Str).length*(d:Int).toNat<=sizeLine:=small (by show 1*(d:Int).toNat<=1000;omega)
 have l1:(Txt.mul "(row " (d:Int)).length+(au c.L).length<=sizeLine:=small (by rw[e1,aI,aI,n1];omega)
 have l2:(Txt.mul "(row " (d:Int)++au c.L).length+(Txt.mul ")" (d:Int)).length<=sizeLine:=small (by rw[strLen_append,e1,e2,aI,aI,aI,n1,n2];omega)
 have fin:Txt.mul "(row " (d:Int)++au c.L++Txt.mul ")" (d:Int)=kS c d:=by
  rw[e1,e2,bZ,bZ,←Aj]
 fail "R"
 intro v1 r1
 fail "R"
 rw[fin]
 exact k
theorem dN:Nm ["_law_kind"] (ae eZ):=by decide +kernel
theorem rB:aH ["_law_kind"] ["_law_kind"] (ae eZ):=⟨rfl,rfl,rfl,by decide +kernel,rfl,by decide +kernel,by decide +kernel⟩
theorem IC{f:Addr}{fd:FuncData}{n j:Nat}(hj:1<=j)(F:eN K "_law_kind_text" "_law_kind_text" eZ f fd)(LKT:bE P w K mg base "_law_kind_text" j ["_law_kind"] (pG K n) gL lfd)(z_str:mg "str"=none):bK P w K mg base d8 (j+1) f fd ["_law_kind"] (pG K (n+1)):=by
 refine F.ok rB (fun vs H Q E h=>?_) (fun cdv A outer s H vs Q E hr h=>?_)
 ·obtain⟨_,_,_,rfl,_⟩:=h
  rfl
 obtain⟨v,c,d,rfl,r,hc,hd,hdn,k⟩:=h
 refine⟨_,(Z4 (Z8 (Zi (Cy hr.JN) (va dN 0) ak) (Zc (b7 (va dN 0)))) (Z4 (Z8 (Zr b9 (Zb bH (va dN 0)) ak) (Zc (Zf (Zd bN (Zd bN ak (Z0 LKT (Z1 (Zb bH (va dN 0)) aj))) ak)))) (Zc (Zf (Zd bN (@ie _ _ _ _ _ _ (lQ hr) (@Dg _ _ _ _ _ _ _ _ _ _ _ _ _ _ ak ak ak ak ak ak) (Zb bH (va dN 0)) (fun _ _=>rfl)) (Z6 oQ z_str PyProof.Rows.boot_str (Z1 (Zb bH (va dN 0)) aj))))))),?_⟩
 try dsimp only[aU]
 try dsimp only[aU]
 have rn:Rp K H (.s "num") (.str "num"):=.s
 have dep:=yM c d
 refine fV ?_
 intro N1 N2 c1 c2
 cases d with
 |succ d =>
  obtain⟨ka,v1,v2,rfl,ksq,g1,g2⟩:=(show Rp K H (.t [.s "row",kT c d]) v from r).t2
  obtain rfl:=g1.aG
  have hlen:=yi hc d
  fail "R"
  intro H1 s1
  have hl1:("(row ":Str).length+(kS c d).length<=sizeLine:=small (by rw[aI];show 5+(kL c d).length<=1000;omega)
  have hl2:(("(row ":Str)++kS c d).length+(")":Str).length<=sizeLine:=small (by rw[strLen_append,aI];show 5+(kL c d).length+1<=1000;omega)
  have fin:("(row ":Str)++kS c d++(")":Str)=kS c (d+1):=by
   show au [40,114,111,119,32]++au (kL c d)++au [41]=_
   rw[bZ,bZ]
   show au ([40,114,111,119,32]++kL c d++[41])=au ([40,114,111,119,32]++(kL c d++[41]))
   rw[List.append_assoc]
  fail "R"
  rw[fin]
  exact k _ s1
 |zero =>
  cases c with
  |num =>
   obtain rfl:=(show Rp K H (.s "num") v from r).aG
   fail "R"
   exact k _ (aL.refl _)
  |kd x =>
   obtain⟨ka,k1,k2,rfl,ksq,g1,g2⟩:=(show Rp K H (.t [.s "kind",.s x]) v from r).t2
   obtain rfl:=g1.aG
   obtain rfl:=g2.aG
   fail "R"
   intro p hp
   fail "R"
   ·exact(show _=List.map (fun kv=>(kV kv.1,kv.2)) Al from rfl)
   refine⟨by decide,?_⟩
   rw[yW,DT]
   have s1:=ah hp (.dK Al)
   have h1:upd H p (.dK Al) p=some (.dK Al):=aa
   generalize upd H p (.dK Al)=H1 at s1 h1⊢
   have ksq1:=ksq.same s1
   have dg:oN H1 p (.str "kind") (some (.str "")):=.inl ⟨Al,.inr "kind",.inl h1,rfl,by decide +kernel⟩
   fail "R"
   have hl:("":Str).length+x.length<=sizeLine:=small (by show 0+x.length<=1000;have:=hc.2.1;omega)
   refine .inl ⟨_,rfl,_,_,rfl,rfl,hl,?_⟩
   rw[show("":Str)++x=x from empty_app]
   rw[show kS (Cr.kd x) 0=x from az x]at k
   exact k _ s1
  |op n =>
   obtain⟨ka,k1,k2,rfl,ksq,g1,g2⟩:=(show Rp K H (.t [.s "open",.i n]) v from r).t2
   obtain rfl:=g1.aG
   obtain rfl:=g2.ef
   fail "R"
   intro p hp
   fail "R"
   ·exact(show _=List.map (fun kv=>(kV kv.1,kv.2)) Al from rfl)
   refine⟨by decide,?_⟩
   rw[yW,DT]
   have s1:=ah hp (.dK Al)
   have h1:upd H p (.dK Al) p=some (.dK Al):=aa
   generalize upd H p (.dK Al)=H1 at s1 h1⊢
   have ksq1:=ksq.same s1
   have dg:oN H1 p (.str "open") (some (.str "?")):=.inl ⟨Al,.inr "open",.inl h1,rfl,by decide +kernel⟩
   have hn:0<=n/\n<100:=hc
   have hl:(Str.ofString (toString n)).length<=2:=by have:=(fP hn).2.1;unfold bS at this;rw[Array.length_toList]at this;exact this
   fail "R"
   refine .inr ⟨n,rfl,by omega,_,_,rfl,rfl,small (by show 1+(Str.ofString (toString n)).length<=1000;omega),?_⟩
   have e:au [63]++Str.ofString (toString n)=au (63::bS n):=by
    rw[←az (Str.ofString (toString n)),bZ]
    rfl
   rw[show kS (Cr.op n) 0=au [63]++Str.ofString (toString n)from e.symm]at k
   exact k _ s1
end
noncomputable def oh:List V->List V
 | []=>[]
 |x::r=>x::r.flatMap fun y=>[.str " ",y]
theorem tG:∀(l:List V) (x:V),oh (l++[x])=oh l++if l.isEmpty then [x]else [.str " ",x]
 | [],x=>rfl
 |y::r,x=>by
  show y::(r++[x]).flatMap _=(y::r.flatMap _)++[.str " ",x]
  rw[List.flatMap_append]
  rfl
theorem rC:∀l:List V,(oh l).length<=2*l.length
 | []=>Nat.le_refl _
 |y::r=>by
  have:(r.flatMap fun y=>[V.str " ",y]).length=2*r.length:=by
   induction r with
   |nil=>rfl
   |cons z q ih=>rw[List.flatMap_cons,List.length_append,ih];show 2+2*q.length=2*(q.length+1);omega
  show(r.flatMap fun y=>[V.str " ",y]).length+1<=2*(r.length+1)
  omega
noncomputable def DU(K:PySem.W.Frag):Sp:=fun vs H Q _=>∃(p:Addr) (us:List V),vs=[.str "(",.ref p]/\bf K H p us/\us.length<=1000/\∀(q:Addr) (H':Hp),aL H H'->H q=none->H' q=some (.lst (.str "("::(oh us++[.str ")"])))->Q (.ref q) H'
section
variable {P:Program}{w:World}{K:PySem.W.Frag}{mg:Str->Option Value}{base:Heap}{aC:Addr}
theorem cO:Nm ["opener","words","pieces","at","word"] (ae gx):=by decide +kernel
theorem jU:Lm ["opener","words","pieces","at","word"] (ae gx):=by decide +kernel
theorem iy:aH ["opener","words","pieces","at","word"] ["opener","words"] (ae gx):=⟨rfl,rfl,rfl,by decide +kernel,rfl,by decide +kernel,by decide +kernel⟩
theorem ID{f:Addr}{fd:FuncData}(F:eN K "bracketed" "bracketed" gx f fd)(z_enumerate:mg "enumerate"=none)(mC:mg "CLOSE_OF"=some (.ref aC))(dC:KD K w aC [("(",.str ")"),("[",.str "]")]):bK P w K mg base d8 1 f fd ["opener","words"] (DU K):=by
 refine F.ok iy (fun vs H Q E h=>?_) (fun cdv A outer s H vs Q E hr h=>?_)
 ·obtain⟨_,_,rfl,_⟩:=h
  rfl
 obtain⟨p,us,rfl,hS,hn,k⟩:=h
 refine⟨_,(Z4 (Z5 iy.nd jU 2 (@bq _ _ _ _ (Z9 (va cO 0)))) (Z4 (Zl (Ai K rfl (by show _=_;kernel_rfl) z_enumerate (Z9 (va cO 1))) (Zh (2) (Zq (ga iy.nd jU 3) (bW (ga iy.nd jU 4) cM))) (Z4 (Z8 (Zi sy (va cO 3) ao) (Zc (@cG _ _ _ _ (cz PySem.F.plainAttrs_list PySem.F.slot_list_append PySem.F.type_list_append bX (va cO 2) (Z9 ak)) (by rfl)))) (Zc (@cG _ _ _ _ (@cz _ _ _ _ _ _ _ _ _ _ _ _ PySem.F.plainAttrs_list PySem.F.slot_list_append PySem.F.type_list_append bX (va cO 2) (Z9 (va cO 4)) (by rfl) (by rfl) (by rfl) (by rfl) (by rfl)) (by rfl))))) (Z4 (@cG _ _ _ _ (@cz _ _ _ _ _ _ _ _ _ _ _ _ PySem.F.plainAttrs_list PySem.F.slot_list_append PySem.F.type_list_append bX (va cO 2) (Z1 (pW (d7 (v:=.ref aC) (by show _=_;kernel_rfl) mC rfl) (va cO 0) (fun _ _=>rfl)) aj) (by rfl) (by rfl) (by rfl) (by rfl) (by rfl)) (by rfl)) (Zc (b7 (va cO 2)))))),?_⟩
 try dsimp only[aU]
 try dsimp only[aU,rT]
 refine dR ?_
 intro N1 N2 N3 c1 c2 c3
 fail "R"
 intro q hq
 have s1:=ah hq (.lst [.str "("])
 have h1:upd H q (.lst [.str "("]) q=some (.lst [.str "("]):=aa
 generalize upd H q (.lst [.str "("])=H1 at s1 h1⊢
 have hb1:nj K true H1 p us:=hS.same s1
 fail "R"
 refine xy (K:=K) (xs:=us) (fun i σ H2=>(∃y z,σ=[some (.str "("),some (.ref p),some (.ref q),y,z])/\aL H H2/\H2 q=some (.lst (.str "("::oh (us.take i)))) ⟨⟨_,_,rfl⟩,s1,h1⟩ ?_ ?_ ?_
 ·rintro i σ H2 hi ⟨_,s2,_⟩
  exact hS.same s2
 ·rintro i x σ H2 p3 hx ⟨⟨_,_,rfl⟩,s2,h2⟩ hp3
  have s3:=ah hp3 (.tup [.int i,x])
  have h3:upd H2 p3 (.tup [.int i,x]) p3=some (.tup [.int i,x]):=aa
  have h3q:=s3 _ _ h2
  generalize upd H2 p3 (.tup [.int i,x])=H3 at s3 h3 h3q⊢
  have hil:=(List.getElem?_eq_some_iff.mp hx).1
  have etk:us.take (i+1)=us.take i++[x]:=by rw[List.take_succ_eq_append_getElem hil,(List.getElem?_eq_some_iff.mp hx).2]
  have lz:=rC (us.take i)
  have l9:(V.str "("::oh (us.take i)).length<10000:=by rw[List.length_cons];rw[List.length_take]at lz;omega
  have l9s:(V.str "("::oh (us.take i)).length<sizeLine:=by rw[sizeLine_eq];omega
  have l9t:((V.str "("::oh (us.take i))++[V.str " "]).length<sizeLine:=by rw[List.length_append,sizeLine_eq];show _+1<_;omega
  fail "R"
  refine dG (fun c=>?_) (fun c=>?_)
  ·have c':(0:Int)<(i:Int):=of_decide_eq_true c
   fail "R"
   ·exact((s2.trans s3).lO hq _).lO hq _
   ·rw[aa,etk,tG]
    have:(us.take i).isEmpty=false:=by
     cases e:us.take i with
     |nil =>
      have:=congrArg List.length e
      rw[List.length_take]at this
      have:min i us.length=0:=this
      omega
     |cons=>rfl
    rw[this]
    simp
  ·have c':¬(0:Int)<(i:Int):=fun z=>c (decide_eq_true z)
   obtain rfl:i=0:=by omega
   fail "R"
   ·exact(s2.trans s3).lO hq _
   ·rw[aa,etk,tG]
    rfl
 ·rintro σ H2 ⟨⟨_,_,rfl⟩,s2,h2⟩
  rw[List.take_length]at h2
  have lz:=rC us
  have l9s:(V.str "("::oh us).length<sizeLine:=by rw[List.length_cons,sizeLine_eq];omega
  fail "R"
  exact k _ _ (s2.lO hq _) hq (by rw[aa];rfl)
end
end G09
namespace L2
open PySem PySem.Spec PyProof.Rows
section
variable {X:Cx}{e:Expr}{te:TE}{z:Str}{k:Nat}{p2 p3 p4:Pos}
noncomputable def Mc(z:Str)(te:TE):TE:=fun σ H Q=>te σ H fun v H1=>yg v fun y=>y.length+z.length<=100000/\Q (.str (y++z)) H1
theorem Kc(he:PE X e te):PE X (.JoinedStr [.FormattedValue e (-1) none p2,.Constant (.str z) k p3] p4) (Mc z te):=by
 intro pins s σ H Q I h
 refine wpAny_JoinedStr (v₁:=.FormattedValue e (-1) none p2) (v₂:=.Constant (.str z) k p3) (rest:=[]) ?_
 refine vP (R:=fun y H1=>y.length+z.length<=100000/\Q (.str (y++z)) H1) he I h fun s' H' y t I' ⟨hl,q⟩ hy=>?_
 have e1:Str.empty++y=y:=empty_app
 have hl2:(Str.empty++y).length<=sizeLine:=by rw[e1,sizeLine_eq];omega
 have hl3:(Str.empty++y++z).length<=sizeLine:=by rw[e1,strLen_append,sizeLine_eq];omega
 exact⟨_,_,rfl,hl2,Calls.Constant_str ⟨_,_,rfl,hl3,hl3,.str (y++z),H',(I'.tok _),⟨_,by rw[e1]⟩,q⟩⟩
end
section
variable {X:Cx}
theorem DV:j3 X (binaryOp .Add) (fun x y H Q=>∃a b ys,x=.ref a/\y=.ref b/\bf X.K H a []/\bf X.K H b ys/\Q (.ref b) H):=by
 intro pins s σ H x y u v Q I rx ry h
 obtain⟨a,b,ys,rfl,rfl,ha,hb,q⟩:=h
 cases rx
 cases ry
 obtain⟨its,r1,ht,_⟩:=I.tuple ha
 obtain⟨jts,r2,hb2,_⟩:=I.tuple hb
 cases r1
 obtain⟨⟨cls,dd,data,sl⟩,ho,hc,n,hd⟩:=id ht
 obtain⟨⟨cls2,dd2,data2,sl2⟩,ho2,hc2,n2,hd2⟩:=id hb2
 simp only at hc hd hc2 hd2
 subst hc hd hc2 hd2
 exact concat_meets ⟨_,ho,rfl⟩ ⟨_,ho2,rfl⟩ noFill_tuple_add seq_tuple_add PySem.F.slot_tuple_add PySem.F.entry_tuple_add (PySem.F.args_tuple_add_2 _ _)
   (tuple_addW0 a b _ jts.toArray n n2 dd dd2 sl sl2 (by simp)) ⟨ho,ho2,⟨.ref b,H,I,rfl,q⟩⟩
end
section
variable {X:Cx}
noncomputable def DW(K:PySem.W.Frag):R2:=fun x y H Q=>∃a b xs ys,x=.ref a/\y=.ref b/\bf K H a xs/\bf K H b ys/\xs.length+ys.length<=sizeLine/\∀p H',aL H H'->bf K H' p (xs++ys)->Q (.ref p) H'
theorem eA:j3 X (binaryOp .Add) (DW X.K):=by
 intro pins s σ H x y u v Q I rx ry h
 obtain⟨a,b,xs,ys,rfl,rfl,ha,hb,hz,k⟩:=h
 cases xs with
 |nil=>exact DV pins s σ H _ _ u v Q I rx ry ⟨a,b,ys,rfl,rfl,ha,hb,k b H (aL.refl _) hb⟩
 |cons x r =>
  exact tU pins s σ H _ _ u v Q I rx ry ⟨a,b,_,ys,rfl,rfl,ha,hb,(by simp),hz,(fun z=>by subst z;have:=k a H (aL.refl _);rw[List.append_nil]at this;exact this ha),fun _ p hp=>k p _ (Zs hp) (bf.of aa)⟩
theorem tH(K:PySem.W.Frag)(hK:X.K=K):j3 X (binaryOp .Add) (DW K):=by subst hK;exact eA
end
end L2
namespace G09
open PySem L2
theorem DX{K:PySem.W.Frag}{H:Hp}:∀{xs:List Sx}{us:List V},aX K H (xs.map resT) us->aX K H ((Dy xs).map resT) (oh us)
 | [],us,h=>by
  obtain rfl:=h.nL
  exact .nil
 |x::r,us,h=>by
  obtain⟨v,vs,rfl,g1,g2⟩:=L2.aX.inv h
  refine .cons g1 ?_
  clear h g1
  induction r generalizing vs with
  |nil =>
   obtain rfl:=L2.aX.nL g2
   exact .nil
  |cons y q ih =>
   obtain⟨v2,vs2,rfl,g3,g4⟩:=L2.aX.inv g2
   exact .cons .s (.cons g3 (ih _ g4))
theorem fz{K:PySem.W.Frag}{H:Hp}{xs:List Sx}{us:List V}(h:aX K H (xs.map resT) us):aX K H ((brk xs).map resT) (.str "("::(oh us++[.str ")"])):=by
 refine .cons .s ?_
 rw[List.map_append]
 exact(DX h).append (.one .s)
noncomputable def GU(K:PySem.W.Frag):Sp:=fun vs H Q _=>∃(v:V) (p:Addr) (us:List V) (k:Tm) (zs:List ((Str×List Str)×Tm)),vs=[v,.ref p]/\Rp K H (enc k) v/\bf K H p us/\aX K H (zs.map fun z=>jd z.1 (enc z.2)) us/\zs.length<=800/\(∀z∈zs,z.1.2.length<=800)/\∀(q:Addr) (ws:List V) (H':Hp),aL H H'->H q=none->H' q=some (.lst ws)->aX K H' ((.inr "(match "::.inl k::(zs.flatMap (fun z=>rX z.1 z.2)++[.inr ")"]):List Sx).map resT) ws->Q (.ref q) H'
noncomputable def Am(K:PySem.W.Frag):Sp:=fun vs H Q _=>∃(v:V) (tm:Tm),vs=[v]/\Rp K H (enc tm) v/\cX tm/\Wd tm/\∀(q:Addr) (ws:List V) (H':Hp),aL H H'->H q=none->H' q=some (.lst ws)->aX K H' ((GK tm).map resT) ws->Q (.ref q) H'
structure LN(K:PySem.W.Frag) (H:Hp) (q:Addr) (k0:Tm) (zs:List ((Str×List Str)×Tm)) (i:Nat) (H2:Hp):Prop where
 s:aL H H2
 x:∃ws,H2 q=some (.lst ws)/\aX K H2 ((.inr "(match "::.inl k0::((zs.take i).flatMap fun z=>rX z.1 z.2):List Sx).map resT) ws/\ws.length<=2+2000*i
section
variable {P:Program}{w:World}{K:PySem.W.Frag}{mg:Str->Option Value}{base:Heap}{gB gM:Addr}{bfd mfd:FuncData}
theorem cg:Nm ["first","arms","pieces","tag","names","inner"] (ae eY):=by decide +kernel
theorem fX:Lm ["first","arms","pieces","tag","names","inner"] (ae eY):=by decide +kernel
theorem eB:aH ["first","arms","pieces","tag","names","inner"] ["first","arms"] (ae eY):=⟨rfl,rfl,rfl,by decide +kernel,rfl,by decide +kernel,by decide +kernel⟩
theorem BC{f:Addr}{fd:FuncData}(F:eN K "spell_match" "spell_match" eY f fd)(BR:bE P w K mg base "bracketed" 1 ["opener","words"] (DU K) gB bfd):bK P w K mg base d8 2 f fd ["first","arms"] (GU K):=by
 refine F.ok eB (fun vs H Q E h=>?_) (fun cdv A outer s H vs Q E hr h=>?_)
 ·obtain⟨_,_,_,_,_,rfl,_⟩:=h
  rfl
 obtain⟨v,p,us,k0,zs,rfl,r0,sq,r,hz,hzs,k⟩:=h
 refine⟨_,(Z4 (Z5 eB.nd fX 2 (@bq _ _ _ _ (Z1 ak (Z9 (va cg 0))))) (Z4 (Zl (fK (va cg 1)) (Zh (3) (Zq (ga eB.nd fX 3) (Zq (ga eB.nd fX 4) (bW (ga eB.nd fX 5) cM)))) (Z4 (@cG _ _ _ _ (cz PySem.F.plainAttrs_list PySem.F.slot_list_append PySem.F.type_list_append bX (va cg 2) (Z9 ak)) (by rfl)) (Zc (@cG _ _ _ _ (@cz _ _ _ _ _ _ _ _ _ _ _ _ PySem.F.plainAttrs_list PySem.F.slot_list_extend PySem.F.type_list_extend oM (va cg 2) (Z1 (Z0 BR (Z1 ak (Z1 (Zd eA (Zd eA (Zj (Z9 (va cg 3))) (va cg 4)) (Zj (Z9 (va cg 5)))) aj))) aj) (by rfl) (by rfl) (by rfl) (by rfl) (by rfl)) (by rfl))))) (Z4 (@cG _ _ _ _ (cz PySem.F.plainAttrs_list PySem.F.slot_list_append PySem.F.type_list_append bX (va cg 2) (Z9 ak)) (by rfl)) (Zc (b7 (va cg 2)))))),?_⟩
 try dsimp only[aU]
 try dsimp only[aU,rT]
 refine dR ?_
 intro N1 N2 N3 c1 c2 c3
 fail "R"
 intro q hq
 have s1:=ah hq (.lst [.str "(match ",v])
 have h1:upd H q (.lst [.str "(match ",v]) q=some (.lst [.str "(match ",v]):=aa
 have r1:=r0.same s1
 generalize upd H q (.lst [.str "(match ",v])=H1 at s1 h1 r1⊢
 have i0:LN K H q k0 zs 0 H1:=⟨s1,_,h1,.cons .s (.one r1),Nat.le_refl _⟩
 have lus:=r.length
 rw[List.length_map]at lus
 have sq1:=sq.same s1
 fail "R"
 refine y9 (K:=K) (xs:=us) (fun i σ H2=>(∃y z u,σ=[some v,some (.ref p),some (.ref q),y,z,u])/\LN K H q k0 zs i H2) ⟨⟨_,_,_,rfl⟩,i0⟩ ?_ ?_ ?_
 ·rintro i σ H2 hi ⟨_,i2⟩
  exact sq.same i2.s
 ·rintro i x σ H2 hx ⟨⟨_,_,_,rfl⟩,⟨s2,ws,h2,r2,l2⟩⟩
  obtain⟨t,ht,rx⟩:=r.get' hx
  rw[List.getElem?_map]at ht
  obtain⟨z,hzi,rfl⟩:=Option.map_eq_some_iff.mp ht
  have hil:=(List.getElem?_eq_some_iff.mp hzi).1
  have etk:zs.take (i+1)=zs.take i++[z]:=by rw[List.take_succ_eq_append_getElem hil,(List.getElem?_eq_some_iff.mp hzi).2]
  have hz2:=hzs z (List.mem_of_getElem? hzi)
  obtain⟨xa,u1,u2,u3,rfl,sqx,g1,g2,g3⟩:=(show Rp K H (.t [.s z.1.1,.t (z.1.2.map .s),enc z.2]) x from rx).t3
  obtain rfl:=g1.aG
  obtain⟨na,ns,rfl,sqn,rn⟩:=g2.aR
  have ln:=rn.length
  rw[List.length_map]at ln
  have sq2:=sqx.same s2
  have lw:ws.length<sizeLine:=by rw[sizeLine_eq];omega
  have h3q:upd H2 q (.lst (ws++[.str " "])) q=some (.lst (ws++[.str " "])):=aa
  have kt3:Kt H2 (upd H2 q (.lst (ws++[.str " "]))):=Kt.lst h2 _
  have s3:aL H (upd H2 q (.lst (ws++[.str " "]))):=s2.lO hq _
  have r3:=r2.kt kt3
  fail "R"
  generalize upd H2 q (.lst (ws++[.str " "]))=H3 at h3q kt3 s3 r3⊢
  intro p4 hp4
  have s4:=ah hp4 (.tup [.str z.1.1])
  have h4:upd H3 p4 (.tup [.str z.1.1]) p4=some (.tup [.str z.1.1]):=aa
  have sqn4:=sqn.same (s3.trans s4)
  have g4:=g3.same (s3.trans s4)
  have rn4:=rn.same (s3.trans s4)
  have lns:([V.str z.1.1]:List V).length+ns.length<=sizeLine:=small (by rw[ln];show 1+_<=_;omega)
  generalize upd H3 p4 (.tup [.str z.1.1])=H4 at s4 h4 sqn4 g4 rn4⊢
  have sq4:bf K H4 p4 [.str z.1.1]:=bf.of h4
  fail "R"
  intro c5 H5 s5 sq5
  fail "R"
  intro p6 hp6
  have s6:=ah hp6 (.tup [u3])
  have h6:upd H5 p6 (.tup [u3]) p6=some (.tup [u3]):=aa
  have sq6:=sq5.same s6
  have s46:=s5.trans s6
  generalize upd H5 p6 (.tup [u3])=H6 at s6 h6 sq6 s46⊢
  have l6:([V.str z.1.1]++ns).length+([u3]:List V).length<=sizeLine:=small (by rw[List.length_append,ln];show 1+_+1<=_;omega)
  have sq6':bf K H6 p6 [u3]:=bf.of h6
  fail "R"
  intro c7 H7 s7 sq7
  have l7:([V.str z.1.1]++ns++[u3]:List V).length<=1000:=by rw[List.length_append,List.length_append,ln];show 1+_+1<=_;omega
  fail "R"
  intro q8 H8 s8 hq8 h8
  have s38:=((s4.trans s46).trans s7).trans s8
  have h8q:=s38 _ _ h3q
  have r8:=r3.same s38
  have rb:aX K H8 ((.inr z.1.1::(z.1.2.map .inr++[.inl z.2]):List Sx).map resT) ([V.str z.1.1]++ns++[u3]):=by
   have e:(.inr z.1.1::(z.1.2.map .inr++[.inl z.2]):List Sx).map resT=T.s z.1.1::(z.1.2.map T.s++[enc z.2]):=by
    rw[List.map_cons,List.map_append,List.map_map]
    rfl
   rw[e]
   have s48:=(s46.trans s7).trans s8
   exact .cons .s ((rn4.same s48).append (.one (g4.same s48)))
  have rb2:=fz rb
  have ll:=rC ([V.str z.1.1]++ns++[u3])
  have l8:(ws++[V.str " "]).length+(V.str "("::(oh ([V.str z.1.1]++ns++[u3])++[V.str ")"])).length<=2+2000*(i+1):=by
   simp only[List.length_append,List.length_cons,List.length_nil]at ll l7⊢
   omega
  have l8s:(ws++[V.str " "]).length+(V.str "("::(oh ([V.str z.1.1]++ns++[u3])++[V.str ")"])).length<=sizeLine:=by rw[sizeLine_eq];omega
  fail "R"
  refine⟨(s3.trans s38).lO hq _,_,aa,?_,by rw[List.length_append];exact l8⟩
  have kt8:Kt H8 (upd H8 q (.lst (ws++[V.str " "]++V.str "("::(oh ([V.str z.1.1]++ns++[u3])++[V.str ")"])))):=Kt.lst h8q _
  have r9:=((r8.kt kt8).append (.one (.s (x:=" ")))).append (rb2.kt kt8)
  have e:(.inr "(match "::.inl k0::((zs.take (i+1)).flatMap fun z=>rX z.1 z.2):List Sx).map resT=(.inr "(match "::.inl k0::((zs.take i).flatMap fun z=>rX z.1 z.2):List Sx).map resT++[T.s " "]++(brk (.inr z.1.1::(z.1.2.map .inr++[.inl z.2]))).map resT:=by
   rw[etk,List.flatMap_append,List.flatMap_singleton]
   unfold rX
   simp only[List.map_cons,List.map_append,List.cons_append,List.append_assoc]
   rfl
  rw[e]
  exact r9
 ·rintro σ H2 ⟨⟨_,_,_,rfl⟩,⟨s2,ws,h2,r2,l2⟩⟩
  have lw:ws.length<sizeLine:=by rw[sizeLine_eq];omega
  fail "R"
  refine k q _ _ (s2.lO hq _) hq aa ?_
  have r3:=(r2.kt (Kt.lst h2 (.lst (ws++[.str ")"])))).append (.one (.s (x:=")")))
  rw[show us.length=zs.length by omega,List.take_length]at r3
  simp only[List.map_cons,List.map_append,List.map_nil,List.cons_append]at r3⊢
  exact r3
theorem aP:Nm ["term","form"] (ae fR):=by decide +kernel
theorem rZ:Lm ["term","form"] (ae fR):=by decide +kernel
theorem mj:aH ["term","form"] ["term"] (ae fR):=⟨rfl,rfl,rfl,by decide +kernel,rfl,by decide +kernel,by decide +kernel⟩
theorem BD{f:Addr}{fd:FuncData}(F:eN K "spell_term" "spell_term" fR f fd)(BR:bE P w K mg base "bracketed" 1 ["opener","words"] (DU K) gB bfd)(SPM:bE P w K mg base "spell_match" 2 ["first","arms"] (GU K) gM mfd)(z_str:mg "str"=none):bK P w K mg base d8 3 f fd ["term"] (Am K):=by
 refine F.ok mj (fun vs H Q E h=>?_) (fun cdv A outer s H vs Q E hr h=>?_)
 ·obtain⟨_,_,rfl,_⟩:=h
  rfl
 obtain⟨v,tm,rfl,r,ht,hw,k⟩:=h
 refine⟨_,(Z4 (Z5 mj.nd rZ 1 (Zb bH (va aP 0))) (Z4 (Z8 (Zi b9 (va aP 1) ak) (Zc (Zf (@bq _ _ _ _ (Z1 (Z6 oQ z_str PyProof.Rows.boot_str (Z1 (Zb bH (va aP 0)) aj)) aj))))) (Z4 (Z8 (Zi b9 (va aP 1) ak) (Zc (Zf (@bq _ _ _ _ (Z1 (Zb bH (va aP 0)) aj))))) (Z4 (Z8 (Zi b9 (va aP 1) ak) (Zc (Zf (@bq _ _ _ _ (Z1 (CB (Zb bH (va aP 0))) aj))))) (Z4 (Z8 (Zi b9 (va aP 1) ak) (Zc (Zf (Z0 SPM (Z1 (Zb bH (va aP 0)) (Z1 (Zb bH (va aP 0)) aj)))))) (Z4 (Z8 (Zi b9 (va aP 1) ak) (Zc (Zf (Z0 BR (Z1 ak (Z1 (cC tS (va aP 0) (cN ao) cV) aj)))))) (Z4 (Z8 (Zi b9 (va aP 1) ak) (Zc (Zf (Z0 BR (Z1 ak (Z1 (Zd eA (qv (Z9 ak)) (Zb bH (va aP 0))) aj)))))) (Z4 (Z8 (Zi b9 (va aP 1) ak) (Zc (Zf (Z0 BR (Z1 ak (Z1 (Zd eA (Zj (Z1 ak (Z1 (Zb bH (va aP 0)) aj))) (Zb bH (va aP 0))) aj)))))) (Z4 (Z8 (Zi b9 (va aP 1) ak) (Zc (Zf (Z0 BR (Z1 ak (Z1 (Zd eA (Zj (Z1 (Kc (Zb bH (va aP 0))) aj)) (Zb bH (va aP 0))) aj)))))) (Zc (Zf (Z0 BR (Z1 ak (Z9 (va aP 0))))))))))))))),?_⟩
 try dsimp only[aU]
 try dsimp only[aU,rT]
 refine qN ?_
 intro N1 N2 N3 N4 N5 N6 N7 N8 c1 c2 c3 c4 c5 c6 c7 c8
 obtain⟨h,ks⟩:=tm
 have wl:=Ie hw
 have wh:=JY hw
 have kr:∀xs:List Tm,(kd xs).map resT=xs.map enc:=fun xs=>by unfold kd;rw[List.map_map];rfl
 rw[cS]at r
 obtain⟨ar,ho,hk⟩:=ht
 cases h with
 |num n =>
  obtain⟨a,v1,v2,rfl,sq,g1,g2⟩:=(show Rp K H (.t [.s "num",.i n]) v from r).t2
  obtain rfl:=g1.aG
  obtain rfl:=g2.ef
  have a0:cK [V.str "num",.int n] 0=some (.str "num"):=iS _ _
  have a1:cK [V.str "num",.int n] 1=some (.int n):=bh (j:=1) rfl
  have ho':0<=n/\n<1000000:=ho
  have en:au (bS n)=Str.ofString (toString n):=az _
  fail "R"
  refine .inr ⟨n,rfl,by omega,?_⟩
  fail "R"
  intro q hq
  refine k q _ _ (Zs hq) hq aa ?_
  show aX K _ [.s (au (bS n))] _
  rw[en]
  exact .one .s
 |name x =>
  obtain⟨a,v1,v2,rfl,sq,g1,g2⟩:=(show Rp K H (.t [.s "name",.s x]) v from r).t2
  obtain rfl:=g1.aG
  obtain rfl:=g2.aG
  have a0:cK [V.str "name",.str x] 0=some (.str "name"):=iS _ _
  have a1:cK [V.str "name",.str x] 1=some (.str x):=bh (j:=1) rfl
  fail "R"
  intro q hq
  exact k q _ _ (Zs hq) hq aa (.one .s)
 |gap n =>
  obtain⟨a,v1,v2,rfl,sq,g1,g2⟩:=(show Rp K H (.t [.s "gap",.i n]) v from r).t2
  obtain rfl:=g1.aG
  obtain rfl:=g2.ef
  have a0:cK [V.str "gap",.int n] 0=some (.str "gap"):=iS _ _
  have a1:cK [V.str "gap",.int n] 1=some (.int n):=bh (j:=1) rfl
  have ho':0<=n/\n<100:=ho
  have en:au (bS n)=Str.ofString (toString n):=az _
  have eg:au (63::bS n)=("?":Str)++Str.ofString (toString n):=by
   rw[←en]
   show _=au [63]++au (bS n)
   rw[bZ]
   rfl
  have ld:=(fP ho').2.1
  have lq:("?":Str).length+(Str.ofString (toString n)).length<=100000:=by rw[←en,aI];show 1+_<=_;omega
  fail "R"
  refine .inr ⟨n,rfl,by omega,lq,?_⟩
  fail "R"
  intro q hq
  refine k q _ _ (Zs hq) hq aa ?_
  show aX K _ [.s (au (63::bS n))] _
  rw[eg]
  exact .one .s
 |more =>
  obtain⟨a,us,rfl,sq,rs⟩:=(show Rp K H (.t (.s "more"::ks.map enc)) v from r).aR
  have rx:aX K H ((.inr "more"::kd ks:List Sx).map resT) us:=by
   simp only[List.map_cons,kr]
   exact rs
  have lu:=rs.length
  obtain⟨v0,us0,rfl,g0,_⟩:=L2.aX.inv rs
  obtain rfl:=g0.aG
  have a0:cK (V.str "more"::us0) 0=some (.str "more"):=iS _ _
  have l1:(V.str "more"::us0).length<=1000:=by rw[lu];simp only[List.length_cons,List.length_map,List.length_nil];omega
  fail "R"
  intro q H' s' hq h'
  exact k q _ _ s' hq h' (fz (rx.same s'))
 |first =>
  obtain⟨a,us,rfl,sq,rs⟩:=(show Rp K H (.t (.s "first"::ks.map enc)) v from r).aR
  have rx:aX K H ((.inr "first"::kd ks:List Sx).map resT) us:=by
   simp only[List.map_cons,kr]
   exact rs
  have lu:=rs.length
  obtain⟨v0,us0,rfl,g0,_⟩:=L2.aX.inv rs
  obtain rfl:=g0.aG
  have a0:cK (V.str "first"::us0) 0=some (.str "first"):=iS _ _
  have l1:(V.str "first"::us0).length<=1000:=by rw[lu];simp only[List.length_cons,List.length_map,List.length_nil];omega
  fail "R"
  intro q H' s' hq h'
  exact k q _ _ s' hq h' (fz (rx.same s'))
 |others =>
  obtain⟨a,us,rfl,sq,rs⟩:=(show Rp K H (.t (.s "others"::ks.map enc)) v from r).aR
  have rx:aX K H ((.inr "others"::kd ks:List Sx).map resT) us:=by
   simp only[List.map_cons,kr]
   exact rs
  have lu:=rs.length
  obtain⟨v0,us0,rfl,g0,_⟩:=L2.aX.inv rs
  obtain rfl:=g0.aG
  have a0:cK (V.str "others"::us0) 0=some (.str "others"):=iS _ _
  have l1:(V.str "others"::us0).length<=1000:=by rw[lu];simp only[List.length_cons,List.length_map,List.length_nil];omega
  fail "R"
  intro q H' s' hq h'
  exact k q _ _ s' hq h' (fz (rx.same s'))
 |long =>
  obtain⟨a,us,rfl,sq,rs⟩:=(show Rp K H (.t (.s "long"::ks.map enc)) v from r).aR
  have rx:aX K H ((.inr "long"::kd ks:List Sx).map resT) us:=by
   simp only[List.map_cons,kr]
   exact rs
  have lu:=rs.length
  obtain⟨v0,us0,rfl,g0,_⟩:=L2.aX.inv rs
  obtain rfl:=g0.aG
  have a0:cK (V.str "long"::us0) 0=some (.str "long"):=iS _ _
  have l1:(V.str "long"::us0).length<=1000:=by rw[lu];simp only[List.length_cons,List.length_map,List.length_nil];omega
  fail "R"
  intro q H' s' hq h'
  exact k q _ _ s' hq h' (fz (rx.same s'))
 |ife =>
  obtain⟨a,us,rfl,sq,rs⟩:=(show Rp K H (.t (.s "if"::ks.map enc)) v from r).aR
  have rx:aX K H ((.inr "if"::kd ks:List Sx).map resT) us:=by
   simp only[List.map_cons,kr]
   exact rs
  have lu:=rs.length
  obtain⟨v0,us0,rfl,g0,_⟩:=L2.aX.inv rs
  obtain rfl:=g0.aG
  have a0:cK (V.str "if"::us0) 0=some (.str "if"):=iS _ _
  have l1:(V.str "if"::us0).length<=1000:=by rw[lu];simp only[List.length_cons,List.length_map,List.length_nil];omega
  fail "R"
  intro q H' s' hq h'
  exact k q _ _ s' hq h' (fz (rx.same s'))
 |lt x =>
  obtain⟨a,us,rfl,sq,rs⟩:=(show Rp K H (.t (.s "let"::.s x::ks.map enc)) v from r).aR
  have rx:aX K H ((.inr "let"::.inr x::kd ks:List Sx).map resT) us:=by
   simp only[List.map_cons,kr]
   exact rs
  have lu:=rs.length
  obtain⟨v0,us0,rfl,g0,_⟩:=L2.aX.inv rs
  obtain rfl:=g0.aG
  have a0:cK (V.str "let"::us0) 0=some (.str "let"):=iS _ _
  have l1:(V.str "let"::us0).length<=1000:=by rw[lu];simp only[List.length_cons,List.length_map,List.length_nil];omega
  fail "R"
  intro q H' s' hq h'
  exact k q _ _ s' hq h' (fz (rx.same s'))
 |fold x y =>
  have arl:ks.length=3:=eq_of_beq (show(ks.length == 3)=true from ar)
  obtain⟨k1,k2,k3,rfl⟩:=GI arl
  obtain⟨a,us,rfl,sq,rs⟩:=(show Rp K H (.t ([.s "fold",enc k1,.s x,.s y,enc k2,enc k3])) v from r).aR
  have rx:aX K H (([.inr "fold",.inl k1,.inr x,.inr y,.inl k2,.inl k3]:List Sx).map resT) us:=by
   simp only[List.map_cons,kr]
   exact rs
  have lu:=rs.length
  obtain⟨v0,us0,rfl,g0,_⟩:=L2.aX.inv rs
  obtain rfl:=g0.aG
  have a0:cK (V.str "fold"::us0) 0=some (.str "fold"):=iS _ _
  have l1:(V.str "fold"::us0).length<=1000:=by rw[lu];simp only[List.length_cons,List.length_map,List.length_nil];omega
  fail "R"
  intro q H' s' hq h'
  exact k q _ _ s' hq h' (fz (rx.same s'))
 |op s =>
  obtain⟨a,us,rfl,sq,rs⟩:=(show Rp K H (.t (.s "op"::.s s::ks.map enc)) v from r).aR
  have lu:=rs.length
  obtain⟨v0,us0,rfl,g0,rs0⟩:=L2.aX.inv rs
  obtain rfl:=g0.aG
  have rx:aX K H ((.inr s::kd ks:List Sx).map resT) us0:=by
   simp only[List.map_cons,kr]
   exact rs0
  have a0:cK (V.str "op"::us0) 0=some (.str "op"):=iS _ _
  have ec:fH (V.str "op"::us0) (some 1) none=us0:=fF _ _
  have l1:us0.length<=1000:=by have:=rs0.length;rw[this];simp only[List.length_cons,List.length_map];omega
  have cn:=gr (V.str "op"::us0) 1 (Nat.le_refl _) (by simp)
  fail "R"
  rw[ec]
  intro p1 hp1
  have s1:=ah hp1 (.tup us0)
  have h1:bf K (upd H p1 (.tup us0)) p1 us0:=bf.of aa
  generalize upd H p1 (.tup us0)=H1 at s1 h1⊢
  fail "R"
  intro q H' s' hq h'
  exact k q _ _ (s1.trans s') (s1.free hq) h' (fz (rx.same (s1.trans s')))
 |row =>
  obtain⟨a,v1,v2,rfl,sq,g1,g2⟩:=(show Rp K H (.t [.s "row",.t (ks.map enc)]) v from r).t2
  obtain rfl:=g1.aG
  obtain⟨b,us,rfl,sqb,rb⟩:=g2.aR
  have lb:=rb.length
  rw[List.length_map]at lb
  have a0:cK [V.str "row",.ref b] 0=some (.str "row"):=iS _ _
  have a1:cK [V.str "row",.ref b] 1=some (.ref b):=bh (j:=1) rfl
  fail "R"
  intro p1 hp1
  have s1:=ah hp1 (.tup [.str "row"])
  have h1:bf K (upd H p1 (.tup [.str "row"])) p1 [.str "row"]:=bf.of aa
  have sq1:=sq.same s1
  have sqb1:=sqb.same s1
  have lc:([.str "row"]:List V).length+us.length<=sizeLine:=small (by rw[lb];show 1+_<=_;omega)
  generalize upd H p1 (.tup [.str "row"])=H1 at s1 h1 sq1 sqb1⊢
  fail "R"
  intro c2 H2 s2 sq2
  have lc2:([.str "row"]++us:List V).length<=1000:=by rw[List.length_append,lb];show 1+_<=_;omega
  fail "R"
  intro q H' s' hq h'
  have s0:=(s1.trans s2).trans s'
  refine k q _ _ s0 ((s1.trans s2).free hq) h' ?_
  refine fz (xs:=.inr "row"::kd ks) ?_
  simp only[List.map_cons,kr]
  exact .cons .s (rb.same s0)
 |call f =>
  obtain⟨a,v1,v2,v3,rfl,sq,g1,g2,g3⟩:=(show Rp K H (.t [.s "call",.s f,.t (ks.map enc)]) v from r).t3
  obtain rfl:=g1.aG
  obtain rfl:=g2.aG
  obtain⟨b,us,rfl,sqb,rb⟩:=g3.aR
  have lb:=rb.length
  rw[List.length_map]at lb
  have a0:cK [V.str "call",.str f,.ref b] 0=some (.str "call"):=iS _ _
  have a1:cK [V.str "call",.str f,.ref b] 1=some (.str f):=bh (j:=1) rfl
  have a2:cK [V.str "call",.str f,.ref b] 2=some (.ref b):=bh (j:=2) rfl
  fail "R"
  intro p1 hp1
  have s1:=ah hp1 (.tup [.str "call",.str f])
  have h1:bf K (upd H p1 (.tup [.str "call",.str f])) p1 [.str "call",.str f]:=bf.of aa
  have sq1:=sq.same s1
  have sqb1:=sqb.same s1
  have lc:([.str "call",.str f]:List V).length+us.length<=sizeLine:=small (by rw[lb];show 2+_<=_;omega)
  generalize upd H p1 (.tup [.str "call",.str f])=H1 at s1 h1 sq1 sqb1⊢
  fail "R"
  intro c2 H2 s2 sq2
  have lc2:([.str "call",.str f]++us:List V).length<=1000:=by rw[List.length_append,lb];show 2+_<=_;omega
  fail "R"
  intro q H' s' hq h'
  have s0:=(s1.trans s2).trans s'
  refine k q _ _ s0 ((s1.trans s2).free hq) h' ?_
  refine fz (xs:=.inr "call"::.inr f::kd ks) ?_
  simp only[List.map_cons,kr]
  exact .cons .s (.cons .s (rb.same s0))
 |tag t =>
  obtain⟨a,v1,v2,v3,rfl,sq,g1,g2,g3⟩:=(show Rp K H (.t [.s "tag",.s t,.t (ks.map enc)]) v from r).t3
  obtain rfl:=g1.aG
  obtain rfl:=g2.aG
  obtain⟨b,us,rfl,sqb,rb⟩:=g3.aR
  have lb:=rb.length
  rw[List.length_map]at lb
  have a0:cK [V.str "tag",.str t,.ref b] 0=some (.str "tag"):=iS _ _
  have a1:cK [V.str "tag",.str t,.ref b] 1=some (.str t):=bh (j:=1) rfl
  have a2:cK [V.str "tag",.str t,.ref b] 2=some (.ref b):=bh (j:=2) rfl
  have ht:bx t:=ho
  have et:au (t.cps.toList++[58])=t++(":":Str):=by
   rw[←bZ,az]
   rfl
  have hl6:=ht.2.1
  have lq:t.length+(":":Str).length<=100000:=by show _+1<=_;omega
  fail "R"
  refine .inl ⟨t,rfl,by omega,lq,?_⟩
  rw[←et]
  fail "R"
  intro p1 hp1
  have s1:=ah hp1 (.tup [.str (au (t.cps.toList++[58]))])
  have h1:bf K (upd H p1 (.tup [.str (au (t.cps.toList++[58]))])) p1 [.str (au (t.cps.toList++[58]))]:=bf.of aa
  have sq1:=sq.same s1
  have sqb1:=sqb.same s1
  have lc:([.str (au (t.cps.toList++[58]))]:List V).length+us.length<=sizeLine:=small (by rw[lb];show 1+_<=_;omega)
  generalize upd H p1 (.tup [.str (au (t.cps.toList++[58]))])=H1 at s1 h1 sq1 sqb1⊢
  fail "R"
  intro c2 H2 s2 sq2
  have lc2:([.str (au (t.cps.toList++[58]))]++us:List V).length<=1000:=by rw[List.length_append,lb];show 1+_<=_;omega
  fail "R"
  intro q H' s' hq h'
  have s0:=(s1.trans s2).trans s'
  refine k q _ _ s0 ((s1.trans s2).free hq) h' ?_
  refine fz (xs:=.inr (au (t.cps.toList++[58]))::kd ks) ?_
  simp only[List.map_cons,kr]
  exact .cons .s (rb.same s0)
 |mat arms =>
  have arl:ks.length=arms.length+1:=eq_of_beq (show(ks.length == arms.length+1)=true from ar)
  cases ks with
  |nil=>cases arl
  |cons k0 kr' =>
   obtain⟨a,v1,v2,v3,rfl,sq,g1,g2,g3⟩:=(show Rp K H (.t [.s "match",enc k0,.t (List.zipWith jd arms (kr'.map enc))]) v from r).t3
   obtain rfl:=g1.aG
   obtain⟨b,us,rfl,sqb,rb⟩:=g3.aR
   rw[←lG]at rb
   have lz:(arms.zip kr').length<=800:=by rw[List.length_zip];rw[List.length_cons]at wl;omega
   have la:∀z∈arms.zip kr',z.1.2.length<=800:=fun z hz=>wh z.1 (List.of_mem_zip (a:=z.1) (b:=z.2) hz).1
   have a0:cK [V.str "match",v2,.ref b] 0=some (.str "match"):=iS _ _
   have a1:cK [V.str "match",v2,.ref b] 1=some v2:=bh (j:=1) rfl
   have a2:cK [V.str "match",v2,.ref b] 2=some (.ref b):=bh (j:=2) rfl
   fail "R"
   intro q ws H' s' hq h' r2
   exact k q ws H' s' hq h' r2
end
theorem DY:∀ts:List Str,Txt.join "" ts=au (ts.flatMap (·.cps.toList)):=by
 intro ts
 show Builtin.Str.glued (Str.ofString "") _=_
 rw[StrLaws.glued_eq_join]
 have:∀ts:List Str,Str.join (Str.ofString "") ts=au (ts.flatMap (·.cps.toList)):=by
  intro ts
  induction ts with
  |nil=>rfl
  |cons p r ih =>
   cases r with
   |nil=>show p=au (p.cps.toList++[]);rw[List.append_nil,az]
   |cons q r =>
    show p++(Str.ofString "")++Str.join (Str.ofString "") (q::r)=_
    rw[ih,List.flatMap_cons (xs:=q::r),←bZ,az]
    congr 1
 exact this ts
theorem jV:∀bs:List Bw,Txt.join " " (bs.map fun b=>au b.txt)=au (Bw.bC bs):=by
 intro bs
 show Builtin.Str.glued (Str.ofString " ") _=_
 rw[StrLaws.glued_eq_join]
 have key:∀(b:Bw) (bs:List Bw),Str.join (Str.ofString " ") ((b::bs).map fun b=>au b.txt)=au (b.txt++Bw.bP bs):=by
  intro b bs
  induction bs generalizing b with
  |nil =>
   show au b.txt=_
   unfold Bw.bP
   rw[List.append_nil]
  |cons c r ih =>
   show au b.txt++(Str.ofString " ")++Str.join (Str.ofString " ") ((c::r).map fun b=>au b.txt)=_
   rw[ih c]
   show au b.txt++au [32]++au _=_
   rw[bZ,bZ]
   conv=>rhs;unfold Bw.bP
   simp
 cases bs with
 |nil=>unfold Bw.bC;rfl
 |cons b r=>rw[key];unfold Bw.bC;rfl
theorem An:∀ts:List Str,(ts.map (·.length)).sum=(ts.flatMap (·.cps.toList)).length
 | []=>rfl
 |x::r=>by
  rw[List.map_cons,List.sum_cons,An r,List.flatMap_cons,List.length_append]
  have:x.cps.toList.length=x.length:=by show _=x.cps.size;simp
  omega
theorem cP{n:Nat}(h:n<=100000):n<=sizeLine:=by rw[sizeLine_eq];omega
theorem Ls{us:List V}{u:V}:(us.reverse++[u])[(us.reverse++[u]).length-1]?=some u:=by simp
theorem pH(tm:Tm):∃ts,enc tm=.t ts:=by
 obtain⟨h,ks⟩:=tm
 rw[cS]
 cases h<;>exact⟨_,rfl⟩
noncomputable def GV(K:PySem.W.Frag)(gS:Addr):Sp:=fun vs H Q _=>∃(v:V) (tm:Tm),vs=[v,.ref gS]/\Rp K H (enc tm) v/\cX tm/\Wd tm/\(bw tm).txt.length<=3000/\∀H',aL H H'->Q (.str (au (bw tm).txt)) H'
noncomputable def GW(K:PySem.W.Frag):Sp:=fun vs H Q _=>∃(v:V) (tm:Tm),vs=[v]/\Rp K H (enc tm) v/\cX tm/\Wd tm/\(bw tm).txt.length<=3000/\∀H',aL H H'->Q (.str (au (bw tm).txt)) H'
structure Lu(K:PySem.W.Frag) (H:Hp) (o l:Addr) (tx:List Nat) (m:Nat) (H2:Hp):Prop where
 s:aL H H2
 x:∃(ts:List Str) (ws:List V) (xs:List Sx),H2 o=some (.lst (ts.map V.str))/\H2 l=some (.lst ws)/\aX K H2 (xs.map resT) ws.reverse/\(∀x∈xs,lP x)/\ts.flatMap (·.cps.toList)++xs.flatMap iu=tx/\rM xs=m/\ts.length<=(ts.flatMap (·.cps.toList)).length
structure Me(K:PySem.W.Frag) (H:Hp) (o l:Addr) (tx:List Nat) (m:Nat) (H2:Hp):Prop where
 x:∃m',m' < m/\Lu K H o l tx m' H2
section
variable {P:Program}{w:World}{K:PySem.W.Frag}{mg:Str->Option Value}{base:Heap}{gS gW:Addr}{sfd wfd:FuncData}
theorem dz:Nm ["thing","spell","told","waiting","here"] (ae jn):=by decide +kernel
theorem m9:Lm ["thing","spell","told","waiting","here"] (ae jn):=by decide +kernel
theorem jW:aH ["thing","spell","told","waiting","here"] ["thing","spell"] (ae jn):=⟨rfl,rfl,rfl,by decide +kernel,rfl,by decide +kernel,by decide +kernel⟩
theorem yN{f:Addr}{fd:FuncData}(F:eN K "written" "written" jn f fd)(SPT:bE P w K mg base "spell_term" 3 ["term"] (Am K) gS sfd)(z_isinstance:mg "isinstance"=none)(z_str:mg "str"=none):bK P w K mg base d8 4 f fd ["thing","spell"] (GV K gS):=by
 refine F.ok jW (fun vs H Q E h=>?_) (fun cdv A outer s H vs Q E hr h=>?_)
 ·obtain⟨_,_,rfl,_⟩:=h
  rfl
 obtain⟨v,tm,rfl,r,ht,hw,hl,k⟩:=h
 refine⟨_,(Z4 (sa jW.nd m9 2 (bq aj)) (Z4 (Z5 jW.nd m9 3 (@bq _ _ _ _ (Z9 (va dz 0)))) (Z4 (@nu _ _ _ _ _ _ PassesOwn.never (eT (va dz 3) (fun _=>rfl)) (Z4 (Z5 jW.nd m9 4 (xZ PySem.F.plainAttrs_list PySem.F.slot_list_pop PySem.F.type_list_pop ya (va dz 3))) (Zc (@iG _ _ _ _ _ _ _ _ (Zo (Z3 (gk K rfl) z_isinstance PyProof.Rows.boot_isinstance (Z1 (va dz 4) (Z9 (Zg (v:=.ty "str") z_str))))) (Zc (@cG _ _ _ _ (@cz _ _ _ _ _ _ _ _ _ _ _ _ PySem.F.plainAttrs_list PySem.F.slot_list_append PySem.F.type_list_append bX (va dz 2) (Z9 (va dz 4)) (by rfl) (by rfl) (by rfl) (by rfl) (by rfl)) (by rfl))) (Zc (@cG _ _ _ _ (@cz _ _ _ _ _ _ _ _ _ _ _ _ PySem.F.plainAttrs_list PySem.F.slot_list_extend PySem.F.type_list_extend oM (va dz 3) (Z1 (@A0 _ _ _ _ _ _ _ _ _ _ _ (@wz _ (fun f sp=>f=gS/\sp=Am K) _ _ _ _ _ _ _ (fun f sp h=>by obtain⟨rfl,rfl⟩:=h;exact⟨3,_,_,SPT.ok,hr.mono (by omega),SPT.kp,SPT.bd⟩) (va dz 1) (Z9 (va dz 4)) (by rfl) (by rfl)) cV cV (cN (pg kj ao))) aj) (by rfl) (by rfl) (by rfl) (by rfl) (by rfl)) (by rfl))))))) (Zc (Zf (@cz _ _ _ _ _ _ _ _ _ _ _ _ PySem.F.plainAttrs_str PySem.F.slot_str_join PySem.F.type_str_join iW ak (Z9 (va dz 2)) (by kernel_rfl) (by kernel_rfl) (by kernel_rfl) (by kernel_rfl) (by kernel_rfl))))))),?_⟩
 try dsimp only[aU]
 try dsimp only[aU,rT]
 refine dR ?_
 intro N1 N2 N3 c1 c2 c3
 fail "R"
 intro o ho
 have s1:=ah ho (.lst [])
 have h1:upd H o (.lst []) o=some (.lst []):=aa
 have r1:=r.same s1
 generalize upd H o (.lst [])=H1 at s1 h1 r1⊢
 fail "R"
 intro l hl1
 have s2:=ah hl1 (.lst [v])
 have h2:upd H1 l (.lst [v]) l=some (.lst [v]):=aa
 have h2o:=s2 _ _ h1
 have r2:=r1.same s2
 have hlo:o≠l:=fun e=>by rw[←e,h1]at hl1;cases hl1
 have hlH:H l=none:=s1.free hl1
 generalize upd H1 l (.lst [v])=H2 at s2 h2 h2o r2⊢
 have i0:Lu K H o l (bw tm).txt (2*(bw tm).txt.length) H2:=⟨s1.trans s2,[],[v],[.inl tm],h2o,h2,.one r2,fun x hx=>by rw[List.mem_singleton.mp hx];exact⟨ht,hw⟩,by simp[iu],rfl,Nat.le_refl _⟩
 fail "R"
 refine⟨fun m σ H3=>(∃y,σ=[some v,some (.ref gS),some (.ref o),some (.ref l),y])/\Lu K H o l (bw tm).txt m H3,⟨_,⟨_,rfl⟩,i0⟩,?_⟩
 rintro m σ H3 ⟨⟨y,rfl⟩,⟨s3,ts,ws,xs,h3o,h3l,r3,ok3,e3,m3,l3⟩⟩
 cases xs with
 |nil =>
  have ews:ws=[]:=by
   have:=r3.length
   rw[List.length_reverse]at this
   exact List.length_eq_zero_iff.mp this
  subst ews
  have e3':ts.flatMap (·.cps.toList)=(bw tm).txt:=by rw[←e3];simp
  have sj:=An ts
  have hj:(ts.map (·.length)).sum+ts.length*("":Str).length<=16777216:=by
   rw[sj,e3',show("":Str).length=0 from rfl]
   omega
  have sqo:bB K H3 o (ts.map V.str):=bB.of h3o
  fail "R"
  rw[DY,e3']
  exact k _ s3
 |cons x xr =>
  obtain⟨u,us,eu,g1,r4⟩:=L2.aX.inv (show aX K H3 (resT x::xr.map resT) ws.reverse from r3)
  have ews:ws=us.reverse++[u]:=by rw[←List.reverse_cons,←eu,List.reverse_reverse]
  subst ews
  have okx:=ok3 x (.head _)
  have okr:∀y∈xr,lP y:=fun y hy=>ok3 y (.tail _ hy)
  have m3':mu x+rM xr=m:=m3
  have ml:1<=mu x:=DE okx
  have nel:(us.reverse++[u]).isEmpty=false:=by simp
  have pp:=Ls (us:=us) (u:=u)
  have dl:(us.reverse++[u]).dropLast=us.reverse:=List.dropLast_concat
  have kt:Kt H3 (upd H3 l (.lst us.reverse)):=Kt.lst h3l _
  have h4o:upd H3 l (.lst us.reverse) o=some (.lst (ts.map V.str)):=by rw[ay hlo];exact h3o
  have h4l:upd H3 l (.lst us.reverse) l=some (.lst us.reverse):=aa
  have s4:aL H (upd H3 l (.lst us.reverse)):=s3.lO hlH _
  have g2:=g1.kt kt
  have r5:=r4.kt kt
  have lts:ts.length<=3000:=by
   have:=congrArg List.length e3
   rw[List.length_append]at this
   omega
  have ltm:(ts.map V.str).length<sizeLine:=by rw[List.length_map,sizeLine_eq];omega
  fail "R"
  refine EW (b:=!(us.reverse++[u]).isEmpty) (by rw[nel];rfl) ?_
  refine⟨fun σ' H'=>(∃y,σ'=[some v,some (.ref gS),some (.ref o),some (.ref l),y])/\Me K H o l (bw tm).txt m H',fun σ' H' h=>by obtain⟨h1,m',h2,h3⟩:=h;exact⟨m',h2,h1,h3⟩,?_⟩
  fail "R"
  rw[dl]
  generalize upd H3 l (.lst us.reverse)=H4 at kt h4o h4l s4 g2 r5⊢
  cases x with
  |inr z =>
   obtain rfl:=(show Rp K H4 (.s z) u from g2).aG
   fail "R"
   refine .inr (.inl ⟨_,rfl,?_⟩)
   fail "R"
   have lz:1<=z.cps.toList.length:=ml
   have mz:z.cps.toList.length+rM xr=m:=m3'
   refine⟨rM xr,by omega,s4.lO ho _,ts++[z],us.reverse,xr,by rw[aa,List.map_append];rfl,by rw[ay (Ne.symm hlo)];exact h4l,?_,okr,?_,rfl,?_⟩
   ·rw[List.reverse_reverse]
    exact r5.kt (Kt.lst h4o _)
   ·rw[←e3,List.flatMap_append,List.flatMap_singleton,List.append_assoc]
    rfl
   ·rw[List.flatMap_append,List.flatMap_singleton,List.length_append,List.length_append]
    show ts.length+1<=_
    omega
  |inl t =>
   have g2':Rp K H4 (enc t) u:=g2
   obtain⟨es,ee⟩:=pH t
   rw[show resT (.inl t)=.t es from ee]at g2
   obtain⟨a,vs,rfl,sqa,_⟩:=g2.aR
   have tok:=okx.1
   have twd:=okx.2
   fail "R"
   refine .inl ⟨_,_,rfl,sqa,?_⟩
   fail "R"
   intro q wq H5 s5 hq h5 r6
   have sqq:bB K H5 q wq:=bB.of h5
   have pr:=CN wq
   have mp:=FJ tok twd
   have pok:=DC tok twd
   have lp:=uR pok
   have lq:=r6.length
   rw[List.length_map]at lq
   have m2:=yJ (.inl t::xr)
   have e3l:=congrArg List.length e3
   rw[List.length_append]at e3l
   have mt:rM (.inl t::xr)=mu (.inl t)+rM xr:=rfl
   have m5:rM xr+rM (GK t)<m:=by omega
   have m6:m<=6000:=by omega
   have lr:=uR okr
   have lus:=r5.length
   rw[List.length_map]at lus
   have lsz:(qE wq none none (some (-1))).length<=sizeLine:=cP (by rw[pr,List.length_reverse];omega)
   fail "R"
   rw[pr]
   intro p7 hp7
   have s7:=ah hp7 (.lst wq.reverse)
   have h7:upd H5 p7 (.lst wq.reverse) p7=some (.lst wq.reverse):=aa
   have s47:=s5.trans s7
   have r7:=r6.same s7
   generalize upd H5 p7 (.lst wq.reverse)=H7 at s7 h7 s47 r7⊢
   have h7l:=s47 _ _ h4l
   have h7o:=s47 _ _ h4o
   have r8:=r5.same s47
   have s07:=s4.trans s47
   have lx:us.reverse.length+wq.reverse.length<=sizeLine:=cP (by rw[List.length_reverse,List.length_reverse];omega)
   fail "R"
   refine⟨rM (GK t++xr),by rw[zZ];omega,s07.lO hlH _,ts,us.reverse++wq.reverse,GK t++xr,by rw[ay hlo];exact h7o,aa,?_,?_,?_,rfl,l3⟩
   ·rw[List.reverse_append,List.reverse_reverse,List.reverse_reverse,List.map_append]
    have kt9:Kt H7 (upd H7 l (.lst (us.reverse++wq.reverse))):=Kt.lst h7l _
    exact(r7.kt kt9).append (r8.kt kt9)
   ·intro y hy
    rcases List.mem_append.mp hy with hy|hy
    ·exact pok y hy
    ·exact okr y hy
   ·rw[←e3,List.flatMap_append,uP tok]
    rfl
theorem vd:Nm ["term"] (ae i6):=by decide +kernel
theorem ve:aH ["term"] ["term"] (ae i6):=⟨rfl,rfl,rfl,by decide +kernel,rfl,by decide +kernel,by decide +kernel⟩
theorem IE{f:Addr}{fd:FuncData}(F:eN K "term_text" "term_text" i6 f fd)(SPT:bE P w K mg base "spell_term" 3 ["term"] (Am K) gS sfd)(WRT:bE P w K mg base "written" 4 ["thing","spell"] (GV K gS) gW wfd):bK P w K mg base d8 5 f fd ["term"] (GW K):=by
 refine F.ok ve (fun vs H Q E h=>?_) (fun cdv A outer s H vs Q E hr h=>?_)
 ·obtain⟨_,_,rfl,_⟩:=h
  rfl
 obtain⟨v,tm,rfl,r,ht,hw,hl,k⟩:=h
 refine⟨_,(Zc (Zf (Z0 WRT (Z1 (va vd 0) (Z9 (d7 (v:=.ref gS) (by show _=_;kernel_rfl) SPT.at' rfl)))))),?_⟩
 try dsimp only[aU]
 try dsimp only[aU,rT]
 fail "R"
 intro H' s'
 exact k _ s'
end
end G09
namespace L2
open PySem PySem.Spec PyProof.Rows
noncomputable def IF(K:PySem.W.Frag):V->List V->Hp->VK->Prop:=fun x vs H Q=>∃z p ys,x=.str z/\vs=[.ref p]/\bf K H p (ys.map V.str)/\(ys.map (·.length)).sum+ys.length*z.length<=16777216/\Q (.str (Txt.join z ys)) H
theorem BE{X:Cx}(K:PySem.W.Frag)(hK:X.K=K):Cf X "str.join" (IF K):=by
 subst hK
 intro pins s σ H x xs v us Q I rx rs h
 obtain⟨z,p,ys,rfl,rfl,hq,hb,q⟩:=h
 obtain⟨t,rfl⟩:=rx
 obtain⟨u,rfl,ru⟩:=vals1 rs
 cases ru
 obtain⟨its,rv,pl,hz⟩:=I.tuple hq
 exact join_tuple pl (by simpa using uc rv) hb fun t' k=>⟨.str _,H,I.tok _,⟨_,rfl⟩,q⟩
theorem yO{X:Cx}{T:String}{name:Str}{id:String}{r:V->List V->Hp->VK->Prop}{o e:Expr}{es:List Expr}{to:TE}{t:TA}{apos cpos:Pos}(K:PySem.W.Frag)(hK:X.K=K)(pa:PlainAttrs T)(slot:Slot T name id)(hty:typeOf (.builtin id)=pure (.type "method_descriptor"))(hm:Cf X id r)(ho:PE X o to)(ha:PA X (e::es) t)
  (hbase:attributeBase o name X.env (eval o X.env)=eval o X.env:=by rfl)
  (hfew:((backTo cpos (starEach (e::es) X.env)).all (fun x=>!x.1)&&(backToKw cpos (keywordEach [] X.env)).all (fun x=>x.1.isSome)
   && decide ((e::es).length+([]:List Keyword).length+(if([]:List Keyword).isEmpty then 0 else 1)<30))=true:=by rfl)
  (hline:(apos.endLine == cpos.line)=true:=by rfl) (hs:starEach (e::es) X.env=(false,eval e X.env)::starEach es X.env:=by rfl) (hplain:(backTo cpos (starEach es X.env)).any (·.1)=false:=by rfl) :
  PE X (.Call (.Attribute o name apos) (e::es) [] cpos) (LD K T r to t):=by
 subst hK
 exact cz pa slot hty hm ho ha hbase hfew hline hs hplain
end L2
namespace G09
open PySem L2
noncomputable def j5(tm:Tm):Str:=au (bw tm).txt
noncomputable def xC(K:PySem.W.Frag)(n:Nat):Sp:=fun vs H Q _=>∃(v:V) (tm:Tm),vs=[v]/\Rp K H (enc tm) v/\cX tm/\Nw tm/\tm.depth<n/\tm.size<=66/\∀H',aL H H'->Q (.str (j5 tm)) H'
noncomputable def GX(K:PySem.W.Frag)(n:Nat):Sp:=fun vs H Q _=>∃(p:Addr) (us:List V) (ts:List Tm),vs=[.ref p]/\bf K H p us/\aX K H (ts.map enc) us/\ts.length<=5/\(∀t∈ts,cX t/\Nw t/\t.depth<n/\t.size<=66)/\∀(l:Addr) H',aL H H'->H l=none->H' l=some (.lst ((ts.map j5).map V.str))->Q (.ref l) H'
theorem vf:∀ws:List Bw,((ws.map fun b=>au b.txt).map (·.length)).sum+ws.length=iT ws
 | []=>rfl
 |x::r=>by
  have ih:=vf r
  rw[List.map_cons,List.map_cons,List.sum_cons,List.length_cons,aI]
  show _=x.txt.length+1+iT r
  omega
theorem rD:∀ws:List Bw,iT ws<=(Bw.bC ws).length+1
 | []=>Nat.zero_le _
 |x::r=>by
  unfold Bw.bC
  rw[List.length_append,rg r]
  show x.txt.length+1+iT r<=_
  omega
theorem tI{k:Tm}:∀{ks:List Tm},k∈ks->k.size<=Tm.sizes ks
 |_::r,.head _=>by rw[Tm.cT];exact Nat.le_add_right _ _
 |_::r,.tail _ h=>by
  have:=tI h
  rw[Tm.cT]
  omega
theorem fY(x:Str):au (bF x).txt=x:=by unfold bF Bw.txt;exact az x
theorem Ao(x:Str):("":Str)++x=x:=empty_app
theorem FY(n:Int)(ks:List Tm):j5 (.mk (.num n) ks)=Str.ofString (toString n):=by
 unfold j5
 rw[dM]
 show au (Bw.a (bS n)).txt=_
 unfold Bw.txt
 exact az _
theorem DZ(x:Str)(ks:List Tm):j5 (.mk (.name x) ks)=x:=by
 unfold j5
 rw[dM]
 exact fY x
theorem FZ(n:Int)(ks:List Tm):j5 (.mk (.gap n) ks)=("?":Str)++Str.ofString (toString n):=by
 unfold j5
 rw[dM]
 show au (Bw.a (63::bS n)).txt=_
 unfold Bw.txt
 rw[show Str.ofString (toString n)=au (bS n)from(az _).symm]
 show _=au [63]++au (bS n)
 rw[bZ]
 rfl
theorem Aq{n:Int}(h:0<=n/\n<1000000):(Str.ofString (toString n)).length<=6:=by
 rw[show Str.ofString (toString n)=au (bS n)from(az _).symm,aI]
 exact xq h
theorem jX(xs:List Sx):(xs.map rL).map (fun b=>au b.txt)=xs.map fun x=>au (iu x):=by
 rw[List.map_map]
 exact List.map_congr_left fun x _=>by show au (rL x).txt=_;rw[uO]
noncomputable def pU(a:Str×List Str)(k:Tm):List Bw:=bF a.1::(a.2.map bF++[bw k])
theorem D3(a:Str×List Str)(k:Tm):(pU a k).map (fun b=>au b.txt)=a.1::(a.2++[j5 k]):=by
 unfold pU
 rw[List.map_cons,List.map_append,List.map_map,fY]
 congr 2
 conv=>rhs;rw[←List.map_id a.2]
 exact List.map_congr_left fun x _=>fY x
theorem D4(a:Str×List Str)(k:Tm):(cW a (bw k)).txt=40::(Bw.bC (pU a k)++[41]):=by
 unfold cW pU Bw.txt
 rfl
theorem xD:∀(arms:List (Str×List Str)) (ks:List Tm),(List.zipWith cW arms (ks.map bw)).map (fun b=>au b.txt)=(arms.zip ks).map fun z=>au (cW z.1 (bw z.2)).txt
 | [],_=>by simp
 |_::_,[]=>by simp
 |a::r,k::q=>by
  rw[List.map_cons,List.zipWith_cons_cons,List.zip_cons_cons,List.map_cons,List.map_cons,xD r q]
theorem qf(ts:List Tm):(ts.map bw).map (fun b=>au b.txt)=ts.map j5:=by rw[List.map_map];rfl
section
variable {P:Program}{w:World}{K:PySem.W.Frag}{mg:Str->Option Value}{base:Heap}{gT gS:Addr}{tfd sfd:FuncData}
theorem yP:Nm ["_law_terms"] (ae iD):=by decide +kernel
theorem yQ:aH ["_law_terms"] ["_law_terms"] (ae iD):=⟨rfl,rfl,rfl,by decide +kernel,rfl,by decide +kernel,by decide +kernel⟩
theorem IG{f:Addr}{fd:FuncData}{n j:Nat}(F:eN K "_law_texts" "_law_texts" iD f fd)(LTT:bE P w K mg base "_law_term_text" j ["_law_term"] (xC K n) gT tfd):bK P w K mg base d8 (j+1) f fd ["_law_terms"] (GX K n):=by
 refine F.ok yQ (fun vs H Q E h=>?_) (fun cdv A outer s H vs Q E hr h=>?_)
 ·obtain⟨_,_,_,rfl,_⟩:=h
  rfl
 obtain⟨p,us,ts,rfl,sq,r,l5,ok,k⟩:=h
 refine⟨_,(Zc (Zf (Za (ae iD) ["_law_terms"] ["_law_term"] (fK (va yP 0)) (fun _ _ _ _=>(Z2 (i:=0) (show(["_law_term"]:List Str).Nodup by decide +kernel))) (fun _ _ _ _=>(Z0 LTT (Z9 (va (show Nm ["_law_term"] _ by show _=_;kernel_rfl) 0))))))),?_⟩
 try dsimp only[aU]
 try dsimp only[aU]
 fail "R"
 refine bR (K:=K) (e:=enc) (φ:=fun t=>[T.s (j5 t)]) (ps:=ts) (fun σ=>∃x,σ=[x]) sq r (by omega) (fun _=>Nat.le_refl _) ⟨_,rfl⟩ ?_ ?_
 ·rintro q hq x σ H2 N s2 ⟨y,rfl⟩ rx kN
  obtain⟨o1,o2,o3,o4⟩:=ok q hq
  fail "R"
  intro H3 s3
  exact kN _ _ _ ⟨⟨_,rfl⟩,s3,.one .s⟩
 ·intro l H' us' s3 hl h3 r3
  rw[cH]at r3
  have e:us'=(ts.map j5).map V.str:=by
   have r4:aX K H' ((ts.map j5).map T.s) us':=by rw[List.map_map];exact r3
   exact aX.bO r4
  rw[e]at h3
  exact k l H' s3 hl h3
theorem aD:Nm ["_law_term","_law_head","_law_words"] (ae cQ):=by decide +kernel
theorem cE:Lm ["_law_term","_law_head","_law_words"] (ae cQ):=by decide +kernel
theorem cj:aH ["_law_term","_law_head","_law_words"] ["_law_term"] (ae cQ):=⟨rfl,rfl,rfl,by decide +kernel,rfl,by decide +kernel,by decide +kernel⟩
theorem II{f:Addr}{fd:FuncData}{n j:Nat}(hj:1<=j)(F:eN K "_law_term_text" "_law_term_text" cQ f fd)(LTT:bE P w K mg base "_law_term_text" j ["_law_term"] (xC K n) gT tfd)(LTS:bE P w K mg base "_law_texts" (j+1) ["_law_terms"] (GX K n) gS sfd)(z_str:mg "str"=none)(z_int:mg "int"=none)(z_isinstance:mg "isinstance"=none):bK P w K mg base d8 (j+2) f fd ["_law_term"] (xC K (n+1)):=by
 refine F.ok cj (fun vs H Q E h=>?_) (fun cdv A outer s H vs Q E hr h=>?_)
 ·obtain⟨_,_,rfl,_⟩:=h
  rfl
 obtain⟨v,tm,rfl,r,ht,hw,hd,hz,k⟩:=h
 refine⟨_,(Z4 (Z5 cj.nd cE 1 (Zb bH (va aD 0))) (Z4 (Z8 (@fN _ _ _ _ _ _ _ _ iB (va aD 1) (Zj (Z1 ak (dP ak (Z9 ak)))) (by with_unfolding_all rfl)) (Zc (Zf (Zd bN (Zp aN (@bq _ _ _ _ (dP ak (Z9 ak))) (Z6 oJ z_int PyProof.Rows.boot_int (Z1 (fM b9 (va aD 1) ak (mG _)) aj))) (Z6 oQ z_str PyProof.Rows.boot_str (Z1 (Zb bH (va aD 0)) aj)))))) (Z4 (@iG _ _ _ _ _ _ _ _ (Zi b9 (va aD 1) ak) (Zc (Z5 cj.nd cE 2 (Zd eR (@bq _ _ _ _ (Z1 (Zb bH (va aD 0)) aj)) (Z0 LTS (Z1 (cC tS (va aD 0) (cN ao) cV) aj))))) (Zc (@iG _ _ _ _ _ _ _ _ (Zi b9 (va aD 1) ak) (Zc (Z5 cj.nd cE 2 (Zd eR (@bq _ _ _ _ (Z9 (va aD 1))) (Z0 LTS (Z1 (Zb bH (va aD 0)) aj))))) (Zc (@iG _ _ _ _ _ _ _ _ (Zi b9 (va aD 1) ak) (Zc (Z5 cj.nd cE 2 (Zd eR (@bq _ _ _ _ (Z1 (Zd bN (Zb bH (va aD 0)) ak) aj)) (Z0 LTS (Z1 (Zb bH (va aD 0)) aj))))) (Zc (@iG _ _ _ _ _ _ _ _ (Zi b9 (va aD 1) ak) (Zc (Z5 cj.nd cE 2 (Zd eR (@bq _ _ _ _ (Z1 (va aD 1) (Z1 (Zb bH (va aD 0)) aj))) (Z0 LTS (Z1 (Zb bH (va aD 0)) aj))))) (Zc (@iG _ _ _ _ _ _ _ _ (Zi b9 (va aD 1) ak) (Z4 (Z5 cj.nd cE 2 (@bq _ _ _ _ (Z1 (va aD 1) (Z1 (Z0 LTT (Z1 (Zb bH (va aD 0)) aj)) aj)))) (Zc (Z5 cj.nd cE 2 (Zd eR (va aD 2) (Za (ae cQ) ["_law_term","_law_head","_law_words"] ["_law_t","_law_names","_law_arm"] (@fK _ _ _ _ (Zb bH (va aD 0))) (fun _ _ _ _=>(Zh (3) (Zq (Z2 (i:=0) (show(["_law_t","_law_names","_law_arm"]:List Str).Nodup by decide +kernel)) (Zq (Z2 (i:=1) (show(["_law_t","_law_names","_law_arm"]:List Str).Nodup by decide +kernel)) (bW (Z2 (i:=2) (show(["_law_t","_law_names","_law_arm"]:List Str).Nodup by decide +kernel)) cM))))) (fun _ _ _ _=>(Zd bN (Zd bN ak (@yO _ _ _ _ _ _ _ _ _ _ _ _ K rfl PySem.F.plainAttrs_str PySem.F.slot_str_join PySem.F.type_str_join (BE K rfl) ak (Z1 (Zd (tH K rfl) (Zd (tH K rfl) (Zj (Z9 (va (show Nm ["_law_t","_law_names","_law_arm"] _ by show _=_;kernel_rfl) 0))) (va (show Nm ["_law_t","_law_names","_law_arm"] _ by show _=_;kernel_rfl) 1)) (Zj (Z1 (Z0 LTT (Z9 (va (show Nm ["_law_t","_law_names","_law_arm"] _ by show _=_;kernel_rfl) 2))) aj))) aj) (by kernel_rfl) (by kernel_rfl) (by kernel_rfl) (by kernel_rfl) (by kernel_rfl))) ak))))))) (Zc (Z5 cj.nd cE 2 (Zd eR (@bq _ _ _ _ (Z9 (va aD 1))) (Za (ae cQ) ["_law_term","_law_head","_law_words"] ["_law_one"] (@fK _ _ _ _ (cC tS (va aD 0) (cN ao) cV)) (fun _ _ _ _=>(Z2 (i:=0) (show(["_law_one"]:List Str).Nodup by decide +kernel))) (fun _ _ _ _=>(@vy _ _ _ _ _ _ _ _ (Zo (Z3 (gk K rfl) z_isinstance PyProof.Rows.boot_isinstance (Z1 (va (show Nm ["_law_one"] _ by show _=_;kernel_rfl) 0) (Z9 (Zg (v:=.ty "str") z_str))))) (va (show Nm ["_law_one"] _ by show _=_;kernel_rfl) 0) (Z0 LTT (Z9 (va (show Nm ["_law_one"] _ by show _=_;kernel_rfl) 0)))))))))))))))))) (Zc (Zf (Zd bN (Zd bN ak (@cz _ _ _ _ _ _ _ _ _ _ _ _ PySem.F.plainAttrs_str PySem.F.slot_str_join PySem.F.type_str_join iW ak (Z9 (va aD 2)) (by kernel_rfl) (by kernel_rfl) (by kernel_rfl) (by kernel_rfl) (by kernel_rfl))) ak)))))),?_⟩
 try dsimp only[aU]
 try dsimp only[aU]
 refine dR ?_
 intro N1 N2 N3 c1 c2 c3
 have lt0:=uS ht hw
 have lt:(bw tm).txt.length<=3000:=by omega
 have tail:∀(hd:Str) (l:Addr) (H':Hp) (ws:List Bw),aL H H'->H' l=some (.lst ((ws.map fun b=>au b.txt).map V.str))->bw tm=.g 40 ws->N3 [some v,some (.str hd),some (.ref l)] H':=by
  intro hd l H' ws s' h' e'
  have et:(bw tm).txt=40::(Bw.bC ws++[41]):=by rw[e'];unfold Bw.txt;rfl
  have el:(Bw.bC ws).length+2=(bw tm).txt.length:=by rw[et];simp
  have st:=vf ws
  have sl:=rD ws
  have sq':bB K H' l ((ws.map fun b=>au b.txt).map V.str):=bB.of h'
  have hj:((ws.map fun b=>au b.txt).map (·.length)).sum+(ws.map fun b=>au b.txt).length*(" ":Str).length<=16777216:=by
   rw[show(" ":Str).length=1 by decide +kernel,List.length_map]
   omega
  have jb:=jV ws
  have l1:("(":Str).length+(Txt.join " " (ws.map fun b=>au b.txt)).length<=sizeLine:=cP (by rw[jb,aI];show 1+_<=_;omega)
  have l2:(("(":Str)++Txt.join " " (ws.map fun b=>au b.txt)).length+(")":Str).length<=sizeLine:=cP (by rw[jb,strLen_append,aI];show 1+_+1<=_;omega)
  fail "R"
  rw[jb]
  have e3:("(":Str)++au (Bw.bC ws)++(")":Str)=j5 tm:=by
   unfold j5
   rw[et]
   show au [40]++au _++au [41]=_
   rw[bZ,bZ]
   rfl
  show Q (.str (("(":Str)++au (Bw.bC ws)++(")":Str))) H'
  rw[e3]
  exact k _ s'
 clear c3
 obtain⟨h,ks⟩:=tm
 have wl:=hw.len
 have wh:=hw.hd
 have wk:=hw.kids
 rw[cS]at r
 have hsz:=Tm.uo h ks
 obtain⟨ar,ho,hk⟩:=ht
 have kok:∀q∈ks,cX q/\Nw q/\q.depth<n/\q.size<=66:=fun q hq=>⟨hk q hq,wk q hq,by have:=Tm.sR (h:=h) hq;omega,by have:=tI hq;omega⟩
 cases h with
 |num n =>
  obtain⟨a,v1,v2,rfl,sq,g1,g2⟩:=(show Rp K H (.t [.s "num",.i n]) v from r).t2
  obtain rfl:=g1.aG
  obtain rfl:=g2.ef
  have a0:cK [V.str "num",.int n] 0=some (.str "num"):=iS _ _
  have a1:cK [V.str "num",.int n] 1=some (.int n):=bh (j:=1) rfl
  fail "R"
  intro p0 hp0
  have s0:=ah hp0 (.tup [.str "num",.str "name",.str "gap"])
  have q0:bf K (upd H p0 (.tup [.str "num",.str "name",.str "gap"])) p0 [.str "num",.str "name",.str "gap"]:=bf.of aa
  have sq0:=sq.same s0
  generalize upd H p0 (.tup [.str "num",.str "name",.str "gap"])=H0 at s0 q0 sq0⊢
  have fl0:([V.str "num",.str "name",.str "gap"]:List V).all dI=true:=by decide +kernel
  have in0:nh (.str "num") [.str "num",.str "name",.str "gap"]=true:=by decide +kernel
  fail "R"
  intro l1 hl1
  have s1:=ah hl1 (.lst [.str "",.str "?"])
  have q1:bB K (upd H0 l1 (.lst [.str "",.str "?"])) l1 [.str "",.str "?"]:=bB.of aa
  have sq1:=sq0.same s1
  generalize upd H0 l1 (.lst [.str "",.str "?"])=H1 at s1 q1 sq1⊢
  have b0:cK [V.str "",.str "?"] 0=some (.str ""):=iS _ _
  have b1:cK [V.str "",.str "?"] 1=some (.str "?"):=bh (j:=1) rfl
  have s01:=s0.trans s1
  fail "R"
  refine .inr ⟨_,rfl,?_⟩
  fail "R"
  have ho':0<=n/\n<1000000:=ho
  have dl:=Aq ho'
  refine .inr ⟨n,rfl,by omega,?_⟩
  have l1':("":Str).length+(Str.ofString (toString n)).length<=sizeLine:=cP (by show 0+_<=_;omega)
  fail "R"
  rw[Ao,←FY n ks]
  exact k _ s01
 |name x =>
  obtain⟨a,v1,v2,rfl,sq,g1,g2⟩:=(show Rp K H (.t [.s "name",.s x]) v from r).t2
  obtain rfl:=g1.aG
  obtain rfl:=g2.aG
  have a0:cK [V.str "name",.str x] 0=some (.str "name"):=iS _ _
  have a1:cK [V.str "name",.str x] 1=some (.str x):=bh (j:=1) rfl
  fail "R"
  intro p0 hp0
  have s0:=ah hp0 (.tup [.str "num",.str "name",.str "gap"])
  have q0:bf K (upd H p0 (.tup [.str "num",.str "name",.str "gap"])) p0 [.str "num",.str "name",.str "gap"]:=bf.of aa
  have sq0:=sq.same s0
  generalize upd H p0 (.tup [.str "num",.str "name",.str "gap"])=H0 at s0 q0 sq0⊢
  have fl0:([V.str "num",.str "name",.str "gap"]:List V).all dI=true:=by decide +kernel
  have in0:nh (.str "name") [.str "num",.str "name",.str "gap"]=true:=by decide +kernel
  fail "R"
  intro l1 hl1
  have s1:=ah hl1 (.lst [.str "",.str "?"])
  have q1:bB K (upd H0 l1 (.lst [.str "",.str "?"])) l1 [.str "",.str "?"]:=bB.of aa
  have sq1:=sq0.same s1
  generalize upd H0 l1 (.lst [.str "",.str "?"])=H1 at s1 q1 sq1⊢
  have b0:cK [V.str "",.str "?"] 0=some (.str ""):=iS _ _
  have b1:cK [V.str "",.str "?"] 1=some (.str "?"):=bh (j:=1) rfl
  have s01:=s0.trans s1
  fail "R"
  refine .inr ⟨_,rfl,?_⟩
  fail "R"
  have ho':bx x:=ho
  have dl:=ho'.2.1
  refine .inl ⟨x,rfl,?_⟩
  have l1':("":Str).length+x.length<=sizeLine:=cP (by show 0+_<=_;omega)
  fail "R"
  rw[Ao,show x=j5 (.mk (.name x) ks)from(DZ x ks).symm]
  exact k _ s01
 |gap n =>
  obtain⟨a,v1,v2,rfl,sq,g1,g2⟩:=(show Rp K H (.t [.s "gap",.i n]) v from r).t2
  obtain rfl:=g1.aG
  obtain rfl:=g2.ef
  have a0:cK [V.str "gap",.int n] 0=some (.str "gap"):=iS _ _
  have a1:cK [V.str "gap",.int n] 1=some (.int n):=bh (j:=1) rfl
  fail "R"
  intro p0 hp0
  have s0:=ah hp0 (.tup [.str "num",.str "name",.str "gap"])
  have q0:bf K (upd H p0 (.tup [.str "num",.str "name",.str "gap"])) p0 [.str "num",.str "name",.str "gap"]:=bf.of aa
  have sq0:=sq.same s0
  generalize upd H p0 (.tup [.str "num",.str "name",.str "gap"])=H0 at s0 q0 sq0⊢
  have fl0:([V.str "num",.str "name",.str "gap"]:List V).all dI=true:=by decide +kernel
  have in0:nh (.str "gap") [.str "num",.str "name",.str "gap"]=true:=by decide +kernel
  fail "R"
  intro l1 hl1
  have s1:=ah hl1 (.lst [.str "",.str "?"])
  have q1:bB K (upd H0 l1 (.lst [.str "",.str "?"])) l1 [.str "",.str "?"]:=bB.of aa
  have sq1:=sq0.same s1
  generalize upd H0 l1 (.lst [.str "",.str "?"])=H1 at s1 q1 sq1⊢
  have b0:cK [V.str "",.str "?"] 0=some (.str ""):=iS _ _
  have b1:cK [V.str "",.str "?"] 1=some (.str "?"):=bh (j:=1) rfl
  have s01:=s0.trans s1
  fail "R"
  refine .inr ⟨_,rfl,?_⟩
  fail "R"
  have ho':0<=n/\n<100:=ho
  have dl:=Aq (n:=n) ⟨ho'.1,by omega⟩
  refine .inr ⟨n,rfl,by omega,?_⟩
  have l1':("?":Str).length+(Str.ofString (toString n)).length<=sizeLine:=cP (by show 1+_<=_;omega)
  fail "R"
  rw[←FZ n ks]
  exact k _ s01
 |row =>
  obtain⟨a,v1,v2,rfl,sq,g1,g2⟩:=(show Rp K H (.t [.s "row",.t (ks.map enc)]) v from r).t2
  obtain rfl:=g1.aG
  obtain⟨b,us,rfl,sqb,rb⟩:=g2.aR
  have a0:cK [V.str "row",.ref b] 0=some (.str "row"):=iS _ _
  have a1:cK [V.str "row",.ref b] 1=some (.ref b):=bh (j:=1) rfl
  fail "R"
  intro p0 hp0
  have s0:=ah hp0 (.tup [.str "num",.str "name",.str "gap"])
  have q0:bf K (upd H p0 (.tup [.str "num",.str "name",.str "gap"])) p0 [.str "num",.str "name",.str "gap"]:=bf.of aa
  have sq0:=sq.same s0
  generalize upd H p0 (.tup [.str "num",.str "name",.str "gap"])=H0 at s0 q0 sq0⊢
  have fl0:([V.str "num",.str "name",.str "gap"]:List V).all dI=true:=by decide +kernel
  have in0:nh (.str "row") [.str "num",.str "name",.str "gap"]=false:=by decide +kernel
  have rb0:=rb.same s0
  have sqb0:=sqb.same s0
  fail "R"
  intro l1 hl1
  have s1:=ah hl1 (.lst [.str "row"])
  have h1:upd H0 l1 (.lst [.str "row"]) l1=some (.lst [.str "row"]):=aa
  have sq1:=sq0.same s1
  have rb1:=rb0.same s1
  have sqb1:=sqb0.same s1
  generalize upd H0 l1 (.lst [.str "row"])=H1 at s1 h1 sq1 rb1 sqb1⊢
  have s01:=s0.trans s1
  fail "R"
  intro l2 H2 s2 hl2 h2
  have h2l:=s2 _ _ h1
  have lc:([.str "row"]:List V).length+((ks.map j5).map V.str).length<=sizeLine:=cP (by rw[List.length_map,List.length_map];show 1+_<=_;omega)
  fail "R"
  intro l3 hl3
  refine tail _ l3 _ (bF "row"::ks.map bw) ((s01.trans s2).trans (Zs hl3)) ?_ (dM _ _)
  rw[aa]
  simp only[List.map_cons,qf,List.cons_append,List.nil_append,fY]
 |call f =>
  obtain⟨a,v1,v2,v3,rfl,sq,g1,g2,g3⟩:=(show Rp K H (.t [.s "call",.s f,.t (ks.map enc)]) v from r).t3
  obtain rfl:=g1.aG
  obtain rfl:=g2.aG
  obtain⟨b,us,rfl,sqb,rb⟩:=g3.aR
  have a0:cK [V.str "call",.str f,.ref b] 0=some (.str "call"):=iS _ _
  have a1:cK [V.str "call",.str f,.ref b] 1=some (.str f):=bh (j:=1) rfl
  have a2:cK [V.str "call",.str f,.ref b] 2=some (.ref b):=bh (j:=2) rfl
  fail "R"
  intro p0 hp0
  have s0:=ah hp0 (.tup [.str "num",.str "name",.str "gap"])
  have q0:bf K (upd H p0 (.tup [.str "num",.str "name",.str "gap"])) p0 [.str "num",.str "name",.str "gap"]:=bf.of aa
  have sq0:=sq.same s0
  generalize upd H p0 (.tup [.str "num",.str "name",.str "gap"])=H0 at s0 q0 sq0⊢
  have fl0:([V.str "num",.str "name",.str "gap"]:List V).all dI=true:=by decide +kernel
  have in0:nh (.str "call") [.str "num",.str "name",.str "gap"]=false:=by decide +kernel
  have rb0:=rb.same s0
  have sqb0:=sqb.same s0
  fail "R"
  intro l1 hl1
  have s1:=ah hl1 (.lst [.str "call",.str f])
  have h1:upd H0 l1 (.lst [.str "call",.str f]) l1=some (.lst [.str "call",.str f]):=aa
  have sq1:=sq0.same s1
  have rb1:=rb0.same s1
  have sqb1:=sqb0.same s1
  generalize upd H0 l1 (.lst [.str "call",.str f])=H1 at s1 h1 sq1 rb1 sqb1⊢
  have s01:=s0.trans s1
  fail "R"
  intro l2 H2 s2 hl2 h2
  have h2l:=s2 _ _ h1
  have lc:([.str "call",.str f]:List V).length+((ks.map j5).map V.str).length<=sizeLine:=cP (by rw[List.length_map,List.length_map];show 2+_<=_;omega)
  fail "R"
  intro l3 hl3
  refine tail _ l3 _ (bF "call"::bF f::ks.map bw) ((s01.trans s2).trans (Zs hl3)) ?_ (dM _ _)
  rw[aa]
  simp only[List.map_cons,qf,List.cons_append,List.nil_append,fY]
 |tag t =>
  obtain⟨a,v1,v2,v3,rfl,sq,g1,g2,g3⟩:=(show Rp K H (.t [.s "tag",.s t,.t (ks.map enc)]) v from r).t3
  obtain rfl:=g1.aG
  obtain rfl:=g2.aG
  obtain⟨b,us,rfl,sqb,rb⟩:=g3.aR
  have a0:cK [V.str "tag",.str t,.ref b] 0=some (.str "tag"):=iS _ _
  have a1:cK [V.str "tag",.str t,.ref b] 1=some (.str t):=bh (j:=1) rfl
  have a2:cK [V.str "tag",.str t,.ref b] 2=some (.ref b):=bh (j:=2) rfl
  have hl6:=(show bx t from ho).2.1
  have et:au (Bw.a (t.cps.toList++[58])).txt=t++(":":Str):=by
   unfold Bw.txt
   rw[←bZ,az]
   rfl
  have lq:t.length+(":":Str).length<=sizeLine:=cP (by show _+1<=_;omega)
  fail "R"
  intro p0 hp0
  have s0:=ah hp0 (.tup [.str "num",.str "name",.str "gap"])
  have q0:bf K (upd H p0 (.tup [.str "num",.str "name",.str "gap"])) p0 [.str "num",.str "name",.str "gap"]:=bf.of aa
  have sq0:=sq.same s0
  generalize upd H p0 (.tup [.str "num",.str "name",.str "gap"])=H0 at s0 q0 sq0⊢
  have fl0:([V.str "num",.str "name",.str "gap"]:List V).all dI=true:=by decide +kernel
  have in0:nh (.str "tag") [.str "num",.str "name",.str "gap"]=false:=by decide +kernel
  have rb0:=rb.same s0
  have sqb0:=sqb.same s0
  fail "R"
  intro l1 hl1
  have s1:=ah hl1 (.lst [.str (t++(":":Str))])
  have h1:upd H0 l1 (.lst [.str (t++(":":Str))]) l1=some (.lst [.str (t++(":":Str))]):=aa
  have sq1:=sq0.same s1
  have rb1:=rb0.same s1
  have sqb1:=sqb0.same s1
  generalize upd H0 l1 (.lst [.str (t++(":":Str))])=H1 at s1 h1 sq1 rb1 sqb1⊢
  have s01:=s0.trans s1
  fail "R"
  intro l2 H2 s2 hl2 h2
  have h2l:=s2 _ _ h1
  have lc:([.str (t++(":":Str))]:List V).length+((ks.map j5).map V.str).length<=sizeLine:=cP (by rw[List.length_map,List.length_map];show 1+_<=_;omega)
  fail "R"
  intro l3 hl3
  refine tail _ l3 _ (Bw.a (t.cps.toList++[58])::ks.map bw) ((s01.trans s2).trans (Zs hl3)) ?_ (dM _ _)
  rw[aa]
  simp only[List.map_cons,qf,List.cons_append,List.nil_append,et]
 |op s =>
  obtain⟨a,us,rfl,sq,rs⟩:=(show Rp K H (.t (.s "op"::.s s::ks.map enc)) v from r).aR
  obtain⟨v0,us0,rfl,g0,rs0⟩:=L2.aX.inv rs
  obtain rfl:=g0.aG
  obtain⟨v1,us2,rfl,g1,rb⟩:=L2.aX.inv rs0
  obtain rfl:=g1.aG
  have a0:cK (V.str "op"::.str s::us2) 0=some (.str "op"):=iS _ _
  have a1:cK (V.str "op"::.str s::us2) 1=some (.str s):=bh (j:=1) rfl
  fail "R"
  intro p0 hp0
  have s0:=ah hp0 (.tup [.str "num",.str "name",.str "gap"])
  have q0:bf K (upd H p0 (.tup [.str "num",.str "name",.str "gap"])) p0 [.str "num",.str "name",.str "gap"]:=bf.of aa
  have sq0:=sq.same s0
  generalize upd H p0 (.tup [.str "num",.str "name",.str "gap"])=H0 at s0 q0 sq0⊢
  have fl0:([V.str "num",.str "name",.str "gap"]:List V).all dI=true:=by decide +kernel
  have in0:nh (.str "op") [.str "num",.str "name",.str "gap"]=false:=by decide +kernel
  have rb0:=rb.same s0
  have sqb0:=sq0
  fail "R"
  intro l1 hl1
  have s1:=ah hl1 (.lst [.str s])
  have h1:upd H0 l1 (.lst [.str s]) l1=some (.lst [.str s]):=aa
  have sq1:=sq0.same s1
  have rb1:=rb0.same s1
  have sqb1:=sqb0.same s1
  generalize upd H0 l1 (.lst [.str s])=H1 at s1 h1 sq1 rb1 sqb1⊢
  have s01:=s0.trans s1
  have cn:=Dw (V.str "op") (V.str s) us2
  have ec:fH (V.str "op"::.str s::us2) (some 2) none=us2:=lA _ 2
  fail "R"
  rw[ec]
  intro p9 hp9
  have s9:=ah hp9 (.tup us2)
  have q9:bf K (upd H1 p9 (.tup us2)) p9 us2:=bf.of aa
  have rb9:=rb1.same s9
  have h9:=s9 _ _ h1
  generalize upd H1 p9 (.tup us2)=H9 at s9 q9 rb9 h9⊢
  fail "R"
  intro l2 H2 s2 hl2 h2
  have h2l:=s2 _ _ h9
  have lc:([.str s]:List V).length+((ks.map j5).map V.str).length<=sizeLine:=cP (by rw[List.length_map,List.length_map];show 1+_<=_;omega)
  fail "R"
  intro l3 hl3
  refine tail _ l3 _ (bF s::ks.map bw) (((s01.trans s9).trans s2).trans (Zs hl3)) ?_ (dM _ _)
  rw[aa]
  simp only[List.map_cons,qf,List.cons_append,List.nil_append,fY]
 |more =>
  obtain⟨a,us,rfl,sq,rs⟩:=(show Rp K H (.t (.s "more"::ks.map enc)) v from r).aR
  obtain⟨v0,us0,rfl,g0,rb'⟩:=L2.aX.inv rs
  obtain rfl:=g0.aG
  have rb:aX K H ((kd ks:List Sx).map resT) us0:=by(show aX K H ((kd ks).map resT) us0;unfold kd;rw[List.map_map];exact rb')
  have xok:∀z∈(kd ks:List Sx),∀t,z=.inl t->t∈ks:=fun z hz t e=>by(subst e;obtain⟨q,hq,e⟩:=List.mem_map.mp hz;injection e with e;exact e▸hq)
  have xlen:(kd ks:List Sx).length<=10:=by unfold kd;rw[List.length_map];omega
  have ews:(kd ks:List Sx).map rL=ks.map bw:=kR ks
  have ebb:=(show bw (.mk .more ks)=.g 40 (bF "more"::ks.map bw)from dM _ _)
  rw[←ews]at ebb
  generalize(kd ks:List Sx)=xs at rb xok xlen ews ebb
  have a0:cK (V.str "more"::us0) 0=some (.str "more"):=iS _ _
  fail "R"
  intro p0 hp0
  have s0:=ah hp0 (.tup [.str "num",.str "name",.str "gap"])
  have q0:bf K (upd H p0 (.tup [.str "num",.str "name",.str "gap"])) p0 [.str "num",.str "name",.str "gap"]:=bf.of aa
  have sq0:=sq.same s0
  generalize upd H p0 (.tup [.str "num",.str "name",.str "gap"])=H0 at s0 q0 sq0⊢
  have fl0:([V.str "num",.str "name",.str "gap"]:List V).all dI=true:=by decide +kernel
  have in0:nh (.str "more") [.str "num",.str "name",.str "gap"]=false:=by decide +kernel
  have rb0:=rb.same s0
  have cn:=gr (V.str "more"::us0) 1 (Nat.le_refl _) (by simp)
  have ec:fH (V.str "more"::us0) (some 1) none=us0:=fF _ _
  fail "R"
  intro l1 hl1
  have s1:=ah hl1 (.lst [.str "more"])
  have h1:upd H0 l1 (.lst [.str "more"]) l1=some (.lst [.str "more"]):=aa
  have sq1:=sq0.same s1
  have rb1:=rb0.same s1
  generalize upd H0 l1 (.lst [.str "more"])=H1 at s1 h1 sq1 rb1⊢
  have s01:=s0.trans s1
  fail "R"
  rw[ec]
  intro p9 hp9
  have s9:=ah hp9 (.tup us0)
  have q9:bf K (upd H1 p9 (.tup us0)) p9 us0:=bf.of aa
  have rb9:=rb1.same s9
  have h9:=s9 _ _ h1
  generalize upd H1 p9 (.tup us0)=H9 at s9 q9 rb9 h9⊢
  fail "R"
  refine bR (K:=K) (e:=resT) (φ:=fun x=>[T.s (au (iu x))]) (ps:=xs) (fun σ=>∃x,σ=[x]) q9 rb9 (by omega) (fun _=>Nat.le_refl _) ⟨_,rfl⟩ ?_ ?_
  ·rintro q hq x2 σ H4 N s4 ⟨y2,rfl⟩ rx kN
   cases q with
   |inl t =>
    obtain⟨o1,o2,o3,o4⟩:=kok t (xok _ hq t rfl)
    have rx1:Rp K H4 (enc t) x2:=rx
    obtain⟨es,ee⟩:=pH t
    have rx2:=rx1
    rw[ee]at rx2
    obtain⟨b4,w4,rfl,sq4,_⟩:=rx2.aR
    fail "R"
    refine .inl ⟨_,_,rfl,sq4,?_⟩
    fail "R"
    intro H5 s5
    exact kN _ _ _ ⟨⟨_,rfl⟩,s5,.one .s⟩
   |inr z =>
    obtain rfl:=(show Rp K H4 (.s z) x2 from rx).aG
    fail "R"
    refine .inr (.inl ⟨_,rfl,?_⟩)
    fail "R"
    refine kN _ _ _ ⟨⟨_,rfl⟩,aL.refl _,?_⟩
    show aX K H4 [T.s (au z.cps.toList)] _
    rw[az]
    exact .one .s
  intro l2 H2 us' s2 hl2 h2 r2
  rw[cH]at r2
  have e2:us'=(xs.map fun x=>au (iu x)).map V.str:=by
   have r4:aX K H2 ((xs.map fun x=>au (iu x)).map T.s) us':=by rw[List.map_map];exact r2
   exact L2.aX.bO r4
  subst e2
  have h2l:=s2 _ _ h9
  have lc:([.str "more"]:List V).length+((xs.map fun x=>au (iu x)).map V.str).length<=sizeLine:=cP (by rw[List.length_map,List.length_map];show 1+_<=_;omega)
  fail "R"
  intro l3 hl3
  refine tail _ l3 _ (bF "more"::xs.map rL) (((s01.trans s9).trans s2).trans (Zs hl3)) ?_ ebb
  rw[aa]
  simp only[List.map_cons,jX,List.cons_append,List.nil_append,fY]
 |first =>
  obtain⟨a,us,rfl,sq,rs⟩:=(show Rp K H (.t (.s "first"::ks.map enc)) v from r).aR
  obtain⟨v0,us0,rfl,g0,rb'⟩:=L2.aX.inv rs
  obtain rfl:=g0.aG
  have rb:aX K H ((kd ks:List Sx).map resT) us0:=by(show aX K H ((kd ks).map resT) us0;unfold kd;rw[List.map_map];exact rb')
  have xok:∀z∈(kd ks:List Sx),∀t,z=.inl t->t∈ks:=fun z hz t e=>by(subst e;obtain⟨q,hq,e⟩:=List.mem_map.mp hz;injection e with e;exact e▸hq)
  have xlen:(kd ks:List Sx).length<=10:=by unfold kd;rw[List.length_map];omega
  have ews:(kd ks:List Sx).map rL=ks.map bw:=kR ks
  have ebb:=(show bw (.mk .first ks)=.g 40 (bF "first"::ks.map bw)from dM _ _)
  rw[←ews]at ebb
  generalize(kd ks:List Sx)=xs at rb xok xlen ews ebb
  have a0:cK (V.str "first"::us0) 0=some (.str "first"):=iS _ _
  fail "R"
  intro p0 hp0
  have s0:=ah hp0 (.tup [.str "num",.str "name",.str "gap"])
  have q0:bf K (upd H p0 (.tup [.str "num",.str "name",.str "gap"])) p0 [.str "num",.str "name",.str "gap"]:=bf.of aa
  have sq0:=sq.same s0
  generalize upd H p0 (.tup [.str "num",.str "name",.str "gap"])=H0 at s0 q0 sq0⊢
  have fl0:([V.str "num",.str "name",.str "gap"]:List V).all dI=true:=by decide +kernel
  have in0:nh (.str "first") [.str "num",.str "name",.str "gap"]=false:=by decide +kernel
  have rb0:=rb.same s0
  have cn:=gr (V.str "first"::us0) 1 (Nat.le_refl _) (by simp)
  have ec:fH (V.str "first"::us0) (some 1) none=us0:=fF _ _
  fail "R"
  intro l1 hl1
  have s1:=ah hl1 (.lst [.str "first"])
  have h1:upd H0 l1 (.lst [.str "first"]) l1=some (.lst [.str "first"]):=aa
  have sq1:=sq0.same s1
  have rb1:=rb0.same s1
  generalize upd H0 l1 (.lst [.str "first"])=H1 at s1 h1 sq1 rb1⊢
  have s01:=s0.trans s1
  fail "R"
  rw[ec]
  intro p9 hp9
  have s9:=ah hp9 (.tup us0)
  have q9:bf K (upd H1 p9 (.tup us0)) p9 us0:=bf.of aa
  have rb9:=rb1.same s9
  have h9:=s9 _ _ h1
  generalize upd H1 p9 (.tup us0)=H9 at s9 q9 rb9 h9⊢
  fail "R"
  refine bR (K:=K) (e:=resT) (φ:=fun x=>[T.s (au (iu x))]) (ps:=xs) (fun σ=>∃x,σ=[x]) q9 rb9 (by omega) (fun _=>Nat.le_refl _) ⟨_,rfl⟩ ?_ ?_
  ·rintro q hq x2 σ H4 N s4 ⟨y2,rfl⟩ rx kN
   cases q with
   |inl t =>
    obtain⟨o1,o2,o3,o4⟩:=kok t (xok _ hq t rfl)
    have rx1:Rp K H4 (enc t) x2:=rx
    obtain⟨es,ee⟩:=pH t
    have rx2:=rx1
    rw[ee]at rx2
    obtain⟨b4,w4,rfl,sq4,_⟩:=rx2.aR
    fail "R"
    refine .inl ⟨_,_,rfl,sq4,?_⟩
    fail "R"
    intro H5 s5
    exact kN _ _ _ ⟨⟨_,rfl⟩,s5,.one .s⟩
   |inr z =>
    obtain rfl:=(show Rp K H4 (.s z) x2 from rx).aG
    fail "R"
    refine .inr (.inl ⟨_,rfl,?_⟩)
    fail "R"
    refine kN _ _ _ ⟨⟨_,rfl⟩,aL.refl _,?_⟩
    show aX K H4 [T.s (au z.cps.toList)] _
    rw[az]
    exact .one .s
  intro l2 H2 us' s2 hl2 h2 r2
  rw[cH]at r2
  have e2:us'=(xs.map fun x=>au (iu x)).map V.str:=by
   have r4:aX K H2 ((xs.map fun x=>au (iu x)).map T.s) us':=by rw[List.map_map];exact r2
   exact L2.aX.bO r4
  subst e2
  have h2l:=s2 _ _ h9
  have lc:([.str "first"]:List V).length+((xs.map fun x=>au (iu x)).map V.str).length<=sizeLine:=cP (by rw[List.length_map,List.length_map];show 1+_<=_;omega)
  fail "R"
  intro l3 hl3
  refine tail _ l3 _ (bF "first"::xs.map rL) (((s01.trans s9).trans s2).trans (Zs hl3)) ?_ ebb
  rw[aa]
  simp only[List.map_cons,jX,List.cons_append,List.nil_append,fY]
 |others =>
  obtain⟨a,us,rfl,sq,rs⟩:=(show Rp K H (.t (.s "others"::ks.map enc)) v from r).aR
  obtain⟨v0,us0,rfl,g0,rb'⟩:=L2.aX.inv rs
  obtain rfl:=g0.aG
  have rb:aX K H ((kd ks:List Sx).map resT) us0:=by(show aX K H ((kd ks).map resT) us0;unfold kd;rw[List.map_map];exact rb')
  have xok:∀z∈(kd ks:List Sx),∀t,z=.inl t->t∈ks:=fun z hz t e=>by(subst e;obtain⟨q,hq,e⟩:=List.mem_map.mp hz;injection e with e;exact e▸hq)
  have xlen:(kd ks:List Sx).length<=10:=by unfold kd;rw[List.length_map];omega
  have ews:(kd ks:List Sx).map rL=ks.map bw:=kR ks
  have ebb:=(show bw (.mk .others ks)=.g 40 (bF "others"::ks.map bw)from dM _ _)
  rw[←ews]at ebb
  generalize(kd ks:List Sx)=xs at rb xok xlen ews ebb
  have a0:cK (V.str "others"::us0) 0=some (.str "others"):=iS _ _
  fail "R"
  intro p0 hp0
  have s0:=ah hp0 (.tup [.str "num",.str "name",.str "gap"])
  have q0:bf K (upd H p0 (.tup [.str "num",.str "name",.str "gap"])) p0 [.str "num",.str "name",.str "gap"]:=bf.of aa
  have sq0:=sq.same s0
  generalize upd H p0 (.tup [.str "num",.str "name",.str "gap"])=H0 at s0 q0 sq0⊢
  have fl0:([V.str "num",.str "name",.str "gap"]:List V).all dI=true:=by decide +kernel
  have in0:nh (.str "others") [.str "num",.str "name",.str "gap"]=false:=by decide +kernel
  have rb0:=rb.same s0
  have cn:=gr (V.str "others"::us0) 1 (Nat.le_refl _) (by simp)
  have ec:fH (V.str "others"::us0) (some 1) none=us0:=fF _ _
  fail "R"
  intro l1 hl1
  have s1:=ah hl1 (.lst [.str "others"])
  have h1:upd H0 l1 (.lst [.str "others"]) l1=some (.lst [.str "others"]):=aa
  have sq1:=sq0.same s1
  have rb1:=rb0.same s1
  generalize upd H0 l1 (.lst [.str "others"])=H1 at s1 h1 sq1 rb1⊢
  have s01:=s0.trans s1
  fail "R"
  rw[ec]
  intro p9 hp9
  have s9:=ah hp9 (.tup us0)
  have q9:bf K (upd H1 p9 (.tup us0)) p9 us0:=bf.of aa
  have rb9:=rb1.same s9
  have h9:=s9 _ _ h1
  generalize upd H1 p9 (.tup us0)=H9 at s9 q9 rb9 h9⊢
  fail "R"
  refine bR (K:=K) (e:=resT) (φ:=fun x=>[T.s (au (iu x))]) (ps:=xs) (fun σ=>∃x,σ=[x]) q9 rb9 (by omega) (fun _=>Nat.le_refl _) ⟨_,rfl⟩ ?_ ?_
  ·rintro q hq x2 σ H4 N s4 ⟨y2,rfl⟩ rx kN
   cases q with
   |inl t =>
    obtain⟨o1,o2,o3,o4⟩:=kok t (xok _ hq t rfl)
    have rx1:Rp K H4 (enc t) x2:=rx
    obtain⟨es,ee⟩:=pH t
    have rx2:=rx1
    rw[ee]at rx2
    obtain⟨b4,w4,rfl,sq4,_⟩:=rx2.aR
    fail "R"
    refine .inl ⟨_,_,rfl,sq4,?_⟩
    fail "R"
    intro H5 s5
    exact kN _ _ _ ⟨⟨_,rfl⟩,s5,.one .s⟩
   |inr z =>
    obtain rfl:=(show Rp K H4 (.s z) x2 from rx).aG
    fail "R"
    refine .inr (.inl ⟨_,rfl,?_⟩)
    fail "R"
    refine kN _ _ _ ⟨⟨_,rfl⟩,aL.refl _,?_⟩
    show aX K H4 [T.s (au z.cps.toList)] _
    rw[az]
    exact .one .s
  intro l2 H2 us' s2 hl2 h2 r2
  rw[cH]at r2
  have e2:us'=(xs.map fun x=>au (iu x)).map V.str:=by
   have r4:aX K H2 ((xs.map fun x=>au (iu x)).map T.s) us':=by rw[List.map_map];exact r2
   exact L2.aX.bO r4
  subst e2
  have h2l:=s2 _ _ h9
  have lc:([.str "others"]:List V).length+((xs.map fun x=>au (iu x)).map V.str).length<=sizeLine:=cP (by rw[List.length_map,List.length_map];show 1+_<=_;omega)
  fail "R"
  intro l3 hl3
  refine tail _ l3 _ (bF "others"::xs.map rL) (((s01.trans s9).trans s2).trans (Zs hl3)) ?_ ebb
  rw[aa]
  simp only[List.map_cons,jX,List.cons_append,List.nil_append,fY]
 |long =>
  obtain⟨a,us,rfl,sq,rs⟩:=(show Rp K H (.t (.s "long"::ks.map enc)) v from r).aR
  obtain⟨v0,us0,rfl,g0,rb'⟩:=L2.aX.inv rs
  obtain rfl:=g0.aG
  have rb:aX K H ((kd ks:List Sx).map resT) us0:=by(show aX K H ((kd ks).map resT) us0;unfold kd;rw[List.map_map];exact rb')
  have xok:∀z∈(kd ks:List Sx),∀t,z=.inl t->t∈ks:=fun z hz t e=>by(subst e;obtain⟨q,hq,e⟩:=List.mem_map.mp hz;injection e with e;exact e▸hq)
  have xlen:(kd ks:List Sx).length<=10:=by unfold kd;rw[List.length_map];omega
  have ews:(kd ks:List Sx).map rL=ks.map bw:=kR ks
  have ebb:=(show bw (.mk .long ks)=.g 40 (bF "long"::ks.map bw)from dM _ _)
  rw[←ews]at ebb
  generalize(kd ks:List Sx)=xs at rb xok xlen ews ebb
  have a0:cK (V.str "long"::us0) 0=some (.str "long"):=iS _ _
  fail "R"
  intro p0 hp0
  have s0:=ah hp0 (.tup [.str "num",.str "name",.str "gap"])
  have q0:bf K (upd H p0 (.tup [.str "num",.str "name",.str "gap"])) p0 [.str "num",.str "name",.str "gap"]:=bf.of aa
  have sq0:=sq.same s0
  generalize upd H p0 (.tup [.str "num",.str "name",.str "gap"])=H0 at s0 q0 sq0⊢
  have fl0:([V.str "num",.str "name",.str "gap"]:List V).all dI=true:=by decide +kernel
  have in0:nh (.str "long") [.str "num",.str "name",.str "gap"]=false:=by decide +kernel
  have rb0:=rb.same s0
  have cn:=gr (V.str "long"::us0) 1 (Nat.le_refl _) (by simp)
  have ec:fH (V.str "long"::us0) (some 1) none=us0:=fF _ _
  fail "R"
  intro l1 hl1
  have s1:=ah hl1 (.lst [.str "long"])
  have h1:upd H0 l1 (.lst [.str "long"]) l1=some (.lst [.str "long"]):=aa
  have sq1:=sq0.same s1
  have rb1:=rb0.same s1
  generalize upd H0 l1 (.lst [.str "long"])=H1 at s1 h1 sq1 rb1⊢
  have s01:=s0.trans s1
  fail "R"
  rw[ec]
  intro p9 hp9
  have s9:=ah hp9 (.tup us0)
  have q9:bf K (upd H1 p9 (.tup us0)) p9 us0:=bf.of aa
  have rb9:=rb1.same s9
  have h9:=s9 _ _ h1
  generalize upd H1 p9 (.tup us0)=H9 at s9 q9 rb9 h9⊢
  fail "R"
  refine bR (K:=K) (e:=resT) (φ:=fun x=>[T.s (au (iu x))]) (ps:=xs) (fun σ=>∃x,σ=[x]) q9 rb9 (by omega) (fun _=>Nat.le_refl _) ⟨_,rfl⟩ ?_ ?_
  ·rintro q hq x2 σ H4 N s4 ⟨y2,rfl⟩ rx kN
   cases q with
   |inl t =>
    obtain⟨o1,o2,o3,o4⟩:=kok t (xok _ hq t rfl)
    have rx1:Rp K H4 (enc t) x2:=rx
    obtain⟨es,ee⟩:=pH t
    have rx2:=rx1
    rw[ee]at rx2
    obtain⟨b4,w4,rfl,sq4,_⟩:=rx2.aR
    fail "R"
    refine .inl ⟨_,_,rfl,sq4,?_⟩
    fail "R"
    intro H5 s5
    exact kN _ _ _ ⟨⟨_,rfl⟩,s5,.one .s⟩
   |inr z =>
    obtain rfl:=(show Rp K H4 (.s z) x2 from rx).aG
    fail "R"
    refine .inr (.inl ⟨_,rfl,?_⟩)
    fail "R"
    refine kN _ _ _ ⟨⟨_,rfl⟩,aL.refl _,?_⟩
    show aX K H4 [T.s (au z.cps.toList)] _
    rw[az]
    exact .one .s
  intro l2 H2 us' s2 hl2 h2 r2
  rw[cH]at r2
  have e2:us'=(xs.map fun x=>au (iu x)).map V.str:=by
   have r4:aX K H2 ((xs.map fun x=>au (iu x)).map T.s) us':=by rw[List.map_map];exact r2
   exact L2.aX.bO r4
  subst e2
  have h2l:=s2 _ _ h9
  have lc:([.str "long"]:List V).length+((xs.map fun x=>au (iu x)).map V.str).length<=sizeLine:=cP (by rw[List.length_map,List.length_map];show 1+_<=_;omega)
  fail "R"
  intro l3 hl3
  refine tail _ l3 _ (bF "long"::xs.map rL) (((s01.trans s9).trans s2).trans (Zs hl3)) ?_ ebb
  rw[aa]
  simp only[List.map_cons,jX,List.cons_append,List.nil_append,fY]
 |ife =>
  obtain⟨a,us,rfl,sq,rs⟩:=(show Rp K H (.t (.s "if"::ks.map enc)) v from r).aR
  obtain⟨v0,us0,rfl,g0,rb'⟩:=L2.aX.inv rs
  obtain rfl:=g0.aG
  have rb:aX K H ((kd ks:List Sx).map resT) us0:=by(show aX K H ((kd ks).map resT) us0;unfold kd;rw[List.map_map];exact rb')
  have xok:∀z∈(kd ks:List Sx),∀t,z=.inl t->t∈ks:=fun z hz t e=>by(subst e;obtain⟨q,hq,e⟩:=List.mem_map.mp hz;injection e with e;exact e▸hq)
  have xlen:(kd ks:List Sx).length<=10:=by unfold kd;rw[List.length_map];omega
  have ews:(kd ks:List Sx).map rL=ks.map bw:=kR ks
  have ebb:=(show bw (.mk .ife ks)=.g 40 (bF "if"::ks.map bw)from dM _ _)
  rw[←ews]at ebb
  generalize(kd ks:List Sx)=xs at rb xok xlen ews ebb
  have a0:cK (V.str "if"::us0) 0=some (.str "if"):=iS _ _
  fail "R"
  intro p0 hp0
  have s0:=ah hp0 (.tup [.str "num",.str "name",.str "gap"])
  have q0:bf K (upd H p0 (.tup [.str "num",.str "name",.str "gap"])) p0 [.str "num",.str "name",.str "gap"]:=bf.of aa
  have sq0:=sq.same s0
  generalize upd H p0 (.tup [.str "num",.str "name",.str "gap"])=H0 at s0 q0 sq0⊢
  have fl0:([V.str "num",.str "name",.str "gap"]:List V).all dI=true:=by decide +kernel
  have in0:nh (.str "if") [.str "num",.str "name",.str "gap"]=false:=by decide +kernel
  have rb0:=rb.same s0
  have cn:=gr (V.str "if"::us0) 1 (Nat.le_refl _) (by simp)
  have ec:fH (V.str "if"::us0) (some 1) none=us0:=fF _ _
  fail "R"
  intro l1 hl1
  have s1:=ah hl1 (.lst [.str "if"])
  have h1:upd H0 l1 (.lst [.str "if"]) l1=some (.lst [.str "if"]):=aa
  have sq1:=sq0.same s1
  have rb1:=rb0.same s1
  generalize upd H0 l1 (.lst [.str "if"])=H1 at s1 h1 sq1 rb1⊢
  have s01:=s0.trans s1
  fail "R"
  rw[ec]
  intro p9 hp9
  have s9:=ah hp9 (.tup us0)
  have q9:bf K (upd H1 p9 (.tup us0)) p9 us0:=bf.of aa
  have rb9:=rb1.same s9
  have h9:=s9 _ _ h1
  generalize upd H1 p9 (.tup us0)=H9 at s9 q9 rb9 h9⊢
  fail "R"
  refine bR (K:=K) (e:=resT) (φ:=fun x=>[T.s (au (iu x))]) (ps:=xs) (fun σ=>∃x,σ=[x]) q9 rb9 (by omega) (fun _=>Nat.le_refl _) ⟨_,rfl⟩ ?_ ?_
  ·rintro q hq x2 σ H4 N s4 ⟨y2,rfl⟩ rx kN
   cases q with
   |inl t =>
    obtain⟨o1,o2,o3,o4⟩:=kok t (xok _ hq t rfl)
    have rx1:Rp K H4 (enc t) x2:=rx
    obtain⟨es,ee⟩:=pH t
    have rx2:=rx1
    rw[ee]at rx2
    obtain⟨b4,w4,rfl,sq4,_⟩:=rx2.aR
    fail "R"
    refine .inl ⟨_,_,rfl,sq4,?_⟩
    fail "R"
    intro H5 s5
    exact kN _ _ _ ⟨⟨_,rfl⟩,s5,.one .s⟩
   |inr z =>
    obtain rfl:=(show Rp K H4 (.s z) x2 from rx).aG
    fail "R"
    refine .inr (.inl ⟨_,rfl,?_⟩)
    fail "R"
    refine kN _ _ _ ⟨⟨_,rfl⟩,aL.refl _,?_⟩
    show aX K H4 [T.s (au z.cps.toList)] _
    rw[az]
    exact .one .s
  intro l2 H2 us' s2 hl2 h2 r2
  rw[cH]at r2
  have e2:us'=(xs.map fun x=>au (iu x)).map V.str:=by
   have r4:aX K H2 ((xs.map fun x=>au (iu x)).map T.s) us':=by rw[List.map_map];exact r2
   exact L2.aX.bO r4
  subst e2
  have h2l:=s2 _ _ h9
  have lc:([.str "if"]:List V).length+((xs.map fun x=>au (iu x)).map V.str).length<=sizeLine:=cP (by rw[List.length_map,List.length_map];show 1+_<=_;omega)
  fail "R"
  intro l3 hl3
  refine tail _ l3 _ (bF "if"::xs.map rL) (((s01.trans s9).trans s2).trans (Zs hl3)) ?_ ebb
  rw[aa]
  simp only[List.map_cons,jX,List.cons_append,List.nil_append,fY]
 |lt x =>
  obtain⟨a,us,rfl,sq,rs⟩:=(show Rp K H (.t (.s "let"::.s x::ks.map enc)) v from r).aR
  obtain⟨v0,us0,rfl,g0,rb'⟩:=L2.aX.inv rs
  obtain rfl:=g0.aG
  have rb:aX K H ((.inr x::kd ks:List Sx).map resT) us0:=by(show aX K H (T.s x::(kd ks).map resT) us0;unfold kd;rw[List.map_map];exact rb')
  have xok:∀z∈(.inr x::kd ks:List Sx),∀t,z=.inl t->t∈ks:=fun z hz t e=>by(subst e;rcases List.mem_cons.mp hz with e|hz;cases e;obtain⟨q,hq,e⟩:=List.mem_map.mp hz;injection e with e;exact e▸hq)
  have xlen:(.inr x::kd ks:List Sx).length<=10:=by unfold kd;rw[List.length_cons,List.length_map];omega
  have ews:(.inr x::kd ks:List Sx).map rL=bF x::ks.map bw:=by(rw[List.map_cons,kR];rfl)
  have ebb:=(show bw (.mk (.lt x) ks)=.g 40 (bF "let"::bF x::ks.map bw)from dM _ _)
  rw[←ews]at ebb
  generalize(.inr x::kd ks:List Sx)=xs at rb xok xlen ews ebb
  have a0:cK (V.str "let"::us0) 0=some (.str "let"):=iS _ _
  fail "R"
  intro p0 hp0
  have s0:=ah hp0 (.tup [.str "num",.str "name",.str "gap"])
  have q0:bf K (upd H p0 (.tup [.str "num",.str "name",.str "gap"])) p0 [.str "num",.str "name",.str "gap"]:=bf.of aa
  have sq0:=sq.same s0
  generalize upd H p0 (.tup [.str "num",.str "name",.str "gap"])=H0 at s0 q0 sq0⊢
  have fl0:([V.str "num",.str "name",.str "gap"]:List V).all dI=true:=by decide +kernel
  have in0:nh (.str "let") [.str "num",.str "name",.str "gap"]=false:=by decide +kernel
  have rb0:=rb.same s0
  have cn:=gr (V.str "let"::us0) 1 (Nat.le_refl _) (by simp)
  have ec:fH (V.str "let"::us0) (some 1) none=us0:=fF _ _
  fail "R"
  intro l1 hl1
  have s1:=ah hl1 (.lst [.str "let"])
  have h1:upd H0 l1 (.lst [.str "let"]) l1=some (.lst [.str "let"]):=aa
  have sq1:=sq0.same s1
  have rb1:=rb0.same s1
  generalize upd H0 l1 (.lst [.str "let"])=H1 at s1 h1 sq1 rb1⊢
  have s01:=s0.trans s1
  fail "R"
  rw[ec]
  intro p9 hp9
  have s9:=ah hp9 (.tup us0)
  have q9:bf K (upd H1 p9 (.tup us0)) p9 us0:=bf.of aa
  have rb9:=rb1.same s9
  have h9:=s9 _ _ h1
  generalize upd H1 p9 (.tup us0)=H9 at s9 q9 rb9 h9⊢
  fail "R"
  refine bR (K:=K) (e:=resT) (φ:=fun x=>[T.s (au (iu x))]) (ps:=xs) (fun σ=>∃x,σ=[x]) q9 rb9 (by omega) (fun _=>Nat.le_refl _) ⟨_,rfl⟩ ?_ ?_
  ·rintro q hq x2 σ H4 N s4 ⟨y2,rfl⟩ rx kN
   cases q with
   |inl t =>
    obtain⟨o1,o2,o3,o4⟩:=kok t (xok _ hq t rfl)
    have rx1:Rp K H4 (enc t) x2:=rx
    obtain⟨es,ee⟩:=pH t
    have rx2:=rx1
    rw[ee]at rx2
    obtain⟨b4,w4,rfl,sq4,_⟩:=rx2.aR
    fail "R"
    refine .inl ⟨_,_,rfl,sq4,?_⟩
    fail "R"
    intro H5 s5
    exact kN _ _ _ ⟨⟨_,rfl⟩,s5,.one .s⟩
   |inr z =>
    obtain rfl:=(show Rp K H4 (.s z) x2 from rx).aG
    fail "R"
    refine .inr (.inl ⟨_,rfl,?_⟩)
    fail "R"
    refine kN _ _ _ ⟨⟨_,rfl⟩,aL.refl _,?_⟩
    show aX K H4 [T.s (au z.cps.toList)] _
    rw[az]
    exact .one .s
  intro l2 H2 us' s2 hl2 h2 r2
  rw[cH]at r2
  have e2:us'=(xs.map fun x=>au (iu x)).map V.str:=by
   have r4:aX K H2 ((xs.map fun x=>au (iu x)).map T.s) us':=by rw[List.map_map];exact r2
   exact L2.aX.bO r4
  subst e2
  have h2l:=s2 _ _ h9
  have lc:([.str "let"]:List V).length+((xs.map fun x=>au (iu x)).map V.str).length<=sizeLine:=cP (by rw[List.length_map,List.length_map];show 1+_<=_;omega)
  fail "R"
  intro l3 hl3
  refine tail _ l3 _ (bF "let"::xs.map rL) (((s01.trans s9).trans s2).trans (Zs hl3)) ?_ ebb
  rw[aa]
  simp only[List.map_cons,jX,List.cons_append,List.nil_append,fY]
 |fold x y =>
  have arl:ks.length=3:=eq_of_beq (show(ks.length == 3)=true from ar)
  obtain⟨k1,k2,k3,rfl⟩:=GI arl
  obtain⟨a,us,rfl,sq,rs⟩:=(show Rp K H (.t ([.s "fold",enc k1,.s x,.s y,enc k2,enc k3])) v from r).aR
  obtain⟨v0,us0,rfl,g0,rb'⟩:=L2.aX.inv rs
  obtain rfl:=g0.aG
  have rb:aX K H (([.inl k1,.inr x,.inr y,.inl k2,.inl k3]:List Sx).map resT) us0:=rb'
  have xok:∀z∈([.inl k1,.inr x,.inr y,.inl k2,.inl k3]:List Sx),∀t,z=.inl t->t∈[k1,k2,k3]:=fun z hz t e=>by(subst e;simp only[List.mem_cons,List.not_mem_nil,or_false,Sum.inl.injEq,reduceCtorEq,false_or]at hz⊢;exact hz)
  have xlen:([.inl k1,.inr x,.inr y,.inl k2,.inl k3]:List Sx).length<=10:=Nat.le_of_ble_eq_true rfl
  have ews:([.inl k1,.inr x,.inr y,.inl k2,.inl k3]:List Sx).map rL=[bw k1,bF x,bF y,bw k2,bw k3]:=rfl
  have ebb:=(show bw (.mk (.fold x y) [k1,k2,k3])=.g 40 (bF "fold"::[bw k1,bF x,bF y,bw k2,bw k3])from dM _ _)
  rw[←ews]at ebb
  generalize([.inl k1,.inr x,.inr y,.inl k2,.inl k3]:List Sx)=xs at rb xok xlen ews ebb
  have a0:cK (V.str "fold"::us0) 0=some (.str "fold"):=iS _ _
  fail "R"
  intro p0 hp0
  have s0:=ah hp0 (.tup [.str "num",.str "name",.str "gap"])
  have q0:bf K (upd H p0 (.tup [.str "num",.str "name",.str "gap"])) p0 [.str "num",.str "name",.str "gap"]:=bf.of aa
  have sq0:=sq.same s0
  generalize upd H p0 (.tup [.str "num",.str "name",.str "gap"])=H0 at s0 q0 sq0⊢
  have fl0:([V.str "num",.str "name",.str "gap"]:List V).all dI=true:=by decide +kernel
  have in0:nh (.str "fold") [.str "num",.str "name",.str "gap"]=false:=by decide +kernel
  have rb0:=rb.same s0
  have cn:=gr (V.str "fold"::us0) 1 (Nat.le_refl _) (by simp)
  have ec:fH (V.str "fold"::us0) (some 1) none=us0:=fF _ _
  fail "R"
  intro l1 hl1
  have s1:=ah hl1 (.lst [.str "fold"])
  have h1:upd H0 l1 (.lst [.str "fold"]) l1=some (.lst [.str "fold"]):=aa
  have sq1:=sq0.same s1
  have rb1:=rb0.same s1
  generalize upd H0 l1 (.lst [.str "fold"])=H1 at s1 h1 sq1 rb1⊢
  have s01:=s0.trans s1
  fail "R"
  rw[ec]
  intro p9 hp9
  have s9:=ah hp9 (.tup us0)
  have q9:bf K (upd H1 p9 (.tup us0)) p9 us0:=bf.of aa
  have rb9:=rb1.same s9
  have h9:=s9 _ _ h1
  generalize upd H1 p9 (.tup us0)=H9 at s9 q9 rb9 h9⊢
  fail "R"
  refine bR (K:=K) (e:=resT) (φ:=fun x=>[T.s (au (iu x))]) (ps:=xs) (fun σ=>∃x,σ=[x]) q9 rb9 (by omega) (fun _=>Nat.le_refl _) ⟨_,rfl⟩ ?_ ?_
  ·rintro q hq x2 σ H4 N s4 ⟨y2,rfl⟩ rx kN
   cases q with
   |inl t =>
    obtain⟨o1,o2,o3,o4⟩:=kok t (xok _ hq t rfl)
    have rx1:Rp K H4 (enc t) x2:=rx
    obtain⟨es,ee⟩:=pH t
    have rx2:=rx1
    rw[ee]at rx2
    obtain⟨b4,w4,rfl,sq4,_⟩:=rx2.aR
    fail "R"
    refine .inl ⟨_,_,rfl,sq4,?_⟩
    fail "R"
    intro H5 s5
    exact kN _ _ _ ⟨⟨_,rfl⟩,s5,.one .s⟩
   |inr z =>
    obtain rfl:=(show Rp K H4 (.s z) x2 from rx).aG
    fail "R"
    refine .inr (.inl ⟨_,rfl,?_⟩)
    fail "R"
    refine kN _ _ _ ⟨⟨_,rfl⟩,aL.refl _,?_⟩
    show aX K H4 [T.s (au z.cps.toList)] _
    rw[az]
    exact .one .s
  intro l2 H2 us' s2 hl2 h2 r2
  rw[cH]at r2
  have e2:us'=(xs.map fun x=>au (iu x)).map V.str:=by
   have r4:aX K H2 ((xs.map fun x=>au (iu x)).map T.s) us':=by rw[List.map_map];exact r2
   exact L2.aX.bO r4
  subst e2
  have h2l:=s2 _ _ h9
  have lc:([.str "fold"]:List V).length+((xs.map fun x=>au (iu x)).map V.str).length<=sizeLine:=cP (by rw[List.length_map,List.length_map];show 1+_<=_;omega)
  fail "R"
  intro l3 hl3
  refine tail _ l3 _ (bF "fold"::xs.map rL) (((s01.trans s9).trans s2).trans (Zs hl3)) ?_ ebb
  rw[aa]
  simp only[List.map_cons,jX,List.cons_append,List.nil_append,fY]
 |mat arms =>
  have arl:ks.length=arms.length+1:=eq_of_beq (show(ks.length == arms.length+1)=true from ar)
  cases ks with
  |nil=>cases arl
  |cons k0 kr =>
  obtain⟨a,v1,v2,v3,rfl,sq,g1,g2,g3⟩:=(show Rp K H (.t [.s "match",enc k0,.t (List.zipWith jd arms (kr.map enc))]) v from r).t3
  obtain rfl:=g1.aG
  obtain⟨b,us,rfl,sqb,rb⟩:=g3.aR
  rw[←lG]at rb
  have lz:(arms.zip kr).length<=5:=by rw[List.length_zip];rw[List.length_cons]at wl;omega
  have a0:cK [V.str "match",v2,.ref b] 0=some (.str "match"):=iS _ _
  have a1:cK [V.str "match",v2,.ref b] 1=some v2:=bh (j:=1) rfl
  have a2:cK [V.str "match",v2,.ref b] 2=some (.ref b):=bh (j:=2) rfl
  fail "R"
  intro p0 hp0
  have s0:=ah hp0 (.tup [.str "num",.str "name",.str "gap"])
  have q0:bf K (upd H p0 (.tup [.str "num",.str "name",.str "gap"])) p0 [.str "num",.str "name",.str "gap"]:=bf.of aa
  have sq0:=sq.same s0
  generalize upd H p0 (.tup [.str "num",.str "name",.str "gap"])=H0 at s0 q0 sq0⊢
  have fl0:([V.str "num",.str "name",.str "gap"]:List V).all dI=true:=by decide +kernel
  have in0:nh (.str "match") [.str "num",.str "name",.str "gap"]=false:=by decide +kernel
  have rb0:=rb.same s0
  have sqb0:=sqb.same s0
  have g20:=g2.same s0
  obtain⟨o1,o2,o3,o4⟩:=kok k0 (.head _)
  fail "R"
  intro H1 s1
  have sq1:=sq0.same s1
  have sqb1:=sqb0.same s1
  have rb1:=rb0.same s1
  fail "R"
  intro l1 hl1
  have s2:=ah hl1 (.lst [.str "match",.str (j5 k0)])
  have h2:upd H1 l1 (.lst [.str "match",.str (j5 k0)]) l1=some (.lst [.str "match",.str (j5 k0)]):=aa
  have sq2:=sq1.same s2
  have sqb2:=sqb1.same s2
  have rb2:=rb1.same s2
  generalize upd H1 l1 (.lst [.str "match",.str (j5 k0)])=H2 at s2 h2 sq2 sqb2 rb2⊢
  fail "R"
  refine bR (K:=K) (e:=fun z=>jd z.1 (enc z.2)) (φ:=fun z=>[T.s (au (cW z.1 (bw z.2)).txt)]) (ps:=arms.zip kr) (fun σ=>∃x y z,σ=[x,y,z]) sqb2 rb2 (by omega) (fun _=>Nat.le_refl _) ⟨_,_,_,rfl⟩ ?_ ?_
  ·rintro q hq x2 σ H4 N s4 ⟨y2,y3,y4,rfl⟩ rx kN
   have z1:q.1∈arms:=(List.of_mem_zip (a:=q.1) (b:=q.2) hq).1
   have z2:q.2∈kr:=(List.of_mem_zip (a:=q.1) (b:=q.2) hq).2
   obtain⟨n1,n2⟩:=(show ∀a∈arms,bx a.1/\∀x∈a.2,bx x from ho) q.1 z1
   have n3:q.1.2.length<=2:=wh q.1 z1
   obtain⟨p1,p2,p3,p4⟩:=kok q.2 (.tail _ z2)
   have tl:=uS p1 p2
   have al:=Ab (k:=bw q.2) n1 n2 n3
   obtain⟨xa,u1,u2,u3,rfl,sqx,g1,g2,g3⟩:=(show Rp K H4 (.t [.s q.1.1,.t (q.1.2.map .s),enc q.2]) x2 from rx).t3
   obtain rfl:=g1.aG
   obtain⟨na,ns,rfl,sqn,rn⟩:=g2.aR
   obtain rfl:=L2.aX.bO rn
   fail "R"
   intro p5 hp5
   have s5:=ah hp5 (.tup [.str q.1.1])
   have q5:bf K (upd H4 p5 (.tup [.str q.1.1])) p5 [.str q.1.1]:=bf.of aa
   have sqn5:=sqn.same s5
   have g5:=g3.same s5
   generalize upd H4 p5 (.tup [.str q.1.1])=H5 at s5 q5 sqn5 g5⊢
   have lc5:([.str q.1.1]:List V).length+(q.1.2.map V.str).length<=sizeLine:=cP (by rw[List.length_map];show 1+_<=_;omega)
   fail "R"
   intro c6 H6 s6 q6
   have g6:=g5.same s6
   fail "R"
   intro H7 s7
   have q7:=q6.same s7
   fail "R"
   intro p8 hp8
   have s8:=ah hp8 (.tup [.str (j5 q.2)])
   have q8:bf K (upd H7 p8 (.tup [.str (j5 q.2)])) p8 [.str (j5 q.2)]:=bf.of aa
   have q78:=q7.same s8
   generalize upd H7 p8 (.tup [.str (j5 q.2)])=H8 at s8 q8 q78⊢
   have lc8:([V.str q.1.1]++q.1.2.map V.str:List V).length+([.str (j5 q.2)]:List V).length<=sizeLine:=cP (by rw[List.length_append,List.length_map];show 1+_+1<=_;omega)
   fail "R"
   intro c9 H9 s9 q9
   have ey:([V.str q.1.1]++q.1.2.map V.str++[.str (j5 q.2)]:List V)=(q.1.1::(q.1.2++[j5 q.2])).map V.str:=by simp
   rw[ey]at q9
   have em:=D3 q.1 q.2
   have ew:=D4 q.1 q.2
   have el:(Bw.bC (pU q.1 q.2)).length+2=(cW q.1 (bw q.2)).txt.length:=by rw[ew];simp
   have st:=vf (pU q.1 q.2)
   have sl:=rD (pU q.1 q.2)
   have jb:=jV (pU q.1 q.2)
   have lz':((pU q.1 q.2).map fun b=>au b.txt).length=(pU q.1 q.2).length:=List.length_map _
   rw[em]at st jb lz'
   have hj:((q.1.1::(q.1.2++[j5 q.2])).map (·.length)).sum+(q.1.1::(q.1.2++[j5 q.2])).length*(" ":Str).length<=16777216:=by
    rw[show(" ":Str).length=1 by decide +kernel,lz']
    omega
   have l1':("(":Str).length+(Txt.join " " (q.1.1::(q.1.2++[j5 q.2]))).length<=sizeLine:=cP (by rw[jb,aI];show 1+_<=_;omega)
   have l2':(("(":Str)++Txt.join " " (q.1.1::(q.1.2++[j5 q.2]))).length+(")":Str).length<=sizeLine:=cP (by rw[jb,strLen_append,aI];show 1+_+1<=_;omega)
   fail "R"
   refine kN _ _ _ ⟨⟨_,_,_,rfl⟩,((((s5.trans s6).trans s7).trans s8).trans s9),?_⟩
   rw[jb]
   have e3:("(":Str)++au (Bw.bC (pU q.1 q.2))++(")":Str)=au (cW q.1 (bw q.2)).txt:=by
    rw[ew]
    show au [40]++au _++au [41]=_
    rw[bZ,bZ]
    rfl
   show aX K H9 [T.s (au (cW q.1 (bw q.2)).txt)] [.str (("(":Str)++au (Bw.bC (pU q.1 q.2))++(")":Str))]
   rw[e3]
   exact .one .s
  intro l3 H3 us' s3 hl3 h3 r3
  rw[cH]at r3
  have e2:us'=((arms.zip kr).map fun z=>au (cW z.1 (bw z.2)).txt).map V.str:=by
   have r4:aX K H3 (((arms.zip kr).map fun z=>au (cW z.1 (bw z.2)).txt).map T.s) us':=by rw[List.map_map];exact r3
   exact L2.aX.bO r4
  subst e2
  have h3l:=s3 _ _ h2
  have lc:([.str "match",.str (j5 k0)]:List V).length+(((arms.zip kr).map fun z=>au (cW z.1 (bw z.2)).txt).map V.str).length<=sizeLine:=cP (by rw[List.length_map,List.length_map];show 2+_<=_;omega)
  fail "R"
  intro l5 hl5
  refine tail _ l5 _ (bF "match"::bw k0::List.zipWith cW arms (kr.map bw)) ((((s0.trans s1).trans s2).trans s3).trans (Zs hl5)) ?_ (dM _ _)
  rw[aa]
  simp only[List.map_cons,xD,List.cons_append,List.nil_append,fY]
  rfl
end
end G09
namespace L2
open PySem PySem.Spec PyProof.Rows
section
variable {X:Cx}{e e2:Expr}{te te2:TE}{z z' z2:Str}{k k' k2:Nat}{p1 p2 p3 p4 p5 p6:Pos}
noncomputable def Mf(z z' z2:Str)(te te2:TE):TE:=fun σ H Q=>te σ H fun v H1=>yg v fun y=>z.length+y.length+z'.length<=10000/\te2 σ H1 fun v2 H2=>yg v2 fun y2=>y2.length+z2.length<=10000/\Q (.str (z++y++z'++y2++z2)) H2
theorem Ke(he:PE X e te)(he2:PE X e2 te2)(hz:z.length<=1000:=by decide):PE X (.JoinedStr [.Constant (.str z) k p1,.FormattedValue e (-1) none p2,.Constant (.str z') k' p3,.FormattedValue e2 (-1) none p4,.Constant (.str z2) k2 p5] p6) (Mf z z' z2 te te2):=by
 intro pins s σ H Q I h
 have hz1:(Str.empty++z).length<=sizeLine:=by rw[empty_app,sizeLine_eq];omega
 refine wpAny_JoinedStr (v₁:=.Constant (.str z) k p1) (v₂:=.FormattedValue e (-1) none p2) (rest:=[.Constant (.str z') k' p3,.FormattedValue e2 (-1) none p4,.Constant (.str z2) k2 p5]) ?_
 refine Calls.Constant_str ⟨_,_,rfl,hz1,?_⟩
 refine vP (R:=fun y H1=>z.length+y.length+z'.length<=10000/\te2 σ H1 fun v2 H2=>yg v2 fun y2=>y2.length+z2.length<=10000/\Q (.str (z++y++z'++y2++z2)) H2) he (I.tok _) h fun s' H' y t I' ⟨hl,q⟩ hy=>?_
 have e1:Str.empty++z++y=z++y:=by rw[empty_app]
 have hl2:(Str.empty++z++y).length<=sizeLine:=by rw[e1,strLen_append,sizeLine_eq];omega
 have hl3:(Str.empty++z++y++z').length<=sizeLine:=by rw[e1,strLen_append,strLen_append,sizeLine_eq];omega
 refine⟨_,_,rfl,hl2,Calls.Constant_str ⟨_,_,rfl,hl3,?_⟩⟩
 refine vP (R:=fun y2 H2=>y2.length+z2.length<=10000/\Q (.str (z++y++z'++y2++z2)) H2) he2 (I'.tok _) q fun s2 H2 y2 t2 I2 ⟨hl4,q2⟩ hy2=>?_
 have l1:(Str.empty++z++y++z').length<=10000:=by rw[e1,strLen_append,strLen_append];exact hl
 have hl5:(Str.empty++z++y++z'++y2).length<=sizeLine:=by rw[strLen_append,sizeLine_eq];omega
 have hl6:(Str.empty++z++y++z'++y2++z2).length<=sizeLine:=by rw[strLen_append,strLen_append,sizeLine_eq];omega
 exact⟨_,_,rfl,hl5,Calls.Constant_str ⟨_,_,rfl,hl6,hl6,.str (z++y++z'++y2++z2),H2,(I2.tok _),⟨_,by rw[e1]⟩,q2⟩⟩
end
theorem oi{X:Cx}(K:PySem.W.Frag)(hK:X.K=K):Cf X "str.join" (rJoin K):=by subst hK;exact iW
end L2
namespace G09
open PySem L2
noncomputable def Ar(K:PySem.W.Frag):Sp:=fun vs H Q _=>∃(k:Ki) (v:V),vs=[.str k.1,v]/\Rp K H (.t (k.2.map FO)) v/\xu k/\∀H',aL H H'->Q (.str (au (qc k))) H'
theorem rE(k:Kd):kS k.1 k.2=au (Ac k).txt:=by unfold Ac;rw[yj]
theorem yR(x:Str):au (bF x).txt=x:=by unfold bF;rw[Bw.txt,az]
theorem IJ(ws:List Bw):(Str.ofString "(")++au (Bw.bC ws)++(Str.ofString ")")=au (Bw.g 40 ws).txt:=by
 show au [40]++au _++au [41]=_
 rw[bZ,bZ,Bw.txt]
 rfl
theorem oj(bs:List Bw)(h:(Bw.bC bs).length<=10000):((bs.map fun b=>au b.txt).map (·.length)).sum+(bs.map fun b=>au b.txt).length*(Str.ofString " ").length<=16777216:=by
 have h1:=vf bs
 have h2:=rD bs
 rw[show(Str.ofString " ").length=1 from rfl,List.length_map]
 omega
theorem two_w{α:Type}(x y:Str)(f:α->Bw)(l:List α):[V.str x,V.str y]++(l.map fun t=>au (f t).txt).map V.str=((bF x::bF y::l.map f).map fun b=>au b.txt).map V.str:=by
 simp only[List.map_cons,yR,List.map_map]
 rfl
noncomputable def BF(t:Tg):List Bw:=bF t.1::t.2.map Ac
theorem qg(t:Tg):Txt.join " " (t.1::t.2.map fun k=>kS k.1 k.2)=au (Bw.bC (BF t)):=by
 rw[←jV]
 unfold BF
 rw[List.map_cons,List.map_map,yR]
 congr 2
 exact List.map_congr_left fun k _=>rE k
theorem As{t:Tg}(h:yL t):(Bw.bC (BF t)).length<=100:=by
 have:=Ad h
 unfold tu at this
 rw[Bw.txt,List.length_cons,List.length_append]at this
 unfold BF
 omega
theorem D5{t:Tg}(to:yL t):((t.1::t.2.map fun k=>kS k.1 k.2).map (·.length)).sum+(t.1::t.2.map fun k=>kS k.1 k.2).length*(Str.ofString " ").length<=16777216:=by
 have hs:=uY (m:=100) (l:=t.1::t.2.map fun k=>kS k.1 k.2) fun x hx=>by
  rcases List.mem_cons.mp hx with rfl|hx
  ·have:=to.1.2.1;omega
  ·obtain⟨k2,hk2,rfl⟩:=List.mem_map.mp hx
   rw[rE,aI]
   have:=nZ (to.2.2 k2 hk2).1
   omega
 have lk2:=to.2.1
 rw[show(Str.ofString " ").length=1 from rfl]
 simp only[List.length_cons,List.length_map]at hs⊢
 omega
section
variable {P:Program}{w:World}{K:PySem.W.Frag}{mg:Str->Option Value}{base:Heap}{gK gT:Addr}{kfd tfd:FuncData}
theorem kW:Nm ["name","tags","texts"] (ae fE):=by decide +kernel
theorem xE:Lm ["name","tags","texts"] (ae fE):=by decide +kernel
theorem pJ:aH ["name","tags","texts"] ["name","tags"] (ae fE):=⟨rfl,rfl,rfl,by decide +kernel,rfl,by decide +kernel,by decide +kernel⟩
theorem IK{f:Addr}{fd:FuncData}(F:eN K "kind_row" "kind_row" fE f fd)(KTX:bE P w K mg base "kind_text" 2 ["kind"] (rA K) gK kfd):bK P w K mg base d8 3 f fd ["name","tags"] (Ar K):=by
 refine F.ok pJ (fun vs H Q E h=>?_) (fun cdv A outer s H vs Q E hr h=>?_)
 ·obtain⟨_,_,rfl,_⟩:=h
  rfl
 obtain⟨k,v,rfl,r,ko,go⟩:=h
 refine⟨_,(Z4 (Ze (ae fE) ["name","tags","texts"] ["tag","kinds"] (fK (va kW 1)) (fun _ _ _ _=>(Zh (2) (Zq (Z2 (i:=0) (show(["tag","kinds"]:List Str).Nodup by decide +kernel)) (bW (Z2 (i:=1) (show(["tag","kinds"]:List Str).Nodup by decide +kernel)) cM)))) (fun _ _ _ _=>(@yO _ _ _ _ _ _ _ _ _ _ _ _ K rfl PySem.F.plainAttrs_str PySem.F.slot_str_join PySem.F.type_str_join (oi K rfl) ak (Z1 (Zd eR (@bq _ _ _ _ (Z9 (va (show Nm ["tag","kinds"] _ by show _=_;kernel_rfl) 0))) (@fO _ _ _ _ _ _ _ _ _ _ _ _ ["tag","kinds"] ["kind"] [] rfl rfl rfl (by kernel_rfl) (zO K rfl (va (show Nm ["tag","kinds"] _ by show _=_;kernel_rfl) 1)) (fun _ _ _ _=>(Z2 (i:=0) (show(["kind"]:List Str).Nodup by decide +kernel))) (fun _ _ _ _=>eU) (fun _ _ _ _=>(Z0 KTX (Z9 (va (show Nm ["kind"] _ by show _=_;kernel_rfl) 0)))) (by intro _;rfl))) aj) (by kernel_rfl) (by kernel_rfl) (by kernel_rfl) (by kernel_rfl) (by kernel_rfl))) (ga pJ.nd xE 2)) (Zc (Zf (@cz _ _ _ _ _ _ _ _ _ _ _ _ PySem.F.plainAttrs_str PySem.F.slot_str_join PySem.F.type_str_join (oi K rfl) ak (Z1 (Zd eR (@bq _ _ _ _ (Z1 ak (Z9 (va kW 0)))) (Za (ae fE) ["name","tags","texts"] ["text"] (fJ (va kW 2)) (fun _ _ _ _=>(Z2 (i:=0) (show(["text"]:List Str).Nodup by decide +kernel))) (fun _ _ _ _=>(Gy (va (show Nm ["text"] _ by show _=_;kernel_rfl) 0))))) aj) (by kernel_rfl) (by kernel_rfl) (by kernel_rfl) (by kernel_rfl) (by kernel_rfl))))),?_⟩
 try dsimp only[aU]
 try dsimp only[aU]
 obtain⟨nk,l1,l3,kt⟩:=id ko
 obtain⟨ta,tus,rfl,tsq,trs⟩:=r.aR
 fail "R"
 refine bR (K:=K) (e:=FO) (φ:=fun t=>[.s (au (Bw.bC (BF t)))]) (fun σ=>∃a b,σ=[a,b]) tsq trs (by omega) (fun _=>Nat.le_refl _) ⟨_,_,rfl⟩ ?_ ?_
 ·rintro t ht x _ H6 N s6 ⟨_,_,rfl⟩ rx kN
  obtain⟨xa,x1,x2,rfl,xsq,e1,e2⟩:=(show Rp K H6 (.t [.s t.1,.t (t.2.map Es)]) x from rx).t2
  obtain rfl:=e1.aG
  obtain⟨ka,kus,rfl,ksq,krs⟩:=e2.aR
  have to:=kt t ht
  fail "R"
  intro p7 hp7
  have s7:=ah hp7 (.lst [.str t.1])
  have h7:upd H6 p7 (.lst [.str t.1]) p7=some (.lst [.str t.1]):=aa
  generalize upd H6 p7 (.lst [.str t.1])=H7 at s7 h7⊢
  have lk2:=to.2.1
  have ksq7:=ksq.same s7
  fail "R"
  refine bR (K:=K) (e:=Es) (φ:=fun k=>[.s (kS k.1 k.2)]) (fun σ=>∃a,σ=[a]) ksq7 (krs.same s7) (by omega) (fun _=>Nat.le_refl _) ⟨_,rfl⟩ ?_ ?_
  ·rintro k2 hk2 x _ H8 N8 s8 ⟨_,rfl⟩ rx8 kN8
   obtain⟨⟨ck,dk⟩,_⟩:=to.2.2 k2 hk2
   have rx8:Rp K H8 (kT k2.1 k2.2) x:=rx8
   have dk2:k2.2<=20:=by omega
   fail "R"
   exact kN8 _ _ _ ⟨⟨_,rfl⟩,aL.refl _,.one .s⟩
  intro l9 H9 ws9 s9 hl9 h9 r9
  rw[cH,show(fun k:Kd=>T.s (kS k.1 k.2))=T.s ∘ (fun k:Kd=>kS k.1 k.2)from rfl,←List.map_map]at r9
  obtain rfl:=r9.bO
  have h97:=s9 _ _ h7
  have zc:([V.str t.1]:List V).length+((t.2.map fun k=>kS k.1 k.2).map V.str).length<=sizeLine:=small (by rw[List.length_map,List.length_map];show 1+_<=_;omega)
  fail "R"
  intro p10 hp10
  have e10:[V.str t.1]++(t.2.map fun k=>kS k.1 k.2).map V.str=(t.1::t.2.map fun k=>kS k.1 k.2).map V.str:=rfl
  rw[e10]
  have s10:=ah hp10 (.lst ((t.1::t.2.map fun k=>kS k.1 k.2).map V.str))
  have h10:upd H9 p10 (.lst ((t.1::t.2.map fun k=>kS k.1 k.2).map V.str)) p10=some (.lst ((t.1::t.2.map fun k=>kS k.1 k.2).map V.str)):=aa
  generalize upd H9 p10 (.lst ((t.1::t.2.map fun k=>kS k.1 k.2).map V.str))=H10 at s10 h10⊢
  have zj:=D5 to
  fail "R"
  rw[qg]
  exact kN _ _ _ ⟨⟨_,_,rfl⟩,(s7.trans s9).trans s10,.one .s⟩
 intro l2 H2 ws2 s2 hl2 h2 r2
 rw[cH,show(fun t:Tg=>T.s (au (Bw.bC (BF t))))=T.s ∘ (fun t:Tg=>au (Bw.bC (BF t)))from rfl,←List.map_map]at r2
 obtain rfl:=r2.bO
 fail "R"
 intro p3 hp3
 have s3:=ah hp3 (.lst [.str "kind",.str k.1])
 have h3:upd H2 p3 (.lst [.str "kind",.str k.1]) p3=some (.lst [.str "kind",.str k.1]):=aa
 generalize upd H2 p3 (.lst [.str "kind",.str k.1])=H3 at s3 h3⊢
 have h23:=s3 _ _ h2
 fail "R"
 refine jy (K:=K) (e:=fun t:Tg=>T.s (au (Bw.bC (BF t)))) (φ:=fun t=>[.s (au (tu t).txt)]) (ps:=k.2) (fun σ=>∃a,σ=[a]) h23 (by rw[show(fun t:Tg=>T.s (au (Bw.bC (BF t))))=T.s ∘ (fun t:Tg=>au (Bw.bC (BF t)))from rfl,←List.map_map];exact r2.same s3) (by omega) (fun _=>Nat.le_refl _) ⟨_,rfl⟩ ?_ ?_
 ·rintro t ht x _ H6 N s6 ⟨_,rfl⟩ rx kN
  obtain rfl:=(show Rp K H6 (.s (au (Bw.bC (BF t)))) x from rx).aG
  have wl:=As (kt t ht)
  fail "R"
  refine .inl ⟨_,rfl,by rw[aI];omega,by rw[aI];show 1+_+1<=_;omega,?_⟩
  rw[show(Str.ofString "(")++au (Bw.bC (BF t))++(Str.ofString ")")=au (tu t).txt from IJ _]
  exact kN _ _ _ ⟨⟨_,rfl⟩,aL.refl _,.one .s⟩
 intro l4 H4 ws4 s4 hl4 h4 r4
 rw[cH,show(fun t:Tg=>T.s (au (tu t).txt))=T.s ∘ (fun t:Tg=>au (tu t).txt)from rfl,←List.map_map]at r4
 obtain rfl:=r4.bO
 have h34:=s4 _ _ h3
 have zc:([V.str "kind",V.str k.1]:List V).length+((k.2.map fun t=>au (tu t).txt).map V.str).length<=sizeLine:=small (by rw[List.length_map,List.length_map];show 2+_<=_;omega)
 fail "R"
 intro p5 hp5
 have e5:[V.str "kind",V.str k.1]++(k.2.map fun t=>au (tu t).txt).map V.str=((rN k).map fun b=>au b.txt).map V.str:=two_w _ _ _ _
 rw[e5]
 have s5:=ah hp5 (.lst (((rN k).map fun b=>au b.txt).map V.str))
 have h5:upd H4 p5 (.lst (((rN k).map fun b=>au b.txt).map V.str)) p5=some (.lst (((rN k).map fun b=>au b.txt).map V.str)):=aa
 generalize upd H4 p5 (.lst (((rN k).map fun b=>au b.txt).map V.str))=H5 at s5 h5⊢
 have zj:=oj (rN k) (by have:=qe ko;unfold qc at this;omega)
 fail "R"
 rw[jV]
 exact go _ (((s2.trans s3).trans s4).trans s5)
end
noncomputable def GY(K:PySem.W.Frag):Sp:=fun vs H Q _=>∃(d:Df) (v u:V),vs=[.str d.1,v,u]/\Rp K H (.t (d.2.1.map Eu)) v/\Rp K H (enc d.2.2) u/\pR d/\∀H',aL H H'->Q (.str (au (qd d))) H'
noncomputable def GZ(K:PySem.W.Frag):Sp:=fun vs H Q _=>∃(kis:List Ki) (ds:List Df) (v:V),vs=[v]/\Rp K H (FW kis ds) v/\mZ kis ds/\∀H',aL H H'->Q (.str (mh kis ds)) H'
theorem BG(a b c:Str):a++b++c=a++(b++c):=by
 cases a;cases b;cases c
 show(⟨_++_++_⟩:Str)=⟨_++(_++_)⟩
 rw[Array.append_assoc]
theorem xF:∀(a b:List Bw),Bw.bP (a++b)=Bw.bP a++Bw.bP b
 | [],b=>rfl
 |x::r,b=>by
  show Bw.bP (x::(r++b))=_
  rw[Bw.bP,Bw.bP,xF r b]
  simp
noncomputable def Au(d:Df):List Bw:=rY d++[bF "=",bw d.2.2]
theorem qh(d:Df):Bw.bC (Au d)=qd d:=by
 unfold Au qd rY
 rw[List.cons_append,List.cons_append,Bw.bC,Bw.bC,←List.cons_append,xF,List.append_assoc,Bw.bP,Bw.bP,Bw.bP]
 have e:(bF "=").txt=[61]:=by unfold bF;rw[Bw.txt];decide +kernel
 rw[e]
 simp[Bw.bP,hU]
theorem Av{d:Df}(h:pR d):(qd d).length<=4000:=by
 have h1:=uU h
 have h2:=h.2.2.2.2.2
 unfold qd
 rw[List.length_append,List.length_append]
 show _+(3+_)<=_
 omega
theorem G0{p:Pa}:(Str.ofString "(")++p.1++(Str.ofString " ")++kS p.2.1 p.2.2++(Str.ofString ")")=au (oA p).txt:=by
 unfold oA
 rw[←IJ,rE]
 have e:au (Bw.bC [bF p.1,Ac p.2])=p.1++(Str.ofString " ")++au (Ac p.2).txt:=by
  rw[Bw.bC,Bw.bP,Bw.bP]
  conv=>rhs;rw[←yR p.1]
  show _=au _++au [32]++au _
  rw[bZ,bZ]
  simp
 rw[e]
 simp only[BG]
theorem G1(d:Df):([V.str "def",V.str d.1]++(d.2.1.map fun t=>au (oA t).txt).map V.str)++[V.str "=",V.str (au (bw d.2.2).txt)]=((Au d).map fun b=>au b.txt).map V.str:=by
 rw[two_w]
 unfold Au rY
 rw[List.map_append,List.map_append]
 congr 1
section
variable {P:Program}{w:World}{K:PySem.W.Frag}{mg:Str->Option Value}{base:Heap}{gK gT:Addr}{kfd tfd:FuncData}
theorem jY:Nm ["name","params","term","texts"] (ae iC):=by decide +kernel
theorem yS:Lm ["name","params","term","texts"] (ae iC):=by decide +kernel
theorem rF:aH ["name","params","term","texts"] ["name","params","term"] (ae iC):=⟨rfl,rfl,rfl,by decide +kernel,rfl,by decide +kernel,by decide +kernel⟩
theorem IL{f:Addr}{fd:FuncData}(F:eN K "def_row" "def_row" iC f fd)(KTX:bE P w K mg base "kind_text" 2 ["kind"] (rA K) gK kfd)(TTX:bE P w K mg base "term_text" 5 ["term"] (GW K) gT tfd):bK P w K mg base d8 6 f fd ["name","params","term"] (GY K):=by
 refine F.ok rF (fun vs H Q E h=>?_) (fun cdv A outer s H vs Q E hr h=>?_)
 ·obtain⟨_,_,_,rfl,_⟩:=h
  rfl
 obtain⟨d,v,u,rfl,r,ru,ko,go⟩:=h
 refine⟨_,(Z4 (Ze (ae iC) ["name","params","term","texts"] ["param","kind"] (fK (va jY 1)) (fun _ _ _ _=>(Zh (2) (Zq (Z2 (i:=0) (show(["param","kind"]:List Str).Nodup by decide +kernel)) (bW (Z2 (i:=1) (show(["param","kind"]:List Str).Nodup by decide +kernel)) cM)))) (fun _ _ _ _=>(Ke (va (show Nm ["param","kind"] _ by show _=_;kernel_rfl) 0) (Z0 KTX (Z9 (va (show Nm ["param","kind"] _ by show _=_;kernel_rfl) 1))))) (ga rF.nd yS 3)) (Zc (Zf (@cz _ _ _ _ _ _ _ _ _ _ _ _ PySem.F.plainAttrs_str PySem.F.slot_str_join PySem.F.type_str_join iW ak (Z1 (Zd eR (Zd eR (@bq _ _ _ _ (Z1 ak (Z9 (va jY 0)))) (va jY 3)) (@bq _ _ _ _ (Z1 ak (Z1 (Z0 TTX (Z9 (va jY 2))) aj)))) aj) (by kernel_rfl) (by kernel_rfl) (by kernel_rfl) (by kernel_rfl) (by kernel_rfl))))),?_⟩
 try dsimp only[aU]
 try dsimp only[aU]
 obtain⟨nk,l3,kt,tok,twd,tln⟩:=id ko
 obtain⟨ta,tus,rfl,tsq,trs⟩:=r.aR
 fail "R"
 refine bR (K:=K) (e:=Eu) (φ:=fun t=>[.s (au (oA t).txt)]) (fun σ=>∃a b,σ=[a,b]) tsq trs (by omega) (fun _=>Nat.le_refl _) ⟨_,_,rfl⟩ ?_ ?_
 ·rintro t ht x _ H6 N s6 ⟨_,_,rfl⟩ rx kN
  obtain⟨xa,x1,x2,rfl,xsq,e1,e2⟩:=(show Rp K H6 (.t [.s t.1,kT t.2.1 t.2.2]) x from rx).t2
  obtain rfl:=e1.aG
  obtain⟨nt,ck,dk⟩:=kt t ht
  have dk2:t.2.2<=20:=by omega
  have ln:=nt.2.1
  have lk:=nZ (kt t ht).2
  fail "R"
  refine .inl ⟨_,rfl,by omega,by show 1+_+1<=_;omega,?_⟩
  fail "R"
  refine .inl ⟨_,rfl,by rw[rE,aI];omega,by rw[rE,aI];show _+1<=_;omega,?_⟩
  rw[G0]
  exact kN _ _ _ ⟨⟨_,_,rfl⟩,aL.refl _,.one .s⟩
 intro l4 H4 ws4 s4 hl4 h4 r4
 rw[cH,show(fun t:Pa=>T.s (au (oA t).txt))=T.s ∘ (fun t:Pa=>au (oA t).txt)from rfl,←List.map_map]at r4
 obtain rfl:=r4.bO
 fail "R"
 intro p5 hp5
 have s5:=ah hp5 (.lst [.str "def",.str d.1])
 have h5:upd H4 p5 (.lst [.str "def",.str d.1]) p5=some (.lst [.str "def",.str d.1]):=aa
 generalize upd H4 p5 (.lst [.str "def",.str d.1])=H5 at s5 h5⊢
 have h45:=s5 _ _ h4
 have zc:([V.str "def",V.str d.1]:List V).length+((d.2.1.map fun t=>au (oA t).txt).map V.str).length<=sizeLine:=small (by rw[List.length_map,List.length_map];show 2+_<=_;omega)
 fail "R"
 intro p6 hp6
 have s6:=ah hp6 (.lst ([V.str "def",V.str d.1]++(d.2.1.map fun t=>au (oA t).txt).map V.str))
 have h6:upd H5 p6 (.lst ([V.str "def",V.str d.1]++(d.2.1.map fun t=>au (oA t).txt).map V.str)) p6=some (.lst ([V.str "def",V.str d.1]++(d.2.1.map fun t=>au (oA t).txt).map V.str)):=aa
 generalize upd H5 p6 (.lst ([V.str "def",V.str d.1]++(d.2.1.map fun t=>au (oA t).txt).map V.str))=H6 at s6 h6⊢
 have ru6:=ru.same ((s4.trans s5).trans s6)
 fail "R"
 intro H7 s7
 have h67:=s7 _ _ h6
 fail "R"
 intro p8 hp8
 have s8:=ah hp8 (.lst [.str "=",.str (au (bw d.2.2).txt)])
 have h8:upd H7 p8 (.lst [.str "=",.str (au (bw d.2.2).txt)]) p8=some (.lst [.str "=",.str (au (bw d.2.2).txt)]):=aa
 generalize upd H7 p8 (.lst [.str "=",.str (au (bw d.2.2).txt)])=H8 at s8 h8⊢
 have h68:=s8 _ _ h67
 have zd:([V.str "def",V.str d.1]++(d.2.1.map fun t=>au (oA t).txt).map V.str).length+([V.str "=",V.str (au (bw d.2.2).txt)]:List V).length<=sizeLine:=small (by rw[List.length_append,List.length_map,List.length_map];show 2+_+2<=_;omega)
 fail "R"
 intro p9 hp9
 rw[G1]
 have s9:=ah hp9 (.lst (((Au d).map fun b=>au b.txt).map V.str))
 have h9:upd H8 p9 (.lst (((Au d).map fun b=>au b.txt).map V.str)) p9=some (.lst (((Au d).map fun b=>au b.txt).map V.str)):=aa
 generalize upd H8 p9 (.lst (((Au d).map fun b=>au b.txt).map V.str))=H9 at s9 h9⊢
 have zj:=oj (Au d) (by rw[qh];have:=Av ko;omega)
 fail "R"
 rw[jV,qh]
 exact go _ (((((s4.trans s5).trans s6).trans s7).trans s8).trans s9)
end
theorem xG{kis:List Ki}{ds:List Df}(o:mZ kis ds):((dh kis ds).map (·.length)).sum+(dh kis ds).length*(Str.ofString "\n").length<=16777216:=by
 have h2:=uY (m:=4000) fun x hx=>(o.row x hx).1
 have h3:=o.rl.1
 rw[show(Str.ofString "\n").length=1 from rfl]
 omega
theorem Aw(kis:List Ki)(ds:List Df):(kis.map fun k=>au (qc k)).map V.str++(ds.map fun d=>au (qd d)).map V.str=(dh kis ds).map V.str:=by
 unfold dh
 rw[List.map_append]
section
variable {P:Program}{w:World}{K:PySem.W.Frag}{mg:Str->Option Value}{base:Heap}{gK gT:Addr}{kfd tfd:FuncData}
theorem dX:Nm ["program","kinds","defs","rows"] (ae cU):=by decide +kernel
theorem gY:Lm ["program","kinds","defs","rows"] (ae cU):=by decide +kernel
theorem fB:aH ["program","kinds","defs","rows"] ["program"] (ae cU):=⟨rfl,rfl,rfl,by decide +kernel,rfl,by decide +kernel,by decide +kernel⟩
theorem IP{f:Addr}{fd:FuncData}(F:eN K "program_text" "program_text" cU f fd)(KRW:bE P w K mg base "kind_row" 3 ["name","tags"] (Ar K) gK kfd)(DRW:bE P w K mg base "def_row" 6 ["name","params","term"] (GY K) gT tfd):bK P w K mg base d8 7 f fd ["program"] (GZ K):=by
 refine F.ok fB (fun vs H Q E h=>?_) (fun cdv A outer s H vs Q E hr h=>?_)
 ·obtain⟨_,_,_,rfl,_⟩:=h
  rfl
 obtain⟨kis,ds,v,rfl,r,o,go⟩:=h
 refine⟨_,(Z4 (@oF _ _ _ _ _ _ (va dX 0) (Zh (2) (Zq (ga fB.nd gY 1) (bW (ga fB.nd gY 2) cM))) (by rfl) (by rfl) (by rfl)) (Z4 (Ze (ae cU) ["program","kinds","defs","rows"] ["name","tags"] (fK (va dX 1)) (fun _ _ _ _=>(Zh (2) (Zq (Z2 (i:=0) (show(["name","tags"]:List Str).Nodup by decide +kernel)) (bW (Z2 (i:=1) (show(["name","tags"]:List Str).Nodup by decide +kernel)) cM)))) (fun _ _ _ _=>(Z0 KRW (Z1 (va (show Nm ["name","tags"] _ by show _=_;kernel_rfl) 0) (Z9 (va (show Nm ["name","tags"] _ by show _=_;kernel_rfl) 1))))) (ga fB.nd gY 3)) (Z4 (@cG _ _ _ _ (@cz _ _ _ _ _ _ _ _ _ _ _ _ PySem.F.plainAttrs_list PySem.F.slot_list_extend PySem.F.type_list_extend oM (va dX 3) (Z1 (Za (ae cU) ["program","kinds","defs","rows"] ["name","params","term"] (fK (va dX 2)) (fun _ _ _ _=>(Zh (3) (Zq (Z2 (i:=0) (show(["name","params","term"]:List Str).Nodup by decide +kernel)) (Zq (Z2 (i:=1) (show(["name","params","term"]:List Str).Nodup by decide +kernel)) (bW (Z2 (i:=2) (show(["name","params","term"]:List Str).Nodup by decide +kernel)) cM))))) (fun _ _ _ _=>(Z0 DRW (Z1 (va (show Nm ["name","params","term"] _ by show _=_;kernel_rfl) 0) (Z1 (va (show Nm ["name","params","term"] _ by show _=_;kernel_rfl) 1) (Z9 (va (show Nm ["name","params","term"] _ by show _=_;kernel_rfl) 2))))))) aj) (by rfl) (by rfl) (by rfl) (by rfl) (by rfl)) (by rfl)) (Zc (Zf (@cz _ _ _ _ _ _ _ _ _ _ _ _ PySem.F.plainAttrs_str PySem.F.slot_str_join PySem.F.type_str_join iW ak (Z9 (va dX 3)) (by kernel_rfl) (by kernel_rfl) (by kernel_rfl) (by kernel_rfl) (by kernel_rfl))))))),?_⟩
 try dsimp only[aU]
 try dsimp only[aU]
 have o1:=o.k3
 have o2:=o.d3
 obtain⟨pa,v1,v2,rfl,psq,g1,g2⟩:=(show Rp K H (.t [.t (kis.map Et),.t (ds.map GL)]) v from r).t2
 obtain⟨ka,kus,rfl,ksq,krs⟩:=g1.aR
 obtain⟨da,dus,rfl,dsq,drs⟩:=g2.aR
 fail "R"
 refine bR (K:=K) (e:=Et) (φ:=fun k=>[.s (au (qc k))]) (fun σ=>∃a b,σ=[a,b]) ksq krs (by omega) (fun _=>Nat.le_refl _) ⟨_,_,rfl⟩ ?_ ?_
 ·rintro k hk x _ H6 N s6 ⟨_,_,rfl⟩ rx kN
  obtain⟨xa,x1,x2,rfl,xsq,e1,e2⟩:=(show Rp K H6 (.t [.s k.1,.t (k.2.map FO)]) x from rx).t2
  obtain rfl:=e1.aG
  have ko:=o.k k hk
  fail "R"
  intro H7 s7
  exact kN _ _ _ ⟨⟨_,_,rfl⟩,s7,.one .s⟩
 intro l4 H4 ws4 s4 hl4 h4 r4
 rw[cH,show(fun k:Ki=>T.s (au (qc k)))=T.s ∘ (fun k:Ki=>au (qc k))from rfl,←List.map_map]at r4
 obtain rfl:=r4.bO
 have dsq4:=dsq.same s4
 have ty4:Ci K "list" (.ref l4) H4:=.inl ⟨rfl,_,bB.of h4⟩
 fail "R"
 refine bR (K:=K) (e:=GL) (φ:=fun d=>[.s (au (qd d))]) (fun σ=>∃a b c,σ=[a,b,c]) dsq4 (drs.same s4) (by omega) (fun _=>Nat.le_refl _) ⟨_,_,_,rfl⟩ ?_ ?_
 ·rintro d hd x _ H6 N s6 ⟨_,_,_,rfl⟩ rx kN
  obtain⟨xa,x1,x2,x3,rfl,xsq,e1,e2,e3⟩:=(show Rp K H6 (.t [.s d.1,.t (d.2.1.map Eu),enc d.2.2]) x from rx).t3
  obtain rfl:=e1.aG
  have ko:=o.d d hd
  fail "R"
  intro H7 s7
  exact kN _ _ _ ⟨⟨_,_,_,rfl⟩,s7,.one .s⟩
 intro l5 H5 ws5 s5 hl5 h5 r5
 rw[cH,show(fun d:Df=>T.s (au (qd d)))=T.s ∘ (fun d:Df=>au (qd d))from rfl,←List.map_map]at r5
 obtain rfl:=r5.bO
 have h45:=s5 _ _ h4
 have ze:((kis.map fun k=>au (qc k)).map V.str).length+((ds.map fun d=>au (qd d)).map V.str).length<=sizeLine:=small (by rw[List.length_map,List.length_map,List.length_map,List.length_map];omega)
 have sqe:bB K (upd H5 l4 (.lst ((kis.map fun k=>au (qc k)).map V.str++(ds.map fun d=>au (qd d)).map V.str))) l4 ((dh kis ds).map V.str):=by rw[Aw];exact bB.of aa
 have zj:=xG o
 fail "R"
 exact go _ fun b o e=>by rw[ay (bG e hl4)];exact s5 _ _ (s4 _ _ e)
end
end G09
namespace L2
open PySem PySem.Spec PyProof.Rows
section
variable {X:Cx}
theorem tJ(K:PySem.W.Frag)(hK:X.K=K):gZ X (.builtin "isinstance") (fun xs H Q=>∃x,xs=[x,.ty "tuple"]/\((∃p ys,x=.ref p/\bf K H p ys/\Q (.bl true) H)\/(∃z,x=.str z/\Q (.bl false) H)\/∃z,x=.int z/\Q (.bl false) H)):=by
 subst hK
 intro pins s σ H xs us Q I r h
 obtain⟨x,rfl,h⟩:=h
 obtain⟨u,w',rfl,r1,r2⟩:=vals2 r
 obtain rfl:w'=Value.type "tuple":=r2
 rcases h with⟨p,ys,rfl,hq,q⟩|⟨z,rfl,q⟩|⟨z,rfl,q⟩
 ·obtain rfl:u=Value.ref p:=r1
  obtain⟨its,rv,pl,hz⟩:=I.tuple hq
  obtain⟨o,ho,hc,n,hd⟩:=pl
  exact IsiPair.tuple_tuple ho hc ⟨.bl true,H,I,rfl,q⟩
 ·obtain⟨t,rfl⟩:=r1
  exact IsiPair.str_tuple ⟨.bl false,H,I.tok _,rfl,q⟩
 ·obtain⟨t,rfl⟩:=r1
  exact IsiPair.int_tuple ⟨.bl false,H,I.tok _,rfl,q⟩
end
end L2
namespace G09
open PySem L2
inductive Tw:T->Prop
 |s (x:Str):Tw (.s x)
 |i (n:Int):Tw (.i n)
 |t {xs:List T}:xs.length<=900->(∀x∈xs,Tw x)->Tw (.t xs)
noncomputable def qi(K:PySem.W.Frag)(n:Nat):Sp:=fun vs H Q _=>∃(v u:V) (t:T),vs=[v,u]/\Rp K H t v/\Rp K H t u/\Tw t/\t.dep<n/\∀H',aL H H'->Q (.bl true) H'
section
variable {P:Program}{w:World}{K:PySem.W.Frag}{mg:Str->Option Value}{base:Heap}{gA:Addr}{afd:FuncData}
theorem cu:Nm ["_law_found","_law_due"] (ae iE):=by decide +kernel
theorem yT:aH ["_law_found","_law_due"] ["_law_found","_law_due"] (ae iE):=⟨rfl,rfl,rfl,by decide +kernel,rfl,by decide +kernel,by decide +kernel⟩
theorem D6{f:Addr}{fd:FuncData}{n j:Nat}(hj:1<=j)(F:eN K "_law_alike" "_law_alike" iE f fd)(LA:bE P w K mg base "_law_alike" j ["_law_found","_law_due"] (qi K n) gA afd)(z_tuple:mg "tuple"=none)(z_str:mg "str"=none)(z_int:mg "int"=none)(z_bool:mg "bool"=none)(z_isinstance:mg "isinstance"=none)(z_len:mg "len"=none)(z_all:mg "all"=none)(z_zip:mg "zip"=none) :
  bK P w K mg base d8 (j+1) f fd ["_law_found","_law_due"] (qi K (n+1)):=by
 refine F.ok yT (fun vs H Q E h=>?_) (fun cdv A outer s H vs Q E hr h=>?_)
 ·obtain⟨_,_,_,rfl,_⟩:=h
  rfl
 obtain⟨v,u,t,rfl,rv,ru,tw,hd,k⟩:=h
 refine⟨_,(Z4 (Z8 (Zo (Z3 (tJ K rfl) z_isinstance PyProof.Rows.boot_isinstance (Z1 (va cu 1) (Z9 (Zg (v:=.ty "tuple") z_tuple))))) (Z4 (Z8 (PW.pt (@iF _ _ _ _ _ _ _ (@d9 _ _ _ _ (Zo (Z3 (tJ K rfl) z_isinstance PyProof.Rows.boot_isinstance (Z1 (va cu 0) (Z9 (Zg (v:=.ty "tuple") z_tuple)))))) (@f9 _ _ _ _ (Zr ji (Z3 aY z_len PySem.boot_len (Z9 (va cu 0))) (Z3 aY z_len PySem.boot_len (Z9 (va cu 1))))))) (aV (b7 yY))) (Zc (Zf (Z3 (nK rfl) z_all PyProof.Rows.boot_all (Z1 (Za (ae iE) ["_law_found","_law_due"] ["_law_one","_law_other"] (yp K rfl (by show _=_;kernel_rfl) z_zip (Z1 (va cu 0) (Z9 (va cu 1)))) (fun _ _ _ _=>(Zh (2) (Zq (Z2 (i:=0) (show(["_law_one","_law_other"]:List Str).Nodup by decide +kernel)) (bW (Z2 (i:=1) (show(["_law_one","_law_other"]:List Str).Nodup by decide +kernel)) cM)))) (fun _ _ _ _=>(Z0 LA (Z1 (va (show Nm ["_law_one","_law_other"] _ by show _=_;kernel_rfl) 0) (Z9 (va (show Nm ["_law_one","_law_other"] _ by show _=_;kernel_rfl) 1)))))) aj)))))) (Z4 (Z8 (Zo (Z3 (gk K rfl) z_isinstance PyProof.Rows.boot_isinstance (Z1 (va cu 1) (Z9 (Zg (v:=.ty "str") z_str))))) (Zc (Zf (@qq _ _ _ _ _ _ _ (Z3 (gk K rfl) z_isinstance PyProof.Rows.boot_isinstance (Z1 (va cu 0) (Z9 (Zg (v:=.ty "str") z_str)))) (@tQ _ _ _ _ _ (fM b9 (va cu 0) (va cu 1) (mG _))))))) (Zc (Zf (@qq _ _ _ _ _ _ _ (Z3 vM z_isinstance PyProof.Rows.boot_isinstance (Z1 (va cu 0) (Z9 (Zg (v:=.ty "int") z_int)))) (@qq _ _ _ _ _ _ _ (@Hs _ _ _ _ (Z3 vM z_isinstance PyProof.Rows.boot_isinstance (Z1 (va cu 0) (Z9 (Zg (v:=.ty "bool") z_bool))))) (@tQ _ _ _ _ _ (fM b9 (va cu 0) (va cu 1) (mG _))))))))),?_⟩
 try dsimp only[aU]
 try dsimp only[aU]
 refine fV ?_
 intro N1 N2 c1 c2
 cases tw with
 |s x =>
  obtain rfl:=rv.aG
  obtain rfl:=ru.aG
  fail "R"
  refine .inr (.inl ⟨_,rfl,?_⟩)
  fail "R"
  refine .inr (.inl ⟨_,rfl,?_⟩)
  fail "R"
  refine .inr (.inl ⟨_,rfl,?_⟩)
  fail "R"
  rw[show decide (V.str x=V.str x)=true from decide_eq_true rfl]
  exact k _ (aL.refl _)
 |i m =>
  obtain rfl:=rv.ef
  obtain rfl:=ru.ef
  fail "R"
  refine .inr (.inr ⟨_,rfl,?_⟩)
  fail "R"
  refine .inr (.inr ⟨_,rfl,?_⟩)
  fail "R"
  rw[show decide (V.int m=V.int m)=true from decide_eq_true rfl]
  exact k _ (aL.refl _)
 |@t xs hn hx =>
  obtain⟨va,vvs,rfl,vsq,rvs⟩:=rv.aR
  obtain⟨ua,uvs,rfl,usq,rus⟩:=ru.aR
  have l1:=rvs.length
  have l2:=rus.length
  have e1:((vvs.length:Nat):Int)=((uvs.length:Nat):Int):=by rw[l1,l2]
  have hb1:nj K true H va vvs:=vsq
  have hb2:nj K true H ua uvs:=usq
  have hs1:bB K H va vvs\/bf K H va vvs:=.inr vsq
  have hs2:bB K H ua uvs\/bf K H ua uvs:=.inr usq
  fail "R"
  refine .inl ⟨_,_,rfl,usq,?_⟩
  fail "R"
  refine .inl ⟨_,_,rfl,vsq,?_⟩
  fail "R"
  refine rR (by rw[e1,decide_eq_true rfl];rfl) ?_
  fail "R"
  refine qP (K:=K) (xs:=vvs) (ys:=uvs) (fun i σ us H5=>(∃x y,σ=[x,y])/\aL H H5/\us=(List.replicate i true).map V.bl) ⟨⟨_,_,rfl⟩,aL.refl _,rfl⟩ ?_ (small (by rw[l1,l2];omega)) ?_ ?_ ?_ ?_
  ·rintro i σ us H5 hi ⟨_,_,rfl⟩
   rw[List.length_map,List.length_replicate]
   exact Nat.le_refl _
  ·rintro i σ us H5 hi ⟨_,s5,_⟩
   exact vsq.same s5
  ·rintro i σ us H5 hi ⟨_,s5,_⟩
   exact usq.same s5
  ·rintro i x y σ us H5 p6 hx6 hy6 ⟨⟨_,_,rfl⟩,s5,rfl⟩ hp6
   obtain⟨t6,ht6,rx⟩:=rvs.get' hx6
   obtain⟨t7,ht7,ry⟩:=rus.get' hy6
   rw[ht6]at ht7
   cases ht7
   have tw6:=hx t6 (List.mem_of_getElem? ht6)
   have hd6:t6.dep<n:=by
    have:=T.vH (List.mem_of_getElem? ht6)
    unfold T.dep at hd
    omega
   have s6:=ah hp6 (.tup [x,y])
   have h6:upd H5 p6 (.tup [x,y]) p6=some (.tup [x,y]):=aa
   have rx6:=rx.same (s5.trans s6)
   have ry6:=ry.same (s5.trans s6)
   generalize upd H5 p6 (.tup [x,y])=H6 at s6 h6 rx6 ry6⊢
   fail "R"
   intro H7 s7
   fail "R"
   ·exact(s5.trans s6).trans s7
   ·rw[List.replicate_succ',List.map_append]
    rfl
  ·rintro σ us H5 ⟨_,s5,rfl⟩ p6 hp6
   have hall:(List.replicate (min vvs.length uvs.length) true).all id=true:=by simp
   fail "R"
   rw[hall]
   exact k _ (s5.trans (Zs hp6))
end
noncomputable def om(H:Hp)(a:Addr)(ws:List Str):Prop:=H a=some (.lst (ws.map V.str))/\1<=ws.length/\ws.length<=100
theorem om.ne{H:Hp}{a f:Addr}{ws:List Str}(h:om H a ws)(hf:di H f):a≠f:=fun z=>by
 obtain⟨p,q,e⟩:=hf
 subst z
 rw[h.1]at e
 cases ws with
 |nil=>have:=h.2.1;simp at this
 |cons x r=>injection e with e;injection e with e;rw[List.map_cons]at e;injection e with e;cases e
theorem om.same{H H':Hp}{a:Addr}{ws:List Str}(h:om H a ws)(e:aL H H'):om H' a ws:=⟨e a _ h.1,h.2⟩
noncomputable def xH:Sp:=fun vs H Q _=>∃f:Addr,vs=[.ref f]/\di H f/\∀(n:Int) (H':Hp),0<=n->n<1000000->Ext f H H'->Q (.int n) H'
section
variable {P:Program}{w:World}{K:PySem.W.Frag}{mg:Str->Option Value}{base:Heap}{gT gN gA:Addr}{tfd nfd afd:FuncData}
theorem eE:Nm ["_law_feed_here","_law_form"] (ae iK):=by decide +kernel
theorem xJ:Lm ["_law_feed_here","_law_form"] (ae iK):=by decide +kernel
theorem pM:aH ["_law_feed_here","_law_form"] ["_law_feed_here"] (ae iK):=⟨rfl,rfl,rfl,by decide +kernel,rfl,by decide +kernel,by decide +kernel⟩
theorem BH{f:Addr}{fd:FuncData}(F:eN K "_law_number" "_law_number" iK f fd)(TK:bE P w K mg base "_law_take" 1 ["_law_feed_here","_law_many"] iI gT tfd):bK P w K mg base d8 2 f fd ["_law_feed_here"] xH:=by
 refine F.ok pM (fun vs H Q E h=>?_) (fun cdv A outer s H vs Q E hr h=>?_)
 ·obtain⟨v,rfl,_⟩:=h
  rfl
 obtain⟨r,rfl,hf,k⟩:=h
 refine⟨_,(cJ (sa pM.nd xJ 1 (nA TK.ok (hr.mono (by omega)) (by show _=_;kernel_rfl) TK.at' TK.kp TK.bd .nil qy (cf (va eE 0) (cf ao aj))))
  (cJ (iG (Zi ny (va eE 1) ao) (aV (b7 (nA TK.ok (hr.mono (by omega)) (by show _=_;kernel_rfl) TK.at' TK.kp TK.bd .nil qy (cf (va eE 0) (cf (iU aN (bq (cf ao (cf ao (cf ao (cf ao (cf ao (cf ao aj))))))) (va eE 1) (fun _ _=>rfl)) aj))))) nq)
  (aV (b7 (iU aN (bq (cf (nA TK.ok (hr.mono (by omega)) (by show _=_;kernel_rfl) TK.at' TK.kp TK.bd .nil qy (cf (va eE 0) (cf ao aj))) (cf (cy jG ao (nA TK.ok (hr.mono (by omega)) (by show _=_;kernel_rfl) TK.at' TK.kp TK.bd .nil qy (cf (va eE 0) (cf ao aj)))) aj))) (cy jG (va eE 1) ao) (fun _ _=>rfl)))))),?_⟩
 refine⟨_,rfl,r,8,rfl,by decide,by decide,hf,fun q H1 q0 q1 e1=>?_⟩
 refine⟨_,rfl,_,_,rfl,rfl,_,rfl,dG (fun c=>?_) (fun c=>?_)⟩
 ·have c6:q<6:=of_decide_eq_true c
  refine⟨_,rfl,(by show 6<=sizeLine;decide),fun l hl=>?_⟩
  obtain⟨v,hv,hm⟩:=uq (xs:=[V.int 2,V.int 4,V.int 4,V.int 10,V.int 10,V.int 100]) q0 (by simpa using c6)
  obtain⟨n,rfl,n0,n1⟩:∃n:Int,v=.int n/\0<n/\n<=100:=by
   simp only[List.mem_cons,List.not_mem_nil,or_false]at hm
   rcases hm with rfl|rfl|rfl|rfl|rfl|rfl
   ·exact⟨2,rfl,by decide,by decide⟩
   ·exact⟨4,rfl,by decide,by decide⟩
   ·exact⟨4,rfl,by decide,by decide⟩
   ·exact⟨10,rfl,by decide,by decide⟩
   ·exact⟨10,rfl,by decide,by decide⟩
   ·exact⟨100,rfl,by decide,by decide⟩
  refine⟨_,rfl,l,_,_,_,rfl,rfl,bB.of aa,hv,r,n,rfl,n0,by omega,e1.2.same (Zs hl),fun x H2 x0 x1 e2=>?_⟩
  exact k x H2 x0 (by omega) ((e1.new hl _).trans e2)
 ·have c6:¬q<6:=fun z=>c (decide_eq_true z)
  refine⟨_,rfl,r,1000000,rfl,by decide,by decide,e1.2,fun x H2 x0 x1 e2=>?_⟩
  refine⟨_,rfl,r,3,rfl,by decide,by decide,e2.2,fun y H3 y0 y1 e3=>?_⟩
  refine⟨_,_,rfl,rfl,(by show 2<=sizeLine;decide),fun l hl=>?_⟩
  have e4:=((e1.trans e2).trans e3).new hl (.lst [.int x,.int (999999-y)])
  obtain⟨v,hv,hm⟩:=uq (xs:=[V.int x,V.int (999999-y)]) (k:=q-6) (by omega) (by simp;omega)
  refine⟨_,rfl,_,_,rfl,rfl,l,_,_,_,rfl,rfl,bB.of aa,hv,?_⟩
  simp only[List.mem_cons,List.not_mem_nil,or_false]at hm
  rcases hm with rfl|rfl
  ·exact k _ _ x0 x1 e4
  ·exact k _ _ (by omega) (by omega) e4
end
noncomputable abbrev ky(x:Str):Key:=Sum.inr x
noncomputable def vg(wl:Addr)(m:Int):List (Key×V):=[(ky "words",.ref wl),(ky "left",.int m)]
structure Sc(H:Hp) (f d wl:Addr) (xs:List Str):Prop where
 sd:∃m:Int,H d=some (.dK (vg wl m))/\0<=m/\m<=100
 lw:H wl=some (.lst (xs.map V.str))
 x1:1<=xs.length
 x2:xs.length<=100
 xo:∀x∈xs,bx x
 ff:di H f
 nf:d≠f/\wl≠f
theorem Sc.Mg{H:Hp}{f d wl:Addr}{xs:List Str}(s:Sc H f d wl xs):wl≠d:=fun e=>by
 obtain⟨m,h,_⟩:=s.sd
 rw[←e,s.lw]at h
 cases h
theorem F0(wl:Addr)(m:Int):nG (vg wl m) (ky "words")=some (.ref wl):=by unfold vg;kernel_rfl
theorem IQ(wl:Addr)(m:Int):nG (vg wl m) (ky "left")=some (.int m):=by unfold vg;kernel_rfl
theorem pe{H:Hp}{d wl:Addr}{m:Int}(h:H d=some (.dK (vg wl m))):oN H d (.str "words") (some (.ref wl)):=by
 have:=oN.k (k:=ky "words") h
 rw[F0]at this
 exact this
theorem D7{H:Hp}{d wl:Addr}{m:Int}(h:H d=some (.dK (vg wl m))):oN H d (.str "left") (some (.int m)):=by
 have:=oN.k (k:=ky "left") h
 rw[IQ]at this
 exact this
theorem D8(wl:Addr)(m m':Int):putK (vg wl m) (ky "left") (.int m')=vg wl m':=by unfold vg;kernel_rfl
theorem kZ{n:Nat}(h:n<=1000):n<sizeLine:=by rw[sizeLine_eq];omega
structure Go(f d wl:Addr) (xs:List Str) (H H':Hp):Prop where
 fr:lY [d] f H H'
 sc:Sc H' f d wl xs
section
variable {f d wl:Addr}{xs:List Str}{H H1 H2:Hp}
theorem Sc.ext(s:Sc H f d wl xs)(e:Ext f H H1):Sc H1 f d wl xs:=by
 obtain⟨m,h,hm⟩:=s.sd
 exact⟨⟨m,e.1 _ _ s.nf.1 h,hm⟩,e.1 _ _ s.nf.2 s.lw,s.x1,s.x2,s.xo,e.2,s.nf⟩
theorem Sc.same(s:Sc H f d wl xs)(e:aL H H1):Sc H1 f d wl xs:=by
 obtain⟨m,h,hm⟩:=s.sd
 obtain⟨p,q,hf⟩:=s.ff
 exact⟨⟨m,e _ _ h,hm⟩,e _ _ s.lw,s.x1,s.x2,s.xo,⟨p,q,e _ _ hf⟩,s.nf⟩
theorem Go.refl(s:Sc H f d wl xs):Go f d wl xs H H:=⟨lY.refl s.ff,s⟩
theorem Go.ext(g:Go f d wl xs H H1)(e:Ext f H1 H2):Go f d wl xs H H2:=⟨g.fr.ext e,g.sc.ext e⟩
theorem Go.same(g:Go f d wl xs H H1)(e:aL H1 H2):Go f d wl xs H H2:=⟨g.fr.same e,g.sc.same e⟩
theorem Go.trans(a:Go f d wl xs H H1)(b:Go f d wl xs H1 H2):Go f d wl xs H H2:=⟨a.fr.trans b.fr,b.sc⟩
theorem Go.kt(a:Go f d wl xs H H1):Kt H H1:=a.fr.kt
theorem Go.left{m:Int}(g:Go f d wl xs H H1)(h0:0<=m)(h1:m<=100):Go f d wl xs H (upd H1 d (.dK (vg wl m))):=by
 obtain⟨m',h,_⟩:=g.sc.sd
 have n:=g.sc.Mg
 obtain⟨p,q,hf⟩:=g.sc.ff
 refine⟨g.fr.Lo (List.mem_singleton.mpr rfl) g.sc.nf.1 h,⟨⟨m,aa,h0,h1⟩,?_,g.sc.x1,g.sc.x2,g.sc.xo,⟨p,q,?_⟩,g.sc.nf⟩⟩
 ·rw[ay n];exact g.sc.lw
 ·rw[ay (Ne.symm g.sc.nf.1)];exact hf
theorem Go.get(g:Go f d wl xs H H1){b:Addr}{o:HO}(hb:H b=some o)(n1:b≠d)(n2:b≠f):H1 b=some o:=g.fr.Lp n1 n2 hb
theorem Go.rG(g:Go f d wl xs H H1){b:Addr}(hb:H1 b=none):b≠d/\b≠f:=by
 obtain⟨m,h,_⟩:=g.sc.sd
 obtain⟨p,q,hf⟩:=g.sc.ff
 exact⟨fun e=>by(rw[e,h]at hb;cases hb),fun e=>by(rw[e,hf]at hb;cases hb)⟩
end
theorem jZ{xs:List Str}{r:Int}(h0:0<=r)(h1:r<((xs.map V.str).length:Int))(ho:∀x∈xs,bx x):∃x,cK (xs.map V.str) r=some (.str x)/\bx x:=by
 obtain⟨v,hv,hm⟩:=uq (xs:=xs.map V.str) h0 h1
 obtain⟨y,hy,rfl⟩:=List.mem_map.mp hm
 exact⟨y,hv,ho y hy⟩
theorem vh{h:Hd}(ar:CK h 0=true)(ho:Dl h):cX (.mk h []):=.mk ar ho fun _ hk=>nomatch hk
noncomputable def yU(K:PySem.W.Frag):Sp:=fun vs H Q _=>∃(f d wl:Addr) (xs:List Str),vs=[.ref f,.ref d]/\Sc H f d wl xs/\∀(v:V) (H':Hp) (h:Hd),Go f d wl xs H H'->Rp K H' (enc (.mk h [])) v->cX (.mk h [])->Jf h->Q v H'
section
variable {P:Program}{w:World}{K:PySem.W.Frag}{mg:Str->Option Value}{base:Heap}{gT gN:Addr}{tfd nfd:FuncData}
theorem bM:Nm ["_law_feed_here","_law_scene","_law_form"] (ae fU):=by decide +kernel
theorem se:Lm ["_law_feed_here","_law_scene","_law_form"] (ae fU):=by decide +kernel
theorem mq:aH ["_law_feed_here","_law_scene","_law_form"] ["_law_feed_here","_law_scene"] (ae fU):=⟨rfl,rfl,rfl,by decide +kernel,rfl,by decide +kernel,by decide +kernel⟩
theorem D9{f:Addr}{fd:FuncData}(F:eN K "_law_any_leaf" "_law_any_leaf" fU f fd)(TK:bE P w K mg base "_law_take" 1 ["_law_feed_here","_law_many"] iI gT tfd)(NU:bE P w K mg base "_law_number" 2 ["_law_feed_here"] xH gN nfd)(z_len:mg "len"=none):bK P w K mg base d8 3 f fd ["_law_feed_here","_law_scene"] (yU K):=by
 refine F.ok mq (fun vs H Q E h=>?_) (fun cdv A outer s H vs Q E hr h=>?_)
 ·obtain⟨_,_,_,_,rfl,_⟩:=h
  rfl
 obtain⟨fe,d,wl,xs,rfl,sc,k⟩:=h
 refine⟨_,(Z4 (Z5 mq.nd se 2 (Z0 TK (dP (va bM 0) (Z9 ao)))) (Z4 (Z8 (PW.pt (@tP _ _ _ _ _ _ _ (Zi b9 (va bM 2) ao) (@pV _ _ _ _ (Zr sy (ie (lQ hr) (va bM 1) ak (fun _ _=>rfl)) ao)))) (Z4 (@EN _ _ _ _ _ _ _ _ _ (lQ hr) (va bM 1) ak (Zd jG (ie (lQ hr) (va bM 1) ak (fun _ _=>rfl)) ao) (by rfl)) (Zc (Zf (Zj (Z1 ak (Z1 (Zp aN (@bq _ _ _ _ (Z1 (Z0 TK (dP (va bM 0) (Z9 ao))) (Z1 (Z0 TK (dP (va bM 0) (Z9 ao))) aj))) (Z0 TK (dP (va bM 0) (Z9 ao)))) aj))))))) (Z4 (Z8 (Zi b9 (va bM 2) ao) (Zc (Zf (Zj (Z1 ak (Z1 (Z0 NU (Z9 (va bM 0))) aj)))))) (Zc (Zf (Zj (Z1 ak (Z1 (Zp aN (ie (lQ hr) (va bM 1) ak (fun _ _=>rfl)) (Z0 TK (Z1 (va bM 0) (Z1 (Z3 aY z_len PySem.boot_len (Z1 (ie (lQ hr) (va bM 1) ak (fun _ _=>rfl)) aj)) aj)))) aj)))))))),?_⟩
 try dsimp only[aU]
 try dsimp only[aU]
 have hf:=sc.ff
 refine dR ?_
 intro N1 N2 N3 c1 c2 c3
 fail "R"
 intro q H1 q0 q3 e1
 have g1:=(Go.refl sc).ext e1
 obtain⟨m,h1d,m0,m1⟩:=g1.sc.sd
 have dl:=D7 h1d
 have dw:=pe h1d
 have h1w:=g1.sc.lw
 have sqw:bB K H1 wl (xs.map V.str)\/bf K H1 wl (xs.map V.str):=.inl (bB.of h1w)
 have sqw2:bB K H1 wl (xs.map V.str):=bB.of h1w
 have hf1:=g1.sc.ff
 have x1:=sc.x1
 have x2:=sc.x2
 have lm:(xs.map V.str).length=xs.length:=List.length_map _
 have tail:N2 [some (.ref fe),some (.ref d),some (.int q)] H1:=by
  fail "R"
  refine dG (fun c=>?_) (fun c=>?_)
  ·fail "R"
   intro n H2 n0 n1 e2
   fail "R"
   intro p hp
   refine k _ _ (.num n) ((g1.ext e2).same (Zs hp)) ?_ (vh rfl ⟨n0,n1⟩) True.intro
   rw[cS]
   exact Rp.new (K:=K) hp (.cons .s (.one .i))
  ·have ll:(((xs.map V.str).length:Nat):Int)<1073741824:=by omega
   fail "R"
   intro r H2 r0 r1 e2
   obtain⟨y,hy,oy⟩:=jZ r0 r1 sc.xo
   have g2:=g1.ext e2
   have sq2:bB K H2 wl (xs.map V.str):=bB.of g2.sc.lw
   fail "R"
   intro p hp
   refine k _ _ (.name y) (g2.same (Zs hp)) ?_ (vh rfl oy) True.intro
   rw[cS]
   exact Rp.new (K:=K) hp (.cons .s (.one .s))
 fail "R"
 refine dG (fun c=>?_) (fun c=>tail)
 fail "R"
 refine dG (fun c2=>?_) (fun c2=>tail)
 have c2':0<m:=of_decide_eq_true c2
 have pp:=yc.k (k:=ky "left") (v:=.int (m-1)) h1d (kZ (by show 2<=1000;decide))
 rw[D8]at pp
 have g2:=g1.left (m:=m-1) (by omega) (by omega)
 generalize upd H1 d (.dK (vg wl (m-1)))=H2 at pp g2
 have hf2:=g2.sc.ff
 refine gq ?_
 intro N7 c7
 fail "R"
 intro r1 H3 r10 r11 e3
 have hf3:=e3.2
 fail "R"
 intro r2 H4 r20 r21 e4
 have hf4:=e4.2
 fail "R"
 intro l hl
 have s5:=ah hl (.lst [.int r1,.int r2])
 have h5:upd H4 l (.lst [.int r1,.int r2]) l=some (.lst [.int r1,.int r2]):=aa
 have g5:=((g2.ext e3).ext e4).same s5
 have nlf:l≠fe:=(((g2.ext e3).ext e4).rG hl).2
 generalize upd H4 l (.lst [.int r1,.int r2])=H5 at s5 h5 g5⊢
 have hf5:=g5.sc.ff
 fail "R"
 intro b H6 b0 b1 e6
 have h6:bB K H6 l [.int r1,.int r2]:=bB.of (e6.1 _ _ nlf h5)
 obtain⟨n,hn,n0,n1⟩:∃n:Int,cK [V.int r1,.int r2] b=some (.int n)/\0<=n/\n<100:=by
  have:b=0\/b=1:=by omega
  rcases this with rfl|rfl
  ·exact⟨r1,iS _ _,r10,by omega⟩
  ·exact⟨r2,bh (j:=1) rfl,r20,r21⟩
 fail "R"
 intro p hp
 refine k _ _ (.gap n) ((g5.ext e6).same (Zs hp)) ?_ (vh rfl ⟨n0,n1⟩) True.intro
 rw[cS]
 exact Rp.new (K:=K) hp (.cons .s (.one .i))
end
structure Lt(tm:Tm) (dn rm:Nat):Prop where
 ok:cX tm
 nw:Nw tm
 dp:tm.depth<=dn
 sz:tm.size<=rm
noncomputable def rH(K:PySem.W.Frag)(n:Nat):Sp:=fun vs H Q _=>∃(f d wl:Addr) (xs:List Str) (room down:Nat),vs=[.ref f,.ref d,.int room,.int down]/\Sc H f d wl xs/\1<=room/\room<=100/\down<n/\down<=50/\∀(v:V) (H':Hp) (tm:Tm),Go f d wl xs H H'->Rp K H' (enc tm) v->Lt tm down room->Q v H'
noncomputable def G3(K:PySem.W.Frag)(n:Nat):Sp:=fun vs H Q _=>∃(f d wl:Addr) (xs:List Str) (many room down:Nat),vs=[.ref f,.ref d,.int many,.int room,.int down]/\Sc H f d wl xs/\many<=5/\2<=room/\room<=100/\1<=down/\down<=n/\down<=50/\∀(p:Addr) (us:List V) (H':Hp) (ts:List Tm),Go f d wl xs H H'->bf K H' p us->aX K H' (ts.map enc) us->ts.length=min many (room-1)->(∀t∈ts,cX t/\Nw t/\t.depth<=down-1)->Tm.sizes ts+1<=room->Q (.ref p) H'
structure Mh(K:PySem.W.Frag) (f d wl:Addr) (xs:List Str) (H:Hp) (dn rm i:Nat) (us:List V) (H':Hp):Prop where
 x:∃ts:List Tm,Go f d wl xs H H'/\aX K H' (ts.map enc) us/\ts.length=i/\(∀t∈ts,cX t/\Nw t/\t.depth<=dn)/\Tm.sizes ts<=i*rm
section
variable {P:Program}{w:World}{K:PySem.W.Frag}{mg:Str->Option Value}{base:Heap}{gT gA:Addr}{tfd afd:FuncData}
theorem iR:Nm ["_law_feed_here","_law_scene","_law_many","_law_room","_law_down"] (ae dm):=by decide +kernel
theorem rJ:Lm ["_law_feed_here","_law_scene","_law_many","_law_room","_law_down"] (ae dm):=by decide +kernel
theorem kX:aH ["_law_feed_here","_law_scene","_law_many","_law_room","_law_down"] ["_law_feed_here","_law_scene","_law_many","_law_room","_law_down"] (ae dm):=⟨rfl,rfl,rfl,by decide +kernel,rfl,by decide +kernel,by decide +kernel⟩
theorem IS{f:Addr}{fd:FuncData}{n j:Nat}(F:eN K "_law_any_inner" "_law_any_inner" dm f fd)(ATE:bE P w K mg base "_law_any_term" j ["_law_feed_here","_law_scene","_law_room","_law_down"] (rH K n) gA afd)(z_min:mg "min"=none)(z_max:mg "max"=none)(z_range:mg "range"=none)(z_tuple:mg "tuple"=none):bK P w K mg base d8 (j+1) f fd ["_law_feed_here","_law_scene","_law_many","_law_room","_law_down"] (G3 K n):=by
 refine F.ok kX (fun vs H Q E h=>?_) (fun cdv A outer s H vs Q E hr h=>?_)
 ·obtain⟨_,_,_,_,_,_,_,rfl,_⟩:=h
  rfl
 obtain⟨fe,d,wl,xs,many,room,down,rfl,sc,m5,r2,r100,d1,dn,d50,k⟩:=h
 refine⟨_,(Z4 (Z5 kX.nd rJ 2 (Z3 (AN rfl) z_min PyProof.Rows.boot_min (Z1 (va iR 2) (Z1 (cy jG (va iR 3) ao) aj)))) (Zc (Zf (Z6 aZ z_tuple PyProof.Rows.boot_tuple (Z1 (@fO _ _ _ _ _ _ _ _ _ _ _ (ae dm) ["_law_feed_here","_law_scene","_law_many","_law_room","_law_down"] ["_law_k"] [0,1,2,3,4] rfl rfl rfl (by decide +kernel) (Zn (Z9 (va iR 2))) (fun _ _ _ _=>(Z2 (i:=0) (show(["_law_k","_law_feed_here","_law_scene","_law_many","_law_room","_law_down"]:List Str).Nodup by decide +kernel))) (fun _ _ _ _=>eU) (fun _ _ _ _=>(Z0 ATE (Z1 (va (show Nm ["_law_k","_law_feed_here","_law_scene","_law_many","_law_room","_law_down"] _ by show _=_;kernel_rfl) 1) (Z1 (va (show Nm ["_law_k","_law_feed_here","_law_scene","_law_many","_law_room","_law_down"] _ by show _=_;kernel_rfl) 2) (Z1 (Zd tR (cy jG (va (show Nm ["_law_k","_law_feed_here","_law_scene","_law_many","_law_room","_law_down"] _ by show _=_;kernel_rfl) 4) ao) (Z3 (AM rfl) z_max PyProof.Rows.boot_max (Z1 ao (Z9 (va (show Nm ["_law_k","_law_feed_here","_law_scene","_law_many","_law_room","_law_down"] _ by show _=_;kernel_rfl) 3))))) (Z1 (cy jG (va (show Nm ["_law_k","_law_feed_here","_law_scene","_law_many","_law_room","_law_down"] _ by show _=_;kernel_rfl) 5) ao) aj)))))) (by intro _;rfl)) aj))))),?_⟩
 try dsimp only[aU]
 try dsimp only[aU]
 fail "R"
 have em:(if(room:Int) - 1<(many:Int)then(room:Int) - 1 else(many:Int))=((min many (room-1):Nat):Int):=by split<;>omega
 rw[em]
 generalize hM:min many (room-1)=M at em k⊢
 have M1:M<=room-1:=by omega
 have M5:M<=5:=by omega
 rw[Int.toNat_natCast]
 have esh:((room:Int) - 1) / (if(M:Int)>1 then(M:Int)else 1)=(((room-1) / max 1 M:Nat):Int):=by
  have e1:(if(M:Int)>1 then(M:Int)else 1)=((max 1 M:Nat):Int):=by split<;>omega
  have e2:(room:Int) - 1=((room-1:Nat):Int):=by omega
  rw[e1,e2]
  exact(Int.natCast_ediv _ _).symm
 have edn:(down:Int) - 1=((down-1:Nat):Int):=by omega
 generalize hsh:(room-1) / max 1 M=sh at esh
 have sh1:M=0\/M*sh<=room-1:=by
  rw[←hsh]
  by_cases h0:M=0
  ·exact .inl h0
  ·right
   rw[show max 1 M=M by omega]
   exact Nat.mul_div_le _ _
 have sh2:1<=sh:=by
  rw[←hsh]
  exact(Nat.le_div_iff_mul_le (by omega)).mpr (by omega)
 have sh3:sh<=100:=by
  rw[←hsh]
  exact Nat.le_trans (Nat.div_le_self _ _) (by omega)
 have hdn:down-1<n:=by omega
 have hd5:down-1<=50:=by omega
 refine fD (n:=M) (fun i σ us H5=>(∃v,σ=[v,some (.ref fe),some (.ref d),some (.int (M:Int)),some (.int (room:Int)),some (.int (down:Int))])/\Mh K fe d wl xs H (down-1) sh i us H5) ⟨⟨none,rfl⟩,⟨[],Go.refl sc,.nil,rfl,(fun t h=>nomatch h),Nat.le_of_eq (Nat.zero_mul sh).symm⟩⟩ (fun i σ us H5 _ h=>?_) (small (by omega)) ?_ ?_
 ·obtain⟨_,⟨ts,_,r,e,_⟩⟩:=h
  rw[r.length,List.length_map,e];exact Nat.le_refl _
 ·rintro i σ us H5 hi ⟨⟨v,rfl⟩,⟨ts,g5,r5,l5,o5,z5⟩⟩
  have sc5:=g5.sc
  fail "R"
  ·show [V.ref fe,V.ref d,V.int (((room:Int) - 1) / (if(M:Int)>1 then(M:Int)else 1)),V.int ((down:Int) - 1)]=_
   rw[esh,edn]
  refine⟨sc5,sh2,sh3,hdn,hd5,fun v6 H6 tm g6 r6 lt6=>?_⟩
  refine⟨⟨_,rfl⟩,⟨ts++[tm],g5.trans g6,?_,?_,?_,?_⟩⟩
  ·rw[List.map_append]
   exact(r5.kt g6.kt).snoc r6
  ·rw[List.length_append,l5];rfl
  ·intro t ht
   rcases List.mem_append.mp ht with ht|ht
   ·exact o5 t ht
   ·rw[List.mem_singleton.mp ht];exact⟨lt6.ok,lt6.nw,lt6.dp⟩
  ·have:=lt6.sz
   rw[Tm.nN,Nat.succ_mul]
   have e1:Tm.sizes [tm]=tm.size+0:=by rw[Tm.cT];rfl
   omega
 ·rintro σ us H5 ⟨⟨v,rfl⟩,⟨ts,g5,r5,l5,o5,z5⟩⟩ p6 hp6
  have s6:=ah hp6 (.lst us)
  have h6:upd H5 p6 (.lst us) p6=some (.lst us):=aa
  have r6:=r5.same s6
  have g6:=g5.same s6
  generalize upd H5 p6 (.lst us)=H6 at s6 h6 r6 g6⊢
  fail "R"
  refine .inl ⟨bB.of h6,fun p7 hp7=>?_⟩
  have s7:=ah hp7 (.tup us)
  refine k p7 us _ ts (g6.same s7) (bf.of aa) (r6.same s7) l5 o5 ?_
  rcases sh1 with h0|h0
  ·subst h0
   have:Tm.sizes ts<=0:=by rw[Nat.zero_mul]at z5;exact z5
   omega
  ·omega
end
theorem tw_all{xs:List T}(hl:xs.length<=900)(h:∀x∈xs,Tw x):Tw (.t xs):=.t hl h
theorem tw_cons{y:T}{xs:List T}(hy:Tw y)(h:∀x∈xs,Tw x):∀x∈y::xs,Tw x:=fun x hx=>by
 rcases List.mem_cons.mp hx with rfl|hx
 ·exact hy
 ·exact h x hx
theorem tw_nil:∀x∈([]:List T),Tw x:=fun _ h=>nomatch h
theorem IT{a:Str×List Str}{k:T}(h:a.2.length<=2)(hk:Tw k):Tw (jd a k):=by
 refine tw_all (by show 3<=900;decide) (tw_cons (.s _) (tw_cons (tw_all (by rw[List.length_map];omega) fun x hx=>?_) (tw_cons hk tw_nil)))
 obtain⟨y,_,rfl⟩:=List.mem_map.mp hx
 exact .s y
theorem Ax:∀(arms:List (Str×List Str)) (ks:List T),(∀a∈arms,a.2.length<=2)->(∀k∈ks,Tw k)->∀x∈List.zipWith jd arms ks,Tw x
 | [],_,_,_,x,hx=>by simp at hx
 |_::_,[],_,_,x,hx=>by simp at hx
 |a::r,k::q,h1,h2,x,hx=>by
  rw[List.zipWith_cons_cons]at hx
  rcases List.mem_cons.mp hx with rfl|hx
  ·exact IT (h1 a (.head _)) (h2 k (.head _))
  ·exact Ax r q (fun b hb=>h1 b (.tail _ hb)) (fun b hb=>h2 b (.tail _ hb)) x hx
theorem IU{tm:Tm}(h:cX tm)(w:Nw tm):Tw (enc tm):=by
 induction h with
 |@mk hd ks ar ho hk ih =>
  have kk:∀x∈ks.map enc,Tw x:=fun x hx=>by
   obtain⟨k,h1,rfl⟩:=List.mem_map.mp hx
   exact ih k h1 (w.kids k h1)
  have wl:=w.len
  have wh:=w.hd
  have ll:(ks.map enc).length<=5:=by rw[List.length_map];exact wl
  have one:∀s:Str,Tw (.t (.s s::ks.map enc)):=fun s=>tw_all (by rw[List.length_cons];omega) (tw_cons (.s _) kk)
  have two:∀s x:Str,Tw (.t (.s s::.s x::ks.map enc)):=fun s x=>tw_all (by rw[List.length_cons,List.length_cons];omega) (tw_cons (.s _) (tw_cons (.s _) kk))
  have kt:Tw (.t (ks.map enc)):=tw_all (by omega) kk
  rw[cS]
  cases hd with
  |num n=>exact tw_all (by show 2<=900;decide) (tw_cons (.s _) (tw_cons (.i _) tw_nil))
  |name x=>exact tw_all (by show 2<=900;decide) (tw_cons (.s _) (tw_cons (.s _) tw_nil))
  |gap n=>exact tw_all (by show 2<=900;decide) (tw_cons (.s _) (tw_cons (.i _) tw_nil))
  |op s=>exact two "op" s
  |row=>exact tw_all (by show 2<=900;decide) (tw_cons (.s _) (tw_cons kt tw_nil))
  |more=>exact one "more"
  |first=>exact one "first"
  |others=>exact one "others"
  |long=>exact one "long"
  |ife=>exact one "if"
  |lt x=>exact two "let" x
  |tag t=>exact tw_all (by show 3<=900;decide) (tw_cons (.s _) (tw_cons (.s _) (tw_cons kt tw_nil)))
  |call f=>exact tw_all (by show 3<=900;decide) (tw_cons (.s _) (tw_cons (.s _) (tw_cons kt tw_nil)))
  |fold x y =>
   have arl:ks.length=3:=eq_of_beq (show(ks.length == 3)=true from ar)
   obtain⟨k1,k2,k3,rfl⟩:=GI arl
   exact tw_all (by show 6<=900;decide) (tw_cons (.s _) (tw_cons (kk _ (by simp)) (tw_cons (.s _) (tw_cons (.s _) (tw_cons (kk _ (by simp)) (tw_cons (kk _ (by simp)) tw_nil))))))
  |mat arms =>
   have arl:ks.length=arms.length+1:=eq_of_beq (show(ks.length == arms.length+1)=true from ar)
   cases ks with
   |nil=>cases arl
   |cons k r =>
    refine tw_all (by show 3<=900;decide) (tw_cons (.s _) (tw_cons (kk _ (.head _)) (tw_cons (tw_all ?_ (Ax arms _ wh fun x hx=>kk x (.tail _ hx))) tw_nil)))
    show(List.zipWith jd arms (r.map enc)).length<=900
    rw[List.length_zipWith,List.length_map]
    rw[List.length_cons]at wl
    omega
structure xO(tm:Tm):Prop where
 ok:cX tm
 nw:Nw tm
 dp:tm.depth<=15
 sz:tm.size<=66
theorem Lt.fit{tm:Tm}{dn rm:Nat}(l:Lt tm dn rm)(h1:dn<=15)(h2:rm<=66):xO tm:=⟨l.ok,l.nw,Nat.le_trans l.dp h1,Nat.le_trans l.sz h2⟩
theorem xO.wd{tm:Tm}(l:xO tm):Wd tm:=l.nw.wd
theorem xO.len{tm:Tm}(l:xO tm):(bw tm).txt.length<=3000:=by
 have:=uS l.ok l.nw
 have:=l.sz
 omega
theorem xO.dep{tm:Tm}(l:xO tm):(enc tm).dep<65:=by
 have:=E6 tm
 have:=l.dp
 omega
theorem xO.tw{tm:Tm}(l:xO tm):Tw (enc tm):=IU l.ok l.nw
noncomputable def G4(K:PySem.W.Frag):Sp:=fun vs H Q _=>∃(d:Df) (v u:V),vs=[.str d.1,v,u]/\Rp K H (.t (d.2.1.map Eu)) v/\Rp K H (enc d.2.2) u/\pR d/\xO d.2.2/\∀H',aL H H'->Q (.str (au (qd d))) H'
noncomputable def G5(K:PySem.W.Frag):Sp:=fun vs H Q _=>∃(kis:List Ki) (ds:List Df) (v:V),vs=[v]/\Rp K H (FW kis ds) v/\mZ kis ds/\(∀d∈ds,xO d.2.2)/\∀H',aL H H'->Q (.str (mh kis ds)) H'
section
variable {P:Program}{w:World}{K:PySem.W.Frag}{mg:Str->Option Value}{base:Heap}{gK gT:Addr}{kfd tfd:FuncData}
theorem jf:Nm ["_law_name","_law_tags","_law_told"] (ae eJ):=by decide +kernel
theorem sf:Lm ["_law_name","_law_tags","_law_told"] (ae eJ):=by decide +kernel
theorem mw:aH ["_law_name","_law_tags","_law_told"] ["_law_name","_law_tags"] (ae eJ):=⟨rfl,rfl,rfl,by decide +kernel,rfl,by decide +kernel,by decide +kernel⟩
theorem IV{f:Addr}{fd:FuncData}{j:Nat}(F:eN K "_law_kind_row" "_law_kind_row" eJ f fd)(LKT:bE P w K mg base "_law_kind_text" j ["_law_kind"] (pG K 6) gK kfd):bK P w K mg base d8 (j+1) f fd ["_law_name","_law_tags"] (Ar K):=by
 refine F.ok mw (fun vs H Q E h=>?_) (fun cdv A outer s H vs Q E hr h=>?_)
 ·obtain⟨_,_,rfl,_⟩:=h
  rfl
 obtain⟨k,v,rfl,r,ko,go⟩:=h
 refine⟨_,(Z4 (Ze (ae eJ) ["_law_name","_law_tags","_law_told"] ["_law_t","_law_inner"] (fK (va jf 1)) (fun _ _ _ _=>(Zh (2) (Zq (Z2 (i:=0) (show(["_law_t","_law_inner"]:List Str).Nodup by decide +kernel)) (bW (Z2 (i:=1) (show(["_law_t","_law_inner"]:List Str).Nodup by decide +kernel)) cM)))) (fun _ _ _ _=>(Zd bN (Zd bN ak (@yO _ _ _ _ _ _ _ _ _ _ _ _ K rfl PySem.F.plainAttrs_str PySem.F.slot_str_join PySem.F.type_str_join (oi K rfl) ak (Z1 (Zd eR (@bq _ _ _ _ (Z9 (va (show Nm ["_law_t","_law_inner"] _ by show _=_;kernel_rfl) 0))) (@fO _ _ _ _ _ _ _ _ _ _ _ _ ["_law_t","_law_inner"] ["_law_kind"] [] rfl rfl rfl (by kernel_rfl) (zO K rfl (va (show Nm ["_law_t","_law_inner"] _ by show _=_;kernel_rfl) 1)) (fun _ _ _ _=>(Z2 (i:=0) (show(["_law_kind"]:List Str).Nodup by decide +kernel))) (fun _ _ _ _=>eU) (fun _ _ _ _=>(Z0 LKT (Z9 (va (show Nm ["_law_kind"] _ by show _=_;kernel_rfl) 0)))) (by intro _;rfl))) aj) (by kernel_rfl) (by kernel_rfl) (by kernel_rfl) (by kernel_rfl) (by kernel_rfl))) ak)) (ga mw.nd sf 2)) (Zc (Zf (@cz _ _ _ _ _ _ _ _ _ _ _ _ PySem.F.plainAttrs_str PySem.F.slot_str_join PySem.F.type_str_join (oi K rfl) ak (Z1 (Zd eR (@bq _ _ _ _ (Z1 ak (Z9 (va jf 0)))) (va jf 2)) aj) (by kernel_rfl) (by kernel_rfl) (by kernel_rfl) (by kernel_rfl) (by kernel_rfl))))),?_⟩
 try dsimp only[aU]
 try dsimp only[aU]
 obtain⟨nk,l1,l3,kt⟩:=id ko
 obtain⟨ta,tus,rfl,tsq,trs⟩:=r.aR
 fail "R"
 refine bR (K:=K) (e:=FO) (φ:=fun t=>[.s (au (tu t).txt)]) (fun σ=>∃a b,σ=[a,b]) tsq trs (by omega) (fun _=>Nat.le_refl _) ⟨_,_,rfl⟩ ?_ ?_
 ·rintro t ht x _ H6 N s6 ⟨_,_,rfl⟩ rx kN
  obtain⟨xa,x1,x2,rfl,xsq,e1,e2⟩:=(show Rp K H6 (.t [.s t.1,.t (t.2.map Es)]) x from rx).t2
  obtain rfl:=e1.aG
  obtain⟨ka,kus,rfl,ksq,krs⟩:=e2.aR
  have to:=kt t ht
  fail "R"
  intro p7 hp7
  have s7:=ah hp7 (.lst [.str t.1])
  have h7:upd H6 p7 (.lst [.str t.1]) p7=some (.lst [.str t.1]):=aa
  generalize upd H6 p7 (.lst [.str t.1])=H7 at s7 h7⊢
  have lk2:=to.2.1
  have ksq7:=ksq.same s7
  fail "R"
  refine bR (K:=K) (e:=Es) (φ:=fun k=>[.s (kS k.1 k.2)]) (fun σ=>∃a,σ=[a]) ksq7 (krs.same s7) (by omega) (fun _=>Nat.le_refl _) ⟨_,rfl⟩ ?_ ?_
  ·rintro k2 hk2 x _ H8 N8 s8 ⟨_,rfl⟩ rx8 kN8
   obtain⟨⟨ck,dk⟩,_⟩:=to.2.2 k2 hk2
   have rx8:Rp K H8 (kT k2.1 k2.2) x:=rx8
   have dk2:k2.2<=20:=by omega
   have dk3:k2.2<6:=by omega
   fail "R"
   intro H9 s9
   exact kN8 _ _ _ ⟨⟨_,rfl⟩,s9,.one .s⟩
  intro l9 H9 ws9 s9 hl9 h9 r9
  rw[cH,show(fun k:Kd=>T.s (kS k.1 k.2))=T.s ∘ (fun k:Kd=>kS k.1 k.2)from rfl,←List.map_map]at r9
  obtain rfl:=r9.bO
  have h97:=s9 _ _ h7
  have zc:([V.str t.1]:List V).length+((t.2.map fun k=>kS k.1 k.2).map V.str).length<=sizeLine:=small (by rw[List.length_map,List.length_map];show 1+_<=_;omega)
  fail "R"
  intro p10 hp10
  have e10:[V.str t.1]++(t.2.map fun k=>kS k.1 k.2).map V.str=(t.1::t.2.map fun k=>kS k.1 k.2).map V.str:=rfl
  rw[e10]
  have s10:=ah hp10 (.lst ((t.1::t.2.map fun k=>kS k.1 k.2).map V.str))
  have h10:upd H9 p10 (.lst ((t.1::t.2.map fun k=>kS k.1 k.2).map V.str)) p10=some (.lst ((t.1::t.2.map fun k=>kS k.1 k.2).map V.str)):=aa
  generalize upd H9 p10 (.lst ((t.1::t.2.map fun k=>kS k.1 k.2).map V.str))=H10 at s10 h10⊢
  have zj:=D5 to
  have wl:=As to
  have l1':("(":Str).length+(Txt.join " " (t.1::t.2.map fun k=>kS k.1 k.2)).length<=sizeLine:=small (by rw[qg,aI];show 1+_<=_;omega)
  have l2':(("(":Str)++Txt.join " " (t.1::t.2.map fun k=>kS k.1 k.2)).length+(")":Str).length<=sizeLine:=small (by rw[qg,strLen_append,aI];show 1+_+1<=_;omega)
  fail "R"
  rw[qg,show(Str.ofString "(")++au (Bw.bC (BF t))++(Str.ofString ")")=au (tu t).txt from IJ _]
  exact kN _ _ _ ⟨⟨_,_,rfl⟩,(s7.trans s9).trans s10,.one .s⟩
 intro l4 H4 ws4 s4 hl4 h4 r4
 rw[cH,show(fun t:Tg=>T.s (au (tu t).txt))=T.s ∘ (fun t:Tg=>au (tu t).txt)from rfl,←List.map_map]at r4
 obtain rfl:=r4.bO
 fail "R"
 intro p3 hp3
 have s3:=ah hp3 (.lst [.str "kind",.str k.1])
 have h3:upd H4 p3 (.lst [.str "kind",.str k.1]) p3=some (.lst [.str "kind",.str k.1]):=aa
 generalize upd H4 p3 (.lst [.str "kind",.str k.1])=H3 at s3 h3⊢
 have h34:=s3 _ _ h4
 have zc:([V.str "kind",V.str k.1]:List V).length+((k.2.map fun t=>au (tu t).txt).map V.str).length<=sizeLine:=small (by rw[List.length_map,List.length_map];show 2+_<=_;omega)
 fail "R"
 intro p5 hp5
 have e5:[V.str "kind",V.str k.1]++(k.2.map fun t=>au (tu t).txt).map V.str=((rN k).map fun b=>au b.txt).map V.str:=two_w _ _ _ _
 rw[e5]
 have s5:=ah hp5 (.lst (((rN k).map fun b=>au b.txt).map V.str))
 have h5:upd H3 p5 (.lst (((rN k).map fun b=>au b.txt).map V.str)) p5=some (.lst (((rN k).map fun b=>au b.txt).map V.str)):=aa
 generalize upd H3 p5 (.lst (((rN k).map fun b=>au b.txt).map V.str))=H5 at s5 h5⊢
 have zj:=oj (rN k) (by have:=qe ko;unfold qc at this;omega)
 fail "R"
 rw[jV]
 exact go _ ((s4.trans s3).trans s5)
end
section
variable {P:Program}{w:World}{K:PySem.W.Frag}{mg:Str->Option Value}{base:Heap}{gK gT:Addr}{kfd tfd:FuncData}
theorem iz:Nm ["_law_f","_law_params","_law_term","_law_told"] (ae fG):=by decide +kernel
theorem vj:Lm ["_law_f","_law_params","_law_term","_law_told"] (ae fG):=by decide +kernel
theorem oq:aH ["_law_f","_law_params","_law_term","_law_told"] ["_law_f","_law_params","_law_term"] (ae fG):=⟨rfl,rfl,rfl,by decide +kernel,rfl,by decide +kernel,by decide +kernel⟩
theorem IW{f:Addr}{fd:FuncData}{j:Nat}(hj:8<=j)(F:eN K "_law_def_row" "_law_def_row" fG f fd)(LKT:bE P w K mg base "_law_kind_text" 8 ["_law_kind"] (pG K 6) gK kfd)(LTT:bE P w K mg base "_law_term_text" j ["_law_term"] (xC K 16) gT tfd):bK P w K mg base d8 (j+1) f fd ["_law_f","_law_params","_law_term"] (G4 K):=by
 refine F.ok oq (fun vs H Q E h=>?_) (fun cdv A outer s H vs Q E hr h=>?_)
 ·obtain⟨_,_,_,rfl,_⟩:=h
  rfl
 obtain⟨d,v,u,rfl,r,ru,ko,fit,go⟩:=h
 refine⟨_,(Z4 (Ze (ae fG) ["_law_f","_law_params","_law_term","_law_told"] ["_law_x","_law_kind"] (fK (va iz 1)) (fun _ _ _ _=>(Zh (2) (Zq (Z2 (i:=0) (show(["_law_x","_law_kind"]:List Str).Nodup by decide +kernel)) (bW (Z2 (i:=1) (show(["_law_x","_law_kind"]:List Str).Nodup by decide +kernel)) cM)))) (fun _ _ _ _=>(Zd bN (Zd bN (Zd bN (cy bN ak (va (show Nm ["_law_x","_law_kind"] _ by show _=_;kernel_rfl) 0)) ak) (Z0 LKT (Z9 (va (show Nm ["_law_x","_law_kind"] _ by show _=_;kernel_rfl) 1)))) ak)) (ga oq.nd vj 3)) (Zc (Zf (@cz _ _ _ _ _ _ _ _ _ _ _ _ PySem.F.plainAttrs_str PySem.F.slot_str_join PySem.F.type_str_join iW ak (Z1 (Zd eR (Zd eR (@bq _ _ _ _ (Z1 ak (Z9 (va iz 0)))) (va iz 3)) (@bq _ _ _ _ (Z1 ak (Z1 (Z0 LTT (Z9 (va iz 2))) aj)))) aj) (by kernel_rfl) (by kernel_rfl) (by kernel_rfl) (by kernel_rfl) (by kernel_rfl))))),?_⟩
 try dsimp only[aU]
 try dsimp only[aU]
 obtain⟨nk,l3,kt,tok,twd,tln⟩:=id ko
 obtain⟨ta,tus,rfl,tsq,trs⟩:=r.aR
 fail "R"
 refine bR (K:=K) (e:=Eu) (φ:=fun t=>[.s (au (oA t).txt)]) (fun σ=>∃a b,σ=[a,b]) tsq trs (by omega) (fun _=>Nat.le_refl _) ⟨_,_,rfl⟩ ?_ ?_
 ·rintro t ht x _ H6 N s6 ⟨_,_,rfl⟩ rx kN
  obtain⟨xa,x1,x2,rfl,xsq,e1,e2⟩:=(show Rp K H6 (.t [.s t.1,kT t.2.1 t.2.2]) x from rx).t2
  obtain rfl:=e1.aG
  obtain⟨nt,ck,dk⟩:=kt t ht
  have dk2:t.2.2<=20:=by omega
  have dk3:t.2.2<6:=by omega
  have ln:=nt.2.1
  have lk:=nZ (kt t ht).2
  have m1:("(":Str).length+t.1.length<=sizeLine:=small (by show 1+_<=_;omega)
  have m2:(("(":Str)++t.1).length+(" ":Str).length<=sizeLine:=small (by rw[strLen_append];show 1+_+1<=_;omega)
  have m3:(("(":Str)++t.1++(" ":Str)).length+(kS t.2.1 t.2.2).length<=sizeLine:=small (by rw[strLen_append,strLen_append,rE,aI];show 1+_+1+_<=_;omega)
  have m4:(("(":Str)++t.1++(" ":Str)++kS t.2.1 t.2.2).length+(")":Str).length<=sizeLine:=small (by rw[strLen_append,strLen_append,strLen_append,rE,aI];show 1+_+1+_+1<=_;omega)
  fail "R"
  intro H7 s7
  fail "R"
  rw[G0]
  exact kN _ _ _ ⟨⟨_,_,rfl⟩,s7,.one .s⟩
 intro l4 H4 ws4 s4 hl4 h4 r4
 rw[cH,show(fun t:Pa=>T.s (au (oA t).txt))=T.s ∘ (fun t:Pa=>au (oA t).txt)from rfl,←List.map_map]at r4
 obtain rfl:=r4.bO
 fail "R"
 intro p5 hp5
 have s5:=ah hp5 (.lst [.str "def",.str d.1])
 have h5:upd H4 p5 (.lst [.str "def",.str d.1]) p5=some (.lst [.str "def",.str d.1]):=aa
 generalize upd H4 p5 (.lst [.str "def",.str d.1])=H5 at s5 h5⊢
 have h45:=s5 _ _ h4
 have zc:([V.str "def",V.str d.1]:List V).length+((d.2.1.map fun t=>au (oA t).txt).map V.str).length<=sizeLine:=small (by rw[List.length_map,List.length_map];show 2+_<=_;omega)
 fail "R"
 intro p6 hp6
 have s6:=ah hp6 (.lst ([V.str "def",V.str d.1]++(d.2.1.map fun t=>au (oA t).txt).map V.str))
 have h6:upd H5 p6 (.lst ([V.str "def",V.str d.1]++(d.2.1.map fun t=>au (oA t).txt).map V.str)) p6=some (.lst ([V.str "def",V.str d.1]++(d.2.1.map fun t=>au (oA t).txt).map V.str)):=aa
 generalize upd H5 p6 (.lst ([V.str "def",V.str d.1]++(d.2.1.map fun t=>au (oA t).txt).map V.str))=H6 at s6 h6⊢
 have ru6:=ru.same ((s4.trans s5).trans s6)
 have fdp:d.2.2.depth<16:=by have:=fit.dp;omega
 have fok:=fit.ok
 have fnw:=fit.nw
 have fsz:=fit.sz
 fail "R"
 intro H7 s7
 unfold j5
 have h67:=s7 _ _ h6
 fail "R"
 intro p8 hp8
 have s8:=ah hp8 (.lst [.str "=",.str (au (bw d.2.2).txt)])
 have h8:upd H7 p8 (.lst [.str "=",.str (au (bw d.2.2).txt)]) p8=some (.lst [.str "=",.str (au (bw d.2.2).txt)]):=aa
 generalize upd H7 p8 (.lst [.str "=",.str (au (bw d.2.2).txt)])=H8 at s8 h8⊢
 have h68:=s8 _ _ h67
 have zd:([V.str "def",V.str d.1]++(d.2.1.map fun t=>au (oA t).txt).map V.str).length+([V.str "=",V.str (au (bw d.2.2).txt)]:List V).length<=sizeLine:=small (by rw[List.length_append,List.length_map,List.length_map];show 2+_+2<=_;omega)
 fail "R"
 intro p9 hp9
 rw[G1]
 have s9:=ah hp9 (.lst (((Au d).map fun b=>au b.txt).map V.str))
 have h9:upd H8 p9 (.lst (((Au d).map fun b=>au b.txt).map V.str)) p9=some (.lst (((Au d).map fun b=>au b.txt).map V.str)):=aa
 generalize upd H8 p9 (.lst (((Au d).map fun b=>au b.txt).map V.str))=H9 at s9 h9⊢
 have zj:=oj (Au d) (by rw[qh];have:=Av ko;omega)
 fail "R"
 rw[jV,qh]
 exact go _ (((((s4.trans s5).trans s6).trans s7).trans s8).trans s9)
theorem fZ:Nm ["_law_program","_law_rows"] (ae cB):=by decide +kernel
theorem ou:Lm ["_law_program","_law_rows"] (ae cB):=by decide +kernel
theorem i9:aH ["_law_program","_law_rows"] ["_law_program"] (ae cB):=⟨rfl,rfl,rfl,by decide +kernel,rfl,by decide +kernel,by decide +kernel⟩
theorem IX{f:Addr}{fd:FuncData}{jk j:Nat}(hj:jk<=j)(F:eN K "_law_program_text" "_law_program_text" cB f fd)(LKR:bE P w K mg base "_law_kind_row" jk ["_law_name","_law_tags"] (Ar K) gK kfd)(LDR:bE P w K mg base "_law_def_row" j ["_law_f","_law_params","_law_term"] (G4 K) gT tfd):bK P w K mg base d8 (j+1) f fd ["_law_program"] (G5 K):=by
 refine F.ok i9 (fun vs H Q E h=>?_) (fun cdv A outer s H vs Q E hr h=>?_)
 ·obtain⟨_,_,_,rfl,_⟩:=h
  rfl
 obtain⟨kis,ds,v,rfl,r,o,fit,go⟩:=h
 refine⟨_,(Z4 (Ze (ae cB) ["_law_program","_law_rows"] ["_law_name","_law_tags"] (@fK _ _ _ _ (Zb bH (va fZ 0))) (fun _ _ _ _=>(Zh (2) (Zq (Z2 (i:=0) (show(["_law_name","_law_tags"]:List Str).Nodup by decide +kernel)) (bW (Z2 (i:=1) (show(["_law_name","_law_tags"]:List Str).Nodup by decide +kernel)) cM)))) (fun _ _ _ _=>(Z0 LKR (Z1 (va (show Nm ["_law_name","_law_tags"] _ by show _=_;kernel_rfl) 0) (Z9 (va (show Nm ["_law_name","_law_tags"] _ by show _=_;kernel_rfl) 1))))) (ga i9.nd ou 1)) (Zc (Zf (@cz _ _ _ _ _ _ _ _ _ _ _ _ PySem.F.plainAttrs_str PySem.F.slot_str_join PySem.F.type_str_join iW ak (Z1 (Zd eR (va fZ 1) (Za (ae cB) ["_law_program","_law_rows"] ["_law_f","_law_params","_law_term"] (@fK _ _ _ _ (Zb bH (va fZ 0))) (fun _ _ _ _=>(Zh (3) (Zq (Z2 (i:=0) (show(["_law_f","_law_params","_law_term"]:List Str).Nodup by decide +kernel)) (Zq (Z2 (i:=1) (show(["_law_f","_law_params","_law_term"]:List Str).Nodup by decide +kernel)) (bW (Z2 (i:=2) (show(["_law_f","_law_params","_law_term"]:List Str).Nodup by decide +kernel)) cM))))) (fun _ _ _ _=>(Z0 LDR (Z1 (va (show Nm ["_law_f","_law_params","_law_term"] _ by show _=_;kernel_rfl) 0) (Z1 (va (show Nm ["_law_f","_law_params","_law_term"] _ by show _=_;kernel_rfl) 1) (Z9 (va (show Nm ["_law_f","_law_params","_law_term"] _ by show _=_;kernel_rfl) 2)))))))) aj) (by kernel_rfl) (by kernel_rfl) (by kernel_rfl) (by kernel_rfl) (by kernel_rfl))))),?_⟩
 try dsimp only[aU]
 try dsimp only[aU]
 have o1:=o.k3
 have o2:=o.d3
 obtain⟨pa,v1,v2,rfl,psq,g1,g2⟩:=(show Rp K H (.t [.t (kis.map Et),.t (ds.map GL)]) v from r).t2
 obtain⟨ka,kus,rfl,ksq,krs⟩:=g1.aR
 obtain⟨da,dus,rfl,dsq,drs⟩:=g2.aR
 fail "R"
 refine bR (K:=K) (e:=Et) (φ:=fun k=>[.s (au (qc k))]) (fun σ=>∃a b,σ=[a,b]) ksq krs (by omega) (fun _=>Nat.le_refl _) ⟨_,_,rfl⟩ ?_ ?_
 ·rintro k hk x _ H6 N s6 ⟨_,_,rfl⟩ rx kN
  obtain⟨xa,x1,x2,rfl,xsq,e1,e2⟩:=(show Rp K H6 (.t [.s k.1,.t (k.2.map FO)]) x from rx).t2
  obtain rfl:=e1.aG
  have ko:=o.k k hk
  fail "R"
  intro H7 s7
  exact kN _ _ _ ⟨⟨_,_,rfl⟩,s7,.one .s⟩
 intro l4 H4 ws4 s4 hl4 h4 r4
 rw[cH,show(fun k:Ki=>T.s (au (qc k)))=T.s ∘ (fun k:Ki=>au (qc k))from rfl,←List.map_map]at r4
 obtain rfl:=r4.bO
 have dsq4:=dsq.same s4
 have psq4:=psq.same s4
 fail "R"
 refine bR (K:=K) (e:=GL) (φ:=fun d=>[.s (au (qd d))]) (fun σ=>∃a b c,σ=[a,b,c]) dsq4 (drs.same s4) (by omega) (fun _=>Nat.le_refl _) ⟨_,_,_,rfl⟩ ?_ ?_
 ·rintro d hd x _ H6 N s6 ⟨_,_,_,rfl⟩ rx kN
  obtain⟨xa,x1,x2,x3,rfl,xsq,e1,e2,e3⟩:=(show Rp K H6 (.t [.s d.1,.t (d.2.1.map Eu),enc d.2.2]) x from rx).t3
  obtain rfl:=e1.aG
  have ko:=o.d d hd
  have kf:=fit d hd
  fail "R"
  intro H7 s7
  exact kN _ _ _ ⟨⟨_,_,_,rfl⟩,s7,.one .s⟩
 intro l5 H5 ws5 s5 hl5 h5 r5
 rw[cH,show(fun d:Df=>T.s (au (qd d)))=T.s ∘ (fun d:Df=>au (qd d))from rfl,←List.map_map]at r5
 obtain rfl:=r5.bO
 have h45:=s5 _ _ h4
 have ze:((kis.map fun k=>au (qc k)).map V.str).length+((ds.map fun d=>au (qd d)).map V.str).length<=sizeLine:=small (by rw[List.length_map,List.length_map,List.length_map,List.length_map];omega)
 fail "R"
 intro p6 hp6
 rw[Aw]
 have s6:=ah hp6 (.lst ((dh kis ds).map V.str))
 have h6:upd H5 p6 (.lst ((dh kis ds).map V.str)) p6=some (.lst ((dh kis ds).map V.str)):=aa
 generalize upd H5 p6 (.lst ((dh kis ds).map V.str))=H6 at s6 h6⊢
 have zj:=xG o
 fail "R"
 exact go _ ((s4.trans s5).trans s6)
end
theorem Go.Fg{f d wl q:Addr}{xs:List Str}{us:List V}{H H1:Hp}(g:Go f d wl xs H H1)(s:Sc H f d wl xs)(hn:H q=none)(h:H1 q=some (.lst us))(o:HO):Go f d wl xs H (upd H1 q o):=by
 obtain⟨m,hd,hm⟩:=g.sc.sd
 obtain⟨m0,hd0,_⟩:=s.sd
 obtain⟨p1,p2,hf0⟩:=s.ff
 obtain⟨p3,p4,hf⟩:=g.sc.ff
 have n1:d≠q:=fun e=>by(rw[←e,hd0]at hn;cases hn)
 have n2:wl≠q:=fun e=>by(rw[←e,s.lw]at hn;cases hn)
 have n3:f≠q:=fun e=>by(rw[←e,hf0]at hn;cases hn)
 refine⟨g.fr.Fg hn (Ne.symm n3) h,⟨⟨m,by rw[ay n1];exact hd,hm⟩,by rw[ay n2];exact g.sc.lw,s.x1,s.x2,s.xo,⟨p3,p4,by rw[ay n3];exact hf⟩,s.nf⟩⟩
theorem aX.strs{K:PySem.W.Frag}{H:Hp}:∀xs:List Str,aX K H (xs.map T.s) (xs.map V.str)
 | []=>.nil
 |_::r=>.cons .s (aX.strs r)
noncomputable def Ea(arms:List (Str×List Str)):Prop:=∀a∈arms,(bx a.1/\∀x∈a.2,bx x)/\a.2.length<=2
noncomputable def Ec(K:PySem.W.Frag):Sp:=fun vs H Q _=>∃(f d wl:Addr) (xs:List Str) (p:Addr) (us:List V) (ts:List Tm),vs=[.ref f,.ref d,.ref p]/\Sc H f d wl xs/\bf K H p us/\aX K H (ts.map enc) us/\ts.length<=5/\∀(v:V) (H':Hp) (arms:List (Str×List Str)),Go f d wl xs H H'->Rp K H' (.t (List.zipWith jd arms (ts.map enc))) v->arms.length=ts.length->Ea arms->Q v H'
structure LO(K:PySem.W.Frag) (f d wl:Addr) (xs:List Str) (q:Addr) (H:Hp) (ts:List Tm) (i:Nat) (H':Hp):Prop where
 x:∃(arms:List (Str×List Str)) (vs:List V),Go f d wl xs H H'/\H' q=some (.lst vs)/\aX K H' (List.zipWith jd arms ((ts.take i).map enc)) vs/\arms.length=i/\Ea arms
structure LP(f d wl:Addr) (xs:List Str) (H:Hp) (i:Nat) (us:List V) (H':Hp):Prop where
 x:∃ys:List Str,Go f d wl xs H H'/\us=ys.map V.str/\ys.length=i/\∀y∈ys,bx y
section
variable {P:Program}{w:World}{K:PySem.W.Frag}{mg:Str->Option Value}{base:Heap}{gT gA:Addr}{tfd afd:FuncData}
theorem dB:Nm ["_law_feed_here","_law_scene","_law_terms","_law_found","_law_term","_law_words"] (ae eI):=by decide +kernel
theorem jg:Lm ["_law_feed_here","_law_scene","_law_terms","_law_found","_law_term","_law_words"] (ae eI):=by decide +kernel
theorem gv:aH ["_law_feed_here","_law_scene","_law_terms","_law_found","_law_term","_law_words"] ["_law_feed_here","_law_scene","_law_terms"] (ae eI):=⟨rfl,rfl,rfl,by decide +kernel,rfl,by decide +kernel,by decide +kernel⟩
theorem IY{f:Addr}{fd:FuncData}(F:eN K "_law_any_arms" "_law_any_arms" eI f fd)(TK:bE P w K mg base "_law_take" 1 ["_law_feed_here","_law_many"] iI gT tfd)(z_len:mg "len"=none)(z_range:mg "range"=none)(z_tuple:mg "tuple"=none):bK P w K mg base d8 2 f fd ["_law_feed_here","_law_scene","_law_terms"] (Ec K):=by
 refine F.ok gv (fun vs H Q E h=>?_) (fun cdv A outer s H vs Q E hr h=>?_)
 ·obtain⟨_,_,_,_,_,_,_,rfl,_⟩:=h
  rfl
 obtain⟨fe,d,wl,xs,p,us,ts,rfl,sc,sq,r,t5,k⟩:=h
 refine⟨_,(Z4 (sa gv.nd jg 3 (bq aj)) (Z4 (Zl (fK (va dB 2)) (ga gv.nd jg 4) (Z4 (@qG _ _ _ _ _ _ _ _ _ _ _ _ _ _ _ (ae eI) ["_law_feed_here","_law_scene","_law_terms","_law_found","_law_term","_law_words"] ["_law_k"] [0,1] rfl rfl rfl (by decide +kernel) (Zn (Z1 (Zd fL ao (Z0 TK (dP (va dB 0) (Z9 ao)))) aj)) (fun _ _ _ _=>(Z2 (i:=0) (show(["_law_k","_law_feed_here","_law_scene"]:List Str).Nodup by decide +kernel))) (fun _ _ _ _=>eU) (fun _ _ _ _=>(Zp (vO K rfl) (ie (lQ hr) (va (show Nm ["_law_k","_law_feed_here","_law_scene"] _ by show _=_;kernel_rfl) 2) ak (fun _ _=>rfl)) (Z0 TK (Z1 (va (show Nm ["_law_k","_law_feed_here","_law_scene"] _ by show _=_;kernel_rfl) 1) (Z1 (Z3 (lW K rfl) z_len PySem.boot_len (Z1 (ie (lQ hr) (va (show Nm ["_law_k","_law_feed_here","_law_scene"] _ by show _=_;kernel_rfl) 2) ak (fun _ _=>rfl)) aj)) aj))))) (ga gv.nd jg 5) (by kernel_rfl) (by intro _;rfl)) (Zc (@cG _ _ _ _ (@cz _ _ _ _ _ _ _ _ _ _ _ _ PySem.F.plainAttrs_list PySem.F.slot_list_append PySem.F.type_list_append bX (va dB 3) (Z1 (Zj (Z1 (Zb aN (va dB 5)) (Z1 (Z6 aZ z_tuple PyProof.Rows.boot_tuple (Z1 (cC ic (va dB 5) (cN ao) cV) aj)) (Z9 (va dB 4))))) aj) (by rfl) (by rfl) (by rfl) (by rfl) (by rfl)) (by rfl))))) (Zc (Zf (Z6 aZ z_tuple PyProof.Rows.boot_tuple (Z9 (va dB 3))))))),?_⟩
 try dsimp only[aU]
 try dsimp only[aU]
 have lus:=r.length
 rw[List.length_map]at lus
 refine fV ?_
 intro N1 N2 c1 c2
 fail "R"
 intro q hq
 have s1:=ah hq (.lst [])
 have h1:upd H q (.lst []) q=some (.lst []):=aa
 generalize upd H q (.lst [])=H1 at s1 h1⊢
 have g1:=(Go.refl sc).same s1
 have sq1:=sq.same s1
 have i0:LO K fe d wl xs q H ts 0 H1:=⟨[],[],g1,h1,.nil,rfl,fun a h=>nomatch h⟩
 fail "R"
 refine y9 (K:=K) (xs:=us) (fun i σ H2=>(∃y z,σ=[some (.ref fe),some (.ref d),some (.ref p),some (.ref q),y,z])/\LO K fe d wl xs q H ts i H2) ⟨⟨_,_,rfl⟩,i0⟩ ?_ ?_ ?_
 ·rintro i σ H2 hi ⟨_,⟨_,_,g2,_⟩⟩
  exact sq.kt g2.kt
 ·rintro i x σ H2 hx ⟨⟨y0,z0,rfl⟩,⟨arms,vs,g2,h2,r2,l2,o2⟩⟩
  obtain⟨t,ht,rx⟩:=r.get' hx
  rw[List.getElem?_map]at ht
  obtain⟨z,hz,rfl⟩:=Option.map_eq_some_iff.mp ht
  have hil:=(List.getElem?_eq_some_iff.mp hz).1
  have etk:ts.take (i+1)=ts.take i++[z]:=by rw[List.take_succ_eq_append_getElem hil,(List.getElem?_eq_some_iff.mp hz).2]
  have hf2:=g2.sc.ff
  refine gq ?_
  intro N3 c3
  fail "R"
  intro m H3 m0 m1 e3
  have g3:=g2.ext e3
  have nqf:q≠fe:=jz sc.ff hq
  have h3:=e3.1 _ _ nqf h2
  have r3:=r2.kt (e3.kt hf2)
  fail "R"
  refine fD (n:=(1+m).toNat) (fun i7 σ us5 H5=>(∃v,σ=[v,some (.ref fe),some (.ref d)])/\LP fe d wl xs H3 i7 us5 H5) ⟨⟨none,rfl⟩,⟨[],Go.refl g3.sc,rfl,rfl,fun y h=>nomatch h⟩⟩ (fun i7 σ us5 H5 _ h=>?_) (small (by omega)) ?_ ?_
  ·obtain⟨_,⟨ys,_,rfl,e,_⟩⟩:=h
   rw[List.length_map,e];exact Nat.le_refl _
  ·rintro i7 σ us5 H5 hi7 ⟨⟨v,rfl⟩,⟨ys,g5,rfl,l5,o5⟩⟩
   obtain⟨m5,h5d,_⟩:=g5.sc.sd
   have dw:=pe h5d
   have h5w:=g5.sc.lw
   have sq5:bB K H5 wl (xs.map V.str)\/bf K H5 wl (xs.map V.str):=.inl (bB.of h5w)
   have hf5:=g5.sc.ff
   have x1:=sc.x1
   have x2:=sc.x2
   have lm:(xs.map V.str).length=xs.length:=List.length_map _
   have ll:(((xs.map V.str).length:Nat):Int)<1073741824:=by omega
   fail "R"
   intro r5 H6 r50 r51 e6
   obtain⟨y,hy,oy⟩:=jZ r50 r51 sc.xo
   have g6:=g5.ext e6
   have sq6:bB K H6 wl (xs.map V.str):=bB.of g6.sc.lw
   fail "R"
   refine⟨ys++[y],g6,by rw[List.map_append];rfl,by rw[List.length_append,l5];rfl,fun u hu=>?_⟩
   rcases List.mem_append.mp hu with hu|hu
   ·exact o5 u hu
   ·rw[List.mem_singleton.mp hu];exact oy
  rintro σ us5 H5 ⟨_,⟨ys,g5,rfl,l5,o5⟩⟩ lw hlw
  obtain⟨nd5,nf5⟩:=g5.rG hlw
  have s6:=ah hlw (.lst (ys.map V.str))
  have h6:upd H5 lw (.lst (ys.map V.str)) lw=some (.lst (ys.map V.str)):=aa
  have nqd:q≠d:=(Go.rG (Go.refl sc) hq).1
  have h6q:=s6 _ _ (g5.get h3 nqd nqf)
  have g6:=g5.same s6
  have k6:Kt H3 (upd H5 lw (.lst (ys.map V.str))):=g5.kt.trans (Kt.same s6)
  generalize upd H5 lw (.lst (ys.map V.str))=H6 at s6 h6 h6q g6 k6⊢
  obtain⟨y1,yr,rfl⟩:∃a b,ys=a::b:=by
   cases ys with
   |nil=>exact absurd l5 (by show ¬0=(1+m).toNat;omega)
   |cons a b=>exact⟨a,b,rfl⟩
  have a0:cK ((y1::yr).map V.str) 0=some (.str y1):=iS _ _
  have ec:fH ((y1::yr).map V.str) (some 1) none=yr.map V.str:=fF _ _
  have l8:yr.length<=2:=by rw[List.length_cons]at l5;omega
  fail "R"
  rw[ec]
  intro p7 hp7
  have s7:=ah hp7 (.lst (yr.map V.str))
  have h7:bB K (upd H6 p7 (.lst (yr.map V.str))) p7 (yr.map V.str):=bB.of aa
  have h7q:=s7 _ _ h6q
  have g7:=g6.same s7
  have k7:=k6.trans (Kt.same s7)
  generalize upd H6 p7 (.lst (yr.map V.str))=H7 at s7 h7 h7q g7 k7⊢
  fail "R"
  refine .inl ⟨h7,fun p8 hp8=>?_⟩
  have s8:=ah hp8 (.tup (yr.map V.str))
  have r8:Rp K (upd H7 p8 (.tup (yr.map V.str))) (.t (yr.map T.s)) (.ref p8):=Rp.new (K:=K) hp8 (aX.strs yr)
  have h8q:=s8 _ _ h7q
  have g8:=g7.same s8
  have k8:=k7.trans (Kt.same s8)
  generalize upd H7 p8 (.tup (yr.map V.str))=H8 at s8 r8 h8q g8 k8⊢
  fail "R"
  intro p9 hp9
  have s9:=ah hp9 (.tup [.str y1,.ref p8,x])
  have h9q:=s9 _ _ h8q
  have g9:=(g3.trans g8).same s9
  have k9:=k8.trans (Kt.same s9)
  have rx9:=rx.kt ((g3.kt.trans k8))
  have r9:Rp K (upd H8 p9 (.tup [.str y1,.ref p8,x])) (jd (y1,yr) (enc z)) (.ref p9):=Rp.new (K:=K) hp9 (.cons .s (.cons r8 (.one rx9)))
  generalize upd H8 p9 (.tup [.str y1,.ref p8,x])=H9 at s9 h9q g9 k9 r9⊢
  have lv:=r2.length
  have lvs:vs.length<sizeLine:=kZ (by rw[lv,List.length_zipWith,List.length_map,List.length_take];omega)
  fail "R"
  have k10:Kt H9 (upd H9 q (.lst (vs++[.ref p9]))):=Kt.lst h9q _
  refine⟨arms++[(y1,yr)],_,g9.Fg sc hq h9q _,aa,?_,by rw[List.length_append,l2];rfl,fun a ha=>?_⟩
  ·rw[etk,List.map_append,List.zipWith_append (by rw[List.length_map,List.length_take];omega)]
   exact((r3.kt k9).kt k10).snoc (r9.kt k10)
  ·rcases List.mem_append.mp ha with ha|ha
   ·exact o2 a ha
   ·rw[List.mem_singleton.mp ha]
    exact⟨⟨o5 y1 (.head _),fun u hu=>o5 u (.tail _ hu)⟩,l8⟩
 ·rintro σ H2 ⟨⟨_,_,rfl⟩,⟨arms,vs,g2,h2,r2,l2,o2⟩⟩
  rw[show us.length=ts.length by omega,List.take_length]at r2
  have lv:=r2.length
  have lvs:vs.length<=sizeLine:=small (by rw[lv,List.length_zipWith,List.length_map];omega)
  fail "R"
  refine .inl ⟨bB.of h2,fun p7 hp7=>?_⟩
  exact k _ _ arms (g2.same (Zs hp7)) (Rp.new (K:=K) hp7 r2) (by omega) o2
end
end G09
namespace L2
open PySem
theorem G6{tt:TT}{ta tb:TS}{D:Ends}{σ:St}{H:Hp}(p:Prop)(ht:∀C:Bool->Hp->Prop,(p->C true H)->(¬p->C false H)->tt σ H C)(a:p->ta D σ H)(b:¬p->tb D σ H):Jp tt ta tb D σ H:=ht _ (fun h=>by rw[if_pos rfl];exact a h) (fun h=>by rw[if_neg Bool.false_ne_true];exact b h)
end L2
namespace G09
open PySem L2
section
variable {P:Program}{w:World}{K:PySem.W.Frag}{mg:Str->Option Value}{base:Heap}{gT gL gI gA:Addr}{tfd lfd ifd afd:FuncData}
theorem ai:Nm ["_law_feed_here","_law_scene","_law_room","_law_down","_law_form","_law_x","_law_y","_law_terms"] (ae dO):=by decide +kernel
theorem fh:Lm ["_law_feed_here","_law_scene","_law_room","_law_down","_law_form","_law_x","_law_y","_law_terms"] (ae dO):=by decide +kernel
theorem dY:aH ["_law_feed_here","_law_scene","_law_room","_law_down","_law_form","_law_x","_law_y","_law_terms"] ["_law_feed_here","_law_scene","_law_room","_law_down"] (ae dO):=⟨rfl,rfl,rfl,by decide +kernel,rfl,by decide +kernel,by decide +kernel⟩
theorem IZ{f:Addr}{fd:FuncData}{n j:Nat}(hj:3<=j)(F:eN K "_law_any_term" "_law_any_term" dO f fd)(TK:bE P w K mg base "_law_take" 1 ["_law_feed_here","_law_many"] iI gT tfd)(ALF:bE P w K mg base "_law_any_leaf" 3 ["_law_feed_here","_law_scene"] (yU K) gL lfd)(ANI:bE P w K mg base "_law_any_inner" j ["_law_feed_here","_law_scene","_law_many","_law_room","_law_down"] (G3 K n) gI ifd)(AAR:bE P w K mg base "_law_any_arms" 2 ["_law_feed_here","_law_scene","_law_terms"] (Ec K) gA afd)(z_len:mg "len"=none)(z_range:mg "range"=none) :
  bK P w K mg base d8 (j+1) f fd ["_law_feed_here","_law_scene","_law_room","_law_down"] (rH K (n+1)):=by
 refine F.ok dY (fun vs H Q E h=>?_) (fun cdv A outer s H vs Q E hr h=>?_)
 ·obtain⟨_,_,_,_,_,_,rfl,_⟩:=h
  rfl
 obtain⟨fe,d,wl,xs,room,down,rfl,sc,r1,r100,dn,d50,k⟩:=h
 refine⟨_,(Z4 (Z5 dY.nd fh 4 (Z0 TK (dP (va ai 0) (Z9 ao)))) (Z4 (Z8 (PW.pt (@iF _ _ _ _ _ _ _ (Zi ny (va ai 2) ao) (@iF _ _ _ _ _ _ _ (Zi ny (va ai 3) ao) (@f9 _ _ _ _ (Zi b9 (va ai 4) ao))))) (Zc (Zf (Z0 ALF (Z1 (va ai 0) (Z9 (va ai 1))))))) (Z4 (@oF _ _ _ _ _ _ (@fO _ _ _ _ _ _ _ _ _ _ _ (ae dO) ["_law_feed_here","_law_scene","_law_room","_law_down","_law_form","_law_x","_law_y","_law_terms"] ["_law_k"] [0,1] rfl rfl rfl (by decide +kernel) (oG (by show _=_;kernel_rfl) z_range (Z9 ao)) (fun _ _ _ _=>(Z2 (i:=0) (show(["_law_k","_law_feed_here","_law_scene"]:List Str).Nodup by decide +kernel))) (fun _ _ _ _=>eU) (fun _ _ _ _=>(Zp (vO K rfl) (ie (lQ hr) (va (show Nm ["_law_k","_law_feed_here","_law_scene"] _ by show _=_;kernel_rfl) 2) ak (fun _ _=>rfl)) (Z0 TK (Z1 (va (show Nm ["_law_k","_law_feed_here","_law_scene"] _ by show _=_;kernel_rfl) 1) (Z1 (Z3 (lW K rfl) z_len PySem.boot_len (Z1 (ie (lQ hr) (va (show Nm ["_law_k","_law_feed_here","_law_scene"] _ by show _=_;kernel_rfl) 2) ak (fun _ _=>rfl)) aj)) aj))))) (by intro _;rfl)) (@Fv _ _ _ _ _ (2) K rfl rfl (Zq (ga dY.nd fh 5) (bW (ga dY.nd fh 6) cM)) (by rfl) (by rfl)) (by rfl) (by rfl) (by rfl)) (Z4 (Z8 (Zi b9 (va ai 4) ao) (Zc (Zf (Zj (Z1 ak (Z1 (Z0 ANI (Z1 (va ai 0) (Z1 (va ai 1) (Z1 (Z0 TK (dP (va ai 0) (Z9 ao))) (Z1 (va ai 2) (Z9 (va ai 3))))))) aj)))))) (Z4 (Z8 (Zi ny (va ai 4) ao) (Zc (Zf (Zj (Z1 (Zp aN (@bq _ _ _ _ (dP ak (Z9 ak))) (cy jG (va ai 4) ao)) (Z1 (va ai 5) (Z1 (Z0 ANI (Z1 (va ai 0) (Z1 (va ai 1) (Z1 (Z0 TK (dP (va ai 0) (Z9 ao))) (Z1 (va ai 2) (Z9 (va ai 3))))))) aj))))))) (Z4 (Z8 (Zi b9 (va ai 4) ao) (Z4 (Z5 dY.nd fh 7 (Z0 ANI (Z1 (va ai 0) (Z1 (va ai 1) (Z1 (Zd fL ao (Z0 TK (dP (va ai 0) (Z9 ao)))) (Z1 (va ai 2) (Z9 (va ai 3)))))))) (Zc (Zf (Zj (Z1 ak (Z1 (Zb bH (va ai 7)) (Z1 (Z0 AAR (Z1 (va ai 0) (Z1 (va ai 1) (Z1 (cC tS (va ai 7) (cN ao) cV) aj)))) aj)))))))) (Z4 (Z8 (PW.pt (@iF _ _ _ _ _ _ _ (Zi b9 (va ai 4) ao) (@f9 _ _ _ _ (Zi ny (va ai 2) ao)))) (Zc (Zf (Zd eA (Zj (Z1 (Zp aN (@bq _ _ _ _ (Z1 ak (dP ak (Z9 ak)))) (Z0 TK (dP (va ai 0) (Z9 ao)))) aj)) (Z0 ANI (Z1 (va ai 0) (Z1 (va ai 1) (Z1 ao (Z1 (va ai 2) (Z9 (va ai 3))))))))))) (Z4 (Z8 (Zi b9 (va ai 4) ao) (Zc (Zf (Zd eA (Zj (Z1 ak (Z9 (va ai 5)))) (Z0 ANI (Z1 (va ai 0) (Z1 (va ai 1) (Z1 ao (Z1 (va ai 2) (Z9 (va ai 3))))))))))) (Z4 (Z8 (Zi b9 (va ai 4) ao) (Zc (Zf (Zd eA (qv (Z9 ak)) (Z0 ANI (Z1 (va ai 0) (Z1 (va ai 1) (Z1 ao (Z1 (va ai 2) (Z9 (va ai 3))))))))))) (Z4 (Z8 (Zi b9 (va ai 4) ao) (Z4 (Z5 dY.nd fh 7 (Z0 ANI (Z1 (va ai 0) (Z1 (va ai 1) (Z1 ao (Z1 (va ai 2) (Z9 (va ai 3)))))))) (Zc (Zf (Zj (Z1 ak (Z1 (Zb bH (va ai 7)) (Z1 (va ai 5) (Z1 (va ai 6) (Z1 (Zb bH (va ai 7)) (Z1 (Zb bH (va ai 7)) aj))))))))))) (Z4 (Z8 (Zi b9 (va ai 4) ao) (Zc (Zf (Zd eA (qv (Z9 ak)) (Z0 ANI (Z1 (va ai 0) (Z1 (va ai 1) (Z1 ao (Z1 (va ai 2) (Z9 (va ai 3))))))))))) (Zc (Zf (Zd eA (Zj (Z1 ak (Z1 (Zp tW ak (Z0 TK (dP (va ai 0) (Z9 ao)))) aj))) (Z0 ANI (Z1 (va ai 0) (Z1 (va ai 1) (Z1 ao (Z1 (va ai 2) (Z9 (va ai 3))))))))))))))))))))),?_⟩
 try dsimp only[aU]
 try dsimp only[aU]
 have hf:=sc.ff
 refine qN ?_
 intro N1 N2 N3 N4 N5 N6 N7 N8 c1 c2 c3 c4 c5 c6 c7 c8
 fail "R"
 intro q H1 q0 q12 e1
 have g1:=(Go.refl sc).ext e1
 have sc1:=g1.sc
 refine c1 _ _ ?_
 refine G6 (room<2\/down<1\/q=0) (fun C hA hB=>?_) (fun p1=>?_) (fun p1=>?_)
 ·fail "R"
  refine dG (fun c=>hA (.inl ?_)) (fun c=>?_)
  ·have:=of_decide_eq_true c
   omega
  have n1:¬room<2:=fun z=>c (decide_eq_true (by omega))
  fail "R"
  refine dG (fun c=>hA (.inr (.inl ?_))) (fun c=>?_)
  ·have:=of_decide_eq_true c
   omega
  have n2:¬down<1:=fun z=>c (decide_eq_true (by omega))
  fail "R"
  generalize hb:decide (V.int q=V.int 0)=b
  cases b with
  |true =>
   have e3:=of_decide_eq_true hb
   injection e3 with e3
   exact hA (.inr (.inr e3))
  |false =>
   refine hB fun z=>?_
   rcases z with z|z|z
   ·exact n1 z
   ·exact n2 z
   ·exact absurd (by rw[z]) (of_decide_eq_false hb)
 ·fail "R"
  intro v H2 h g2 r2 o2 w2
  exact k v H2 _ (g1.trans g2) r2 ⟨o2,.mk (Nat.zero_le _) w2 (fun _ hk=>nomatch hk),Nat.zero_le _,r1⟩
 ·have rm2:2<=room:=by omega
  have dn1:1<=down:=by omega
  have qn:q≠0:=fun z=>p1 (.inr (.inr z))
  fail "R"
  refine fD (n:=2) (fun i7 σ us5 H5=>(∃v,σ=[v,some (.ref fe),some (.ref d)])/\LP fe d wl xs H1 i7 us5 H5) ⟨⟨none,rfl⟩,⟨[],Go.refl sc1,rfl,rfl,fun y h=>nomatch h⟩⟩ (fun i7 σ us5 H5 _ h=>?_) (small (by omega)) ?_ ?_
  ·obtain⟨_,⟨ys,_,rfl,e,_⟩⟩:=h
   rw[List.length_map,e];exact Nat.le_refl _
  ·rintro i7 σ us5 H5 hi7 ⟨⟨v,rfl⟩,⟨ys,g5,rfl,l5,o5⟩⟩
   clear c1 c2 c3 c4 c5 c6 c7 c8
   obtain⟨m5,h5d,_⟩:=g5.sc.sd
   have dw:=pe h5d
   have h5w:=g5.sc.lw
   have sq5:bB K H5 wl (xs.map V.str)\/bf K H5 wl (xs.map V.str):=.inl (bB.of h5w)
   have hf5:=g5.sc.ff
   have x1:=sc.x1
   have x2:=sc.x2
   have lm:(xs.map V.str).length=xs.length:=List.length_map _
   have ll:(((xs.map V.str).length:Nat):Int)<1073741824:=by omega
   fail "R"
   intro r5 H6 r50 r51 e6
   obtain⟨y,hy,oy⟩:=jZ r50 r51 sc.xo
   have g6:=g5.ext e6
   have sq6:bB K H6 wl (xs.map V.str):=bB.of g6.sc.lw
   fail "R"
   refine⟨ys++[y],g6,by rw[List.map_append];rfl,by rw[List.length_append,l5];rfl,fun u hu=>?_⟩
   rcases List.mem_append.mp hu with hu|hu
   ·exact o5 u hu
   ·rw[List.mem_singleton.mp hu];exact oy
  rintro σ us5 H5 ⟨_,⟨ys,g5,rfl,l5,o5⟩⟩ lw hlw
  obtain⟨x,y,rfl⟩:=JW l5
  have ox:=o5 x (by simp)
  have oy:=o5 y (by simp)
  have s6:=ah hlw (.lst ([x,y].map V.str))
  have h6:bB K (upd H5 lw (.lst ([x,y].map V.str))) lw [.str x,.str y]:=bB.of aa
  have g6:=(g1.trans g5).same s6
  generalize upd H5 lw (.lst ([x,y].map V.str))=H6 at s6 h6 g6⊢
  clear g5 s6 hlw p1 sc1 e1 g1
  have hf6:=g6.sc.ff
  have sc6:=g6.sc
  have fin:∀{v:V}{Hf:Hp}(h:Hd) (ts:List Tm),Rp K Hf (vY h (ts.map enc)) v->CK h ts.length=true->Dl h->Jf h->ts.length<=5->(∀t∈ts,cX t/\Nw t/\t.depth<=down-1)->Tm.sizes ts+1<=room->Go fe d wl xs H Hf->Q v Hf:=fun{v Hf} h ts rp ar ho hw l5 g z go=>by
   refine k v Hf (.mk h ts) go (by rw[cS];exact rp) ⟨.mk ar ho fun t ht=>(g t ht).1,.mk l5 hw fun t ht=>(g t ht).2.1,?_,by rw[Tm.uo];exact z⟩
   have:=Tm.CL (h:=h) fun t ht=>(g t ht).2.2
   omega
  have dnn:down<=n:=by omega
  fail "R"
  refine dG (fun c=>?_) (fun c=>?_)
  ·clear c4 c5 c6 c7 c8
   fail "R"
   intro r7 H7 r70 r71 e7
   obtain⟨m7,rfl⟩:=Int.eq_ofNat_of_zero_le r70
   have g7:=g6.ext e7
   have sc7:=g7.sc
   have m75:m7<=5:=by omega
   fail "R"
   intro p8 us8 H8 ts g8 sq8 r8 l8 o8 z8
   have rt8:Rp K H8 (.t (ts.map enc)) (.ref p8):=.t sq8 r8
   fail "R"
   intro p9 hp9
   exact fin .row ts (Rp.new (K:=K) hp9 (.cons .s (.one rt8))) rfl True.intro True.intro (by omega) o8 z8 ((g7.trans g8).same (Zs hp9))
  have q1:q≠1:=fun z=>c (decide_eq_true (by rw[z]))
  clear c
  fail "R"
  refine dG (fun c=>?_) (fun c=>?_)
  ·have c4':q<4:=of_decide_eq_true c
   clear c4 c5 c6 c7 c8
   fail "R"
   intro l7 hl7
   have s7:=ah hl7 (.lst [.str "tag",.str "call"])
   have h7:bB K (upd H6 l7 (.lst [.str "tag",.str "call"])) l7 [.str "tag",.str "call"]:=bB.of aa
   have g7:=g6.same s7
   generalize upd H6 l7 (.lst [.str "tag",.str "call"])=H7 at s7 h7 g7⊢
   have hf7:=g7.sc.ff
   have key:∀hd:Hd,hd=.tag x\/hd=.call x->(∀ks:List T,∃z:Str,vY hd ks=.t [.s z,.s x,.t ks])->True:=fun _ _ _=>True.intro
   have hq:q=2\/q=3:=by omega
   rcases hq with rfl|rfl
   ·have a0:cK [V.str "tag",.str "call"] (2-2)=some (.str "tag"):=iS _ _
    fail "R"
    intro r8 H8 r80 r81 e8
    obtain⟨m8,rfl⟩:=Int.eq_ofNat_of_zero_le r80
    have g8:=g7.ext e8
    have sc8:=g8.sc
    have m85:m8<=5:=by omega
    fail "R"
    intro p9 us9 H9 ts g9 sq9 r9 l9 o9 z9
    have rt9:Rp K H9 (.t (ts.map enc)) (.ref p9):=.t sq9 r9
    fail "R"
    intro p10 hp10
    exact fin (.tag x) ts (Rp.new (K:=K) hp10 (.cons .s (.cons .s (.one rt9)))) rfl ox True.intro (by omega) o9 z9 ((g8.trans g9).same (Zs hp10))
   ·have a0:cK [V.str "tag",.str "call"] (3-2)=some (.str "call"):=bh (j:=1) rfl
    fail "R"
    intro r8 H8 r80 r81 e8
    obtain⟨m8,rfl⟩:=Int.eq_ofNat_of_zero_le r80
    have g8:=g7.ext e8
    have sc8:=g8.sc
    have m85:m8<=5:=by omega
    fail "R"
    intro p9 us9 H9 ts g9 sq9 r9 l9 o9 z9
    have rt9:Rp K H9 (.t (ts.map enc)) (.ref p9):=.t sq9 r9
    fail "R"
    intro p10 hp10
    exact fin (.call x) ts (Rp.new (K:=K) hp10 (.cons .s (.cons .s (.one rt9)))) rfl ox True.intro (by omega) o9 z9 ((g8.trans g9).same (Zs hp10))
  have q4:¬q<4:=fun z=>c (decide_eq_true z)
  clear c
  fail "R"
  refine dG (fun c=>?_) (fun c=>?_)
  ·clear c6 c7 c8
   fail "R"
   intro r7 H7 r70 r71 e7
   obtain⟨m7,rfl⟩:=Int.eq_ofNat_of_zero_le r70
   have g7:=g6.ext e7
   have sc7:=g7.sc
   have m75:1+m7<=5:=by omega
   have em:(1:Int)+(m7:Int)=((1+m7:Nat):Int):=by omega
   fail "R"
   intro p8 us8 H8 ts g8 sq8 r8 l8 o8 z8
   obtain⟨t0,tr,rfl⟩:∃a b,ts=a::b:=by
    cases ts with
    |nil=>have:(0:Nat)=min (1+m7) (room-1):=l8;omega
    |cons a b=>exact⟨a,b,rfl⟩
   obtain⟨u0,ur,rfl,ru0,rur⟩:=L2.aX.inv (show aX K H8 (enc t0::tr.map enc) us8 from r8)
   have a0:cK (u0::ur) 0=some u0:=iS _ _
   have ec:fH (u0::ur) (some 1) none=ur:=fF _ _
   have cn:=gr (u0::ur) 1 (Nat.le_refl _) (by simp)
   have g8':=g7.trans g8
   have sc8:=g8.sc
   have lt5:tr.length<=5:=by
    have h1:=Nat.min_le_left (1+m7) (room-1)
    rw[←l8,List.length_cons]at h1
    exact Nat.le_trans (Nat.le_of_succ_le h1) m75
   fail "R"
   rw[ec]
   intro p9 hp9
   have s9:=ah hp9 (.tup ur)
   have h9:bf K (upd H8 p9 (.tup ur)) p9 ur:=bf.of aa
   have r9:=rur.same s9
   have u9:=ru0.same s9
   have g9:=g8'.same s9
   generalize upd H8 p9 (.tup ur)=H9 at s9 h9 r9 u9 g9⊢
   have sc9:=g9.sc
   fail "R"
   intro v10 H10 arms g10 r10 l10 o10
   have u10:=u9.kt g10.kt
   fail "R"
   intro p11 hp11
   have s11:=ah hp11 (.tup [.str "match",u0,v10])
   refine fin (.mat arms) (t0::tr) (Rp.new (K:=K) hp11 (.cons .s (.cons u10 (.one r10)))) ?_ (fun a ha=>(o10 a ha).1) (fun a ha=>(o10 a ha).2) ?_ o8 z8 ((g9.trans g10).same s11)
   ·show((t0::tr).length == arms.length+1)=true
    rw[l10,List.length_cons]
    exact beq_self_eq_true _
   ·rw[l8]
    exact Nat.le_trans (Nat.min_le_left _ _) m75
  have q5:q≠4:=fun z=>c (decide_eq_true (by rw[z]))
  clear c
  refine c6 _ _ ?_
  clear c6
  refine G6 (q=5\/room<4) (fun C hA hB=>?_) (fun p1=>?_) (fun p1=>?_)
  ·fail "R"
   refine dG (fun c=>hA (.inl (by injection(of_decide_eq_true c)))) (fun c=>?_)
   fail "R"
   generalize hb:decide ((room:Int)<4)=b
   cases b with
   |true=>exact hA (.inr (by have:=of_decide_eq_true hb;omega))
   |false =>
    refine hB fun z=>?_
    rcases z with z|z
    ·exact c (decide_eq_true (by rw[z]))
    ·exact absurd (by omega) (of_decide_eq_false hb)
  ·clear c7 c8
   fail "R"
   intro l7 hl7
   have s7:=ah hl7 (.lst [.str "first",.str "others",.str "long"])
   have h7:upd H6 l7 (.lst [.str "first",.str "others",.str "long"]) l7=some (.lst [.str "first",.str "others",.str "long"]):=aa
   have g7:=g6.same s7
   have nlf:=(g6.rG hl7).2
   generalize upd H6 l7 (.lst [.str "first",.str "others",.str "long"])=H7 at s7 h7 g7⊢
   have hf7:=g7.sc.ff
   fail "R"
   intro r8 H8 r80 r81 e8
   have h8:bB K H8 l7 [.str "first",.str "others",.str "long"]:=bB.of (e8.1 _ _ nlf h7)
   have g8:=g7.ext e8
   obtain⟨hd,z,hz,eh,har,ho,hw⟩:∃(hd:Hd) (z:Str),cK [V.str "first",.str "others",.str "long"] r8=some (.str z)/\(∀ks:List T,vY hd ks=.t (.s z::ks))/\CK hd 1=true/\Dl hd/\Jf hd:=by
    have:r8=0\/r8=1\/r8=2:=by omega
    rcases this with rfl|rfl|rfl
    ·exact⟨.first,"first",iS _ _,fun _=>rfl,rfl,True.intro,True.intro⟩
    ·exact⟨.others,"others",bh (j:=1) rfl,fun _=>rfl,rfl,True.intro,True.intro⟩
    ·exact⟨.long,"long",bh (j:=2) rfl,fun _=>rfl,rfl,True.intro,True.intro⟩
   fail "R"
   intro p9 hp9
   have s9:=ah hp9 (.tup [.str z])
   have h9:bf K (upd H8 p9 (.tup [.str z])) p9 [.str z]:=bf.of aa
   have g9:=g8.same s9
   generalize upd H8 p9 (.tup [.str z])=H9 at s9 h9 g9⊢
   have sc9:=g9.sc
   fail "R"
   intro p10 us10 H10 ts g10 sq10 r10 l10 o10 z10
   have l10':ts.length=min 1 (room-1):=l10
   have l11:ts.length=1:=by omega
   have k10:=g10.kt
   have h10:=h9.kt k10
   have lus:=r10.length
   rw[List.length_map]at lus
   have lc:([V.str z]:List V).length+us10.length<=sizeLine:=small (by show 1+_<=_;omega)
   fail "R"
   intro p11 H11 s11 sq11
   refine fin hd ts ?_ (by rw[l11];exact har) ho hw (by omega) o10 z10 ((g9.trans g10).same s11)
   rw[eh]
   exact .t sq11 (.cons .s (r10.same s11))
  have rm4:4<=room:=by omega
  have q6:q≠5:=fun z=>p1 (.inl z)
  clear p1
  have cat:∀{Hf H7:Hp}{a p:Addr}{ws us:List V}{zs:List T}{ts:List Tm}(h:Hd) (m:Nat),m<=3->Go fe d wl xs H Hf->bf K Hf a ws->aX K Hf zs ws->ws.length<=5->Go fe d wl xs Hf H7->bf K H7 p us->aX K H7 (ts.map enc) us->ts.length=min m (room-1)->(∀t∈ts,cX t/\Nw t/\t.depth<=down-1)->Tm.sizes ts+1<=room->(∀ks:List T,vY h ks=.t (zs++ks))->CK h m=true->Dl h->Jf h->DW K (.ref a) (.ref p) H7 Q:=by
   intro Hf H7 a p ws us zs ts h m m3 gf sqa rz lw g7 sqp rt lt ot zt eh ar ho hw
   have lus:=rt.length
   rw[List.length_map]at lus
   refine⟨a,p,ws,us,rfl,rfl,sqa.kt g7.kt,sqp,small (by omega),fun p8 H8 s8 sq8=>?_⟩
   have e:ts.length=m:=by omega
   refine fin h ts ?_ (by rw[e];exact ar) ho hw (by omega) ot zt ((gf.trans g7).same s8)
   rw[eh]
   exact .t sq8 (((rz.kt g7.kt).same s8).append (rt.same s8))
  refine c7 _ _ ?_
  clear c7
  fail "R"
  refine dG (fun c=>?_) (fun c=>?_)
  ·fail "R"
   intro p7 hp7
   have s7:=ah hp7 (.tup [.str "let",.str x])
   have h7:bf K (upd H6 p7 (.tup [.str "let",.str x])) p7 [.str "let",.str x]:=bf.of aa
   have g7:=g6.same s7
   generalize upd H6 p7 (.tup [.str "let",.str x])=H7 at s7 h7 g7⊢
   have sc7:=g7.sc
   have m2:(2:Nat)<=5:=by decide
   fail "R"
   intro p8 us8 H8 ts g8 sq8 r8 l8 o8 z8
   exact cat (.lt x) 2 (by decide) g7 h7 (zs:=[.s "let",.s x]) (.cons .s (.one .s)) (by show 2<=5;decide) g8 sq8 r8 l8 o8 z8 (fun _=>rfl) rfl ox True.intro
  refine c8 _ _ ?_
  clear c8
  refine dR ?_
  intro M1 M2 M3 d1 d2 d3
  fail "R"
  refine dG (fun c=>?_) (fun c=>?_)
  ·fail "R"
   intro p7 hp7
   have s7:=ah hp7 (.tup [.str "if"])
   have h7:bf K (upd H6 p7 (.tup [.str "if"])) p7 [.str "if"]:=bf.of aa
   have g7:=g6.same s7
   generalize upd H6 p7 (.tup [.str "if"])=H7 at s7 h7 g7⊢
   have sc7:=g7.sc
   have m2:(3:Nat)<=5:=by decide
   fail "R"
   intro p8 us8 H8 ts g8 sq8 r8 l8 o8 z8
   exact cat (.ife) 3 (by decide) g7 h7 (zs:=[.s "if"]) (.one .s) (by show 1<=5;decide) g8 sq8 r8 l8 o8 z8 (fun _=>rfl) rfl True.intro True.intro
  refine d1 _ _ ?_
  clear d1
  fail "R"
  refine dG (fun c=>?_) (fun c=>?_)
  ·have m3:(3:Nat)<=5:=by decide
   clear d2 d3
   fail "R"
   intro p8 us8 H8 ts g8 sq8 r8 l8 o8 z8
   have l8':ts.length=min 3 (room-1):=l8
   obtain⟨t1,t2,t3,rfl⟩:=GI (show ts.length=3 by omega)
   obtain⟨u1,w1,rfl,ru1,r9⟩:=L2.aX.inv (show aX K H8 (enc t1::[t2,t3].map enc) us8 from r8)
   obtain⟨u2,w2,rfl,ru2,r9⟩:=L2.aX.inv (show aX K H8 (enc t2::[t3].map enc) w1 from r9)
   obtain⟨u3,w3,rfl,ru3,r9⟩:=L2.aX.inv (show aX K H8 (enc t3::[].map enc) w2 from r9)
   obtain rfl:=L2.aX.nL r9
   have a0:cK [u1,u2,u3] 0=some u1:=iS _ _
   have a1:cK [u1,u2,u3] 1=some u2:=bh (j:=1) rfl
   have a2:cK [u1,u2,u3] 2=some u3:=bh (j:=2) rfl
   fail "R"
   intro p9 hp9
   exact fin (.fold x y) [t1,t2,t3] (Rp.new (K:=K) hp9 (.cons .s (.cons ru1 (.cons .s (.cons .s (.cons ru2 (.one ru3))))))) rfl ⟨ox,oy⟩ True.intro (by show 3<=5;decide) o8 z8 ((g6.trans g8).same (Zs hp9))
  refine d2 _ _ ?_
  clear d2
  fail "R"
  refine dG (fun c=>?_) (fun c=>?_)
  ·fail "R"
   intro p7 hp7
   have s7:=ah hp7 (.tup [.str "more"])
   have h7:bf K (upd H6 p7 (.tup [.str "more"])) p7 [.str "more"]:=bf.of aa
   have g7:=g6.same s7
   generalize upd H6 p7 (.tup [.str "more"])=H7 at s7 h7 g7⊢
   have sc7:=g7.sc
   have m2:(2:Nat)<=5:=by decide
   fail "R"
   intro p8 us8 H8 ts g8 sq8 r8 l8 o8 z8
   exact cat (.more) 2 (by decide) g7 h7 (zs:=[.s "more"]) (.one .s) (by show 1<=5;decide) g8 sq8 r8 l8 o8 z8 (fun _=>rfl) rfl True.intro True.intro
  refine d3 _ _ ?_
  clear d3
  fail "R"
  intro r7 H7 r70 r71 e7
  obtain⟨c,hc1,hc2⟩:=atS (z:="+-*:<=") r70 (by rw[show((("+-*:<=":Str).length:Nat):Int)=6 by decide +kernel];exact r71)
  have oc:(⟨#[c]⟩:Str)∈f7:=HZ c hc2
  have g7:=g6.ext e7
  have lz:("+-*:<=":Str).length<=sizeLine:=small (by decide +kernel)
  fail "R"
  intro p8 hp8
  have s8:=ah hp8 (.tup [.str "op",.str ⟨#[c]⟩])
  have h8:bf K (upd H7 p8 (.tup [.str "op",.str ⟨#[c]⟩])) p8 [.str "op",.str ⟨#[c]⟩]:=bf.of aa
  have g8:=g7.same s8
  generalize upd H7 p8 (.tup [.str "op",.str ⟨#[c]⟩])=H8 at s8 h8 g8⊢
  have sc8:=g8.sc
  have m2:(2:Nat)<=5:=by decide
  fail "R"
  intro p9 us9 H9 ts g9 sq9 r9 l9 o9 z9
  exact cat (.op ⟨#[c]⟩) 2 (by decide) g8 h8 (zs:=[.s "op",.s ⟨#[c]⟩]) (.cons .s (.one .s)) (by show 2<=5;decide) g9 sq9 r9 l9 o9 z9 (fun _=>rfl) rfl oc True.intro
end
noncomputable def Ay:Sp:=fun vs H Q _=>vs=[]/\∀(p:Addr) (H':Hp),aL H H'->H' p=some (.lst pB)->Q (.ref p) H'
noncomputable def Ed:Sp:=fun vs H Q _=>∃f:Addr,vs=[.ref f]/\di H f/\∀(x:Str) (H':Hp),Ext f H H'->bx x->Q (.str x) H'
@[irreducible] noncomputable def Ga:List Expr:=match eF fS with
 |.Assign _ (.List es _) _::_=>es
 |_=>[]
@[irreducible] noncomputable def Gb:List Expr:=match eF fS with
 | [_,.Return (some (.BinOp _ _ (.List es _) _)) _]=>es
 |_=>[]
@[irreducible] noncomputable def posK (i:Nat):Pos:=match eF fS with
 | [.Assign [.Name _ a] (.List _ b) c,.Return (some (.BinOp (.Name _ e) _ (.List _ f) g)) h]=>[a,b,c,e,f,g,h].getD i a
 |_=>⟨0,0,0,0⟩
noncomputable def G7:List Str:=["num","row","kind","def","more","first","others","long","match","if","let","fold","call"]
noncomputable def G8:List Str:=["gap","in","world","fault","left"]
theorem BI:eF fS=[.Assign [.Name "_law_kept_here" (posK 0)] (.List Ga (posK 1)) (posK 2),.Return (some (.BinOp (.Name "_law_kept_here" (posK 3)) .Add (.List Gb (posK 4)) (posK 5))) (posK 6)]:=by unfold Ga Gb posK;kernel_rfl
theorem Mi:strsOf Ga=some G7:=by unfold Ga;kernel_rfl
theorem Mj:strsOf Gb=some G8:=by unfold Gb;kernel_rfl
theorem Ef:G7.map V.str++G8.map V.str=pB:=rfl
theorem Lv:∀x∈jm,x.cps.toList.getLast?≠some 122:=by decide +kernel
theorem Ge{x:Str}(h:¬nh (.str x) pB=true):x∉jm:=fun hx=>h (by
 unfold nh
 rw[List.any_eq_true]
 exact⟨.str x,List.mem_map_of_mem hx,show(x == x)=true from beq_self_eq_true x⟩)
theorem Eg:∀c∈("abcdefghijklmnopqrstuvwxyz":Str).cps.toList,low c:=by
 rw[show("abcdefghijklmnopqrstuvwxyz":Str).cps.toList=(List.range 26).map (·+97) by decide +kernel]
 intro c h
 obtain⟨i,hi,rfl⟩:=List.mem_map.mp h
 have:=List.mem_range.mp hi
 unfold low
 omega
theorem G9{l:List Nat}(h1:1<=l.length)(h2:l.length<=6)(h3:∀a∈l,low a)(h4:au l∉jm):bx (au l) :=
 ⟨by rw[aI];exact h1,by rw[aI];exact h2,by rw[aA];exact h3,h4⟩
theorem xK{f:Addr}{H:Hp}{l:Addr}(hf:di H f)(h:H l=none):l≠f:=fun z=>by
 obtain⟨p,q,e⟩:=hf
 rw[←z,h]at e
 cases e
section
variable {P:Program}{w:World}{K:PySem.W.Frag}{mg:Str->Option Value}{base:Heap}{gT gK:Addr}{tfd kfd:FuncData}
theorem BJ:Nm ["_law_kept_here"] (ae fS):=by decide +kernel
theorem BK:Lm ["_law_kept_here"] (ae fS):=by decide +kernel
theorem tK:aH ["_law_kept_here"] [] (ae fS):=⟨rfl,rfl,rfl,by decide +kernel,rfl,by decide +kernel,by decide +kernel⟩
theorem Gf{f:Addr}{fd:FuncData}(F:eN K "_law_kept" "_law_kept" fS f fd):bK P w K mg base d8 1 f fd [] Ay:=by
 refine F.ok tK (fun vs H Q E h=>?_) (fun cdv A outer s H vs Q E hr h=>?_)
 ·obtain⟨rfl,_⟩:=h
  rfl
 obtain⟨rfl,k⟩:=h
 rw[BI]
 refine⟨_,cJ (sa tK.nd BK 0 (bq (zy Mi))) (aV (b7 (cy eR (va BJ 0) (bq (zy Mj))))),?_⟩
 refine⟨(by show 13<=sizeLine;decide),fun l hl=>?_⟩
 refine⟨_,rfl,(by show 5<=sizeLine;decide),fun l2 hl2=>?_⟩
 refine⟨l,l2,_,_,rfl,rfl,ah hl2 _ _ _ aa,aa,(by show 18<=sizeLine;decide),fun p hp=>?_⟩
 refine k p _ ((Zs hl).trans ((Zs hl2).trans (Zs hp))) ?_
 rw[aa,Ef]
theorem lK:Nm ["_law_feed_here","_law_word_here"] (ae jx):=by decide +kernel
theorem BL:Lm ["_law_feed_here","_law_word_here"] (ae jx):=by decide +kernel
theorem tL:aH ["_law_feed_here","_law_word_here"] ["_law_feed_here"] (ae jx):=⟨rfl,rfl,rfl,by decide +kernel,rfl,by decide +kernel,by decide +kernel⟩
theorem Gg{f:Addr}{fd:FuncData}(F:eN K "_law_word" "_law_word" jx f fd)(TK:bE P w K mg base "_law_take" 1 ["_law_feed_here","_law_many"] iI gT tfd)(KP:bE P w K mg base "_law_kept" 1 [] Ay gK kfd)(z_range:mg "range"=none):bK P w K mg base d8 2 f fd ["_law_feed_here"] Ed:=by
 refine F.ok tL (fun vs H Q E h=>?_) (fun cdv A outer s H vs Q E hr h=>?_)
 ·obtain⟨_,rfl,_⟩:=h
  rfl
 obtain⟨r,rfl,hf,k⟩:=h
 refine⟨_,(Z4 (Z5 tL.nd BL 1 (@cz _ _ _ _ _ _ _ _ _ _ _ _ PySem.F.plainAttrs_str PySem.F.slot_str_join PySem.F.type_str_join iW ak (Z1 (@fO _ _ _ _ _ _ _ _ _ _ _ (ae jx) ["_law_feed_here","_law_word_here"] ["_law_k"] [0] rfl rfl rfl (by decide +kernel) (Zn (Z1 (Zd fL ao (Z0 TK (dP (va lK 0) (Z9 ao)))) aj)) (fun _ _ _ _=>(Z2 (i:=0) (show(["_law_k","_law_feed_here"]:List Str).Nodup by decide +kernel))) (fun _ _ _ _=>eU) (fun _ _ _ _=>(Zp tW ak (Z0 TK (dP (va (show Nm ["_law_k","_law_feed_here"] _ by show _=_;kernel_rfl) 1) (Z9 ao))))) (by intro _;rfl)) aj) (by kernel_rfl) (by kernel_rfl) (by kernel_rfl) (by kernel_rfl) (by kernel_rfl))) (Z4 (Z8 (fN iB (va lK 1) (Cc KP.ok (hr.mono (by omega)) (by show _=_;kernel_rfl) KP.at' KP.kp KP.bd .nil qy) (by with_unfolding_all rfl)) (Zc (Zf (Zd bN (@cC _ _ _ _ _ _ _ _ _ _ ud (va lK 1) cV (cN (pg kj ao))) ak)))) (Zc (b7 (va lK 1))))),?_⟩
 try dsimp only[aU]
 try dsimp only[aU]
 refine fV ?_
 intro N1 N2 c1 c2
 fail "R"
 intro q H2 q0 q6 e2
 fail "R"
 refine fD (n:=(1+q).toNat) (fun i σ vs Hc=>(∃v,σ=[v,some (.ref r)])/\Ext r H2 Hc/\∃cs:List Nat,vs=(cs.map fun c=>(⟨#[c]⟩:Str)).map V.str/\cs.length=i/\∀c∈cs,low c)
  ⟨⟨none,rfl⟩,Ext.refl e2.2,[],rfl,rfl,fun _ h=>nomatch h⟩ (fun i σ vs Hc _ ⟨_,_,cs,e,el,_⟩=>by rw[e,List.length_map,List.length_map];omega) (small (by omega)) ?_ ?_
 ·rintro i' σ vs Hc hi' ⟨⟨v,rfl⟩,ext,cs,rfl,hcl,hlo⟩
  refine⟨_,rfl,r,26,rfl,by decide,by decide,ext.2,fun d H3 d0 d1 ext2=>?_⟩
  obtain⟨c,hc1,hc2⟩:=atS (z:="abcdefghijklmnopqrstuvwxyz") d0 d1
  refine⟨_,d,c,rfl,rfl,(by decide +kernel),hc1,?_⟩
  exact⟨⟨_,rfl⟩,ext.trans ext2,cs++[c],by rw[List.map_append,List.map_append];rfl,by rw[List.length_append,hcl];rfl,fun c' h=>by rcases List.mem_append.mp h with h|h;exact hlo c' h;rw[List.mem_singleton.mp h];exact Eg c hc2⟩
 rintro σ vs Hc ⟨⟨v,rfl⟩,ext,cs,rfl,hcl,hlo⟩ p hp
 refine⟨_,p,_,rfl,rfl,bB.of aa,?_,?_⟩
 ·have z:(Str.ofString "").length=0:=by decide
  rw[CA,z]
  omega
 rw[E1]
 have kp1:Ext r H (upd Hc p (.lst ((cs.map fun c=>(⟨#[c]⟩:Str)).map V.str))):=(e2.trans ext).new hp _
 generalize upd Hc p (.lst ((cs.map fun c=>(⟨#[c]⟩:Str)).map V.str))=H4 at kp1⊢
 have ecs:(⟨cs.toArray⟩:Str)=au cs:=rfl
 rw[ecs]
 have lx:(au cs).length<=sizeLine:=small (by rw[aI];omega)
 have hfl:=sQ
 fail "R"
 intro pk H5 s5 h5
 have kp5:=kp1.same s5
 have sq5:bB K H5 pk pB:=bB.of h5
 fail "R"
 have hne:cs≠[]:=fun z=>by rw[z]at hcl;have:(0:Nat)=(1+q).toNat:=hcl;omega
 have es:=qU hne
 refine dG (fun c=>?_) (fun c=>?_)
 ·have hld:cs.dropLast.length=cs.length-1:=List.length_dropLast
  have l1:(Txt.slice (au cs) none (some (-1))).length+("z":Str).length<=sizeLine:=small (by rw[es,aI];show cs.dropLast.length+1<=1000;omega)
  fail "R"
  have ez:au cs.dropLast++("z":Str)=au (cs.dropLast++[122]):=by
   show au cs.dropLast++au [122]=_
   rw[bZ]
  show Q (.str (Txt.slice (au cs) none (some (-1))++("z":Str))) H5
  rw[es,ez]
  refine k _ _ kp5 (G9 (by rw[List.length_append];show 1<=cs.dropLast.length+1;omega) (by rw[List.length_append];show cs.dropLast.length+1<=6;omega) (fun a ha=>?_) (fun hm=>?_))
  ·rcases List.mem_append.mp ha with h|h
   ·exact hlo a (List.dropLast_subset cs h)
   ·rw[List.mem_singleton.mp h];exact⟨by decide,by decide⟩
  ·exact Lv _ hm (by rw[aA];simp)
 ·fail "R"
  exact k _ _ kp5 (G9 (by omega) (by omega) hlo (Ge c))
end
noncomputable def vm(K:PySem.W.Frag):Sp:=fun vs H Q _=>∃(f l:Addr) (so:Int) (xs:List Str),vs=[.ref f,.ref l,.int so]/\(so=2\/so=3)/\di H f/\H l=some (.lst (xs.map V.str))/\1<=xs.length/\xs.length<=100/\(∀x∈xs,bx x) /\
 ∀(v:V) (H':Hp) (c:Cr) (d:Nat),Ext f H H'->Rp K H' (kT c d) v->c.ok->d<=5->(so=2->c.cl=true)->Q v H'
theorem Kf{H:Hp}{f l:Addr}{xs:List Str}(hf:di H f)(hl:H l=some (.lst (xs.map V.str))):l≠f:=fun z=>by
 obtain⟨p,q,e⟩:=hf
 rw[←z,hl]at e
 injection e with e
 injection e with e
 cases xs with
 |nil=>cases e
 |cons x r=>cases e
section
variable {P:Program}{w:World}{K:PySem.W.Frag}{mg:Str->Option Value}{base:Heap}{gT:Addr}{tfd:FuncData}
theorem bD:Nm ["_law_feed_here","_law_words","_law_sorts","_law_form","_law_kind","_law_k"] (ae fT):=by decide +kernel
theorem dZ:Lm ["_law_feed_here","_law_words","_law_sorts","_law_form","_law_kind","_law_k"] (ae fT):=by decide +kernel
theorem dD:aH ["_law_feed_here","_law_words","_law_sorts","_law_form","_law_kind","_law_k"] ["_law_feed_here","_law_words","_law_sorts"] (ae fT):=⟨rfl,rfl,rfl,by decide +kernel,rfl,by decide +kernel,by decide +kernel⟩
theorem Gh{f:Addr}{fd:FuncData}(F:eN K "_law_any_kind" "_law_any_kind" fT f fd)(TK:bE P w K mg base "_law_take" 1 ["_law_feed_here","_law_many"] iI gT tfd)(z_range:mg "range"=none)(z_len:mg "len"=none):bK P w K mg base d8 2 f fd ["_law_feed_here","_law_words","_law_sorts"] (vm K):=by
 refine F.ok dD (fun vs H Q E h=>?_) (fun cdv A outer s H vs Q E hr h=>?_)
 ·obtain⟨_,_,_,_,rfl,_⟩:=h
  rfl
 obtain⟨fe,l,so,xs,rfl,hso,hf,hl,xl1,xl2,hxs,k⟩:=h
 refine⟨_,(Z4 (Z5 dD.nd dZ 3 (Z0 TK (Z1 (va bD 0) (Z9 (va bD 2))))) (Z4 (sa dD.nd dZ 4 ak) (Z4 (Z8 (Zi b9 (va bD 3) ao) (Zc (Z5 dD.nd dZ 4 (Zj (Z1 ak (Z1 (Zp aN (va bD 1) (Z0 TK (Z1 (va bD 0) (Z1 (Z3 aY z_len PySem.boot_len (Z9 (va bD 1))) aj)))) aj)))))) (Z4 (Z8 (Zi sy (va bD 3) ao) (Zc (Z5 dD.nd dZ 4 (Zj (Z1 (Zp aN (@bq _ _ _ _ (dP ak (Z9 ak))) (cy jG (va bD 3) ao)) (Z1 (Zp aN (@bq _ _ _ _ (Z1 (Z0 TK (dP (va bD 0) (Z9 ao))) (Z1 (Z0 TK (dP (va bD 0) (Z9 ao))) aj))) (Z0 TK (dP (va bD 0) (Z9 ao)))) aj)))))) (Z4 (Zl (Zn (Z1 (Z0 TK (dP (va bD 0) (Z9 ao))) aj)) (ga dD.nd dZ 5) (Zc (Z5 dD.nd dZ 4 (Zj (Z1 ak (Z9 (va bD 4))))))) (Zc (b7 (va bD 4)))))))),?_⟩
 try dsimp only[aU]
 try dsimp only[aU]
 have nlf:l≠fe:=Kf hf hl
 have hlp:(0:Int)<((xs.map V.str).length:Int):=by rw[List.length_map];omega
 have hlq:(xs.map V.str).length<=1000:=by rw[List.length_map];omega
 refine nP ?_
 intro N1 N2 N3 N4 N5 c1 c2 c3 c4 c5
 fail "R"
 intro fm H1 f0 f4 e1
 have hf1:=e1.2
 have hl1:=e1.1 _ _ nlf hl
 have rest:∀(v:V) (H3:Hp) (c:Cr),Ext fe H H3->Rp K H3 (CI c) v->c.ok->(so=2->c.cl=true)->N4 [some (.ref fe),some (.ref l),some (.int so),some (.int fm),some v,none] H3:=fun v H3 c e3 r3 hc hcl=>by
  have hf3:=e3.2
  clear c1 c2 c3
  fail "R"
  intro m H4 m0 m6 e4
  fail "R"
  refine iA (fun i σ H5=>∃v5 y,σ=[some (.ref fe),some (.ref l),some (.int so),some (.int fm),some v5,y]/\Ext fe H H5/\Rp K H5 (kT c i) v5) ⟨v,_,rfl,e3.trans e4,r3.kt (e4.kt hf3)⟩ ?_ ?_
  ·rintro i σ H5 hi ⟨v5,y,rfl,e5,r5⟩
   fail "R"
   intro p hp
   exact⟨_,_,rfl,e5.same (Zs hp),Rp.new (K:=K) hp (.cons .s (.one r5))⟩
  ·rintro σ H5 ⟨v5,y,rfl,e5,r5⟩
   fail "R"
   exact k _ _ c _ e5 r5 hc (by omega) hcl
 clear c4 c5
 have two:so≠2->∀(H3:Hp) (nm:Str) (g:Int->Cr),Ext fe H H3->(∀n,CI (g n)=.t [.s nm,.i n])->(∀n,0<=n/\n<100->(g n).ok)->∀n:Int,0<=n->n<100->∀p,H3 p=none->N4 [some (.ref fe),some (.ref l),some (.int so),some (.int fm),some (.ref p),none] (upd H3 p (.tup [.str nm,.int n])):=fun hs2 H3 nm g e3 hg ho n n0 n1 p hp =>
  rest _ _ (g n) (e3.same (Zs hp)) (by rw[hg];exact Rp.new (K:=K) hp (.cons .s (.one .i))) (ho n ⟨n0,n1⟩) (fun z=>absurd z hs2)
 have hfm:fm=0\/fm=1\/fm=2:=by omega
 rcases hfm with rfl|rfl|rfl
 ·fail "R"
  exact rest _ _ .num e1 .s trivial fun _=>rfl
 ·fail "R"
  intro r5 H5 r50 r51 x5
  have h5:=x5.1 _ _ nlf hl1
  obtain⟨v5,hv5,hm5⟩:=uq (xs:=xs.map V.str) r50 r51
  obtain⟨y5,hy5,rfl⟩:=List.mem_map.mp hm5
  have hy5:=hxs y5 hy5
  fail "R"
  intro p6 hp6
  have r6:=Rp.new (K:=K) (xs:=[.s "kind",.s y5]) hp6 (.cons .s (.one .s))
  have e6:=(e1.trans x5).same (ah hp6 (.tup [.str "kind",.str y5]))
  fail "R"
  exact rest _ _ (.kd y5) e6 r6 hy5 fun _=>rfl
 ·fail "R"
  intro p hp
  have e2:Ext fe H _:=e1.same (ah hp (.lst [.str "open",.str "any"]))
  have h2:upd H1 p (.lst [.str "open",.str "any"]) p=some (.lst [.str "open",.str "any"]):=aa
  have hf2:=e2.2
  generalize upd H1 p (.lst [.str "open",.str "any"])=H2 at e2 h2 hf2⊢
  fail "R"
  intro a3 H3 a30 a31 e3
  have hf3:=e3.2
  fail "R"
  intro b4 H4 b40 b41 e4
  have hf4:=e4.2
  fail "R"
  intro p5 hp5
  have e5:Ext fe H _:=((e2.trans e3).trans e4).same (ah hp5 (.lst [.int a3,.int b4]))
  have h5:upd H4 p5 (.lst [.int a3,.int b4]) p5=some (.lst [.int a3,.int b4]):=aa
  have hf5:=e5.2
  have n5:p5≠fe:=xK hf4 hp5
  generalize upd H4 p5 (.lst [.int a3,.int b4])=H5 at e5 h5 hf5⊢
  fail "R"
  intro j6 H6 j60 j61 e6
  have h6:=e6.1 _ _ n5 h5
  have e06:=e5.trans e6
  have hj:j6=0\/j6=1:=by omega
  rcases hj with rfl|rfl
  ·fail "R"
   intro p7 hp7
   exact two (by omega) _ _ .op e06 (fun _=>rfl) (fun _ h=>h) a3 a30 (by omega) p7 hp7
  ·fail "R"
   intro p7 hp7
   exact two (by omega) _ _ .op e06 (fun _=>rfl) (fun _ h=>h) b4 b40 (by omega) p7 hp7
end
section
variable {f d wl:Addr}{xs:List Str}{H H1:Hp}
theorem Go.upd{l:Addr}{us:List V}{o:HO}(g:Go f d wl xs H H1)(sc:Sc H f d wl xs)(hn:H l=none)(h:H1 l=some (.lst us)):Go f d wl xs H (L2.upd H1 l o):=by
 have nf:l≠f:=jz sc.ff hn
 have nd:l≠d:=fun e=>by obtain⟨m,hd,_⟩:=sc.sd;rw[e,hd]at hn;cases hn
 have nw:l≠wl:=fun e=>by rw[e,sc.lw]at hn;cases hn
 obtain⟨m,hd,hm⟩:=g.sc.sd
 obtain⟨p,q,hf⟩:=g.sc.ff
 exact⟨g.fr.Fg hn nf h,⟨⟨m,by rw[ay (Ne.symm nd)];exact hd,hm⟩,by rw[ay (Ne.symm nw)];exact g.sc.lw,g.sc.x1,g.sc.x2,g.sc.xo,⟨p,q,by rw[ay (Ne.symm nf)];exact hf⟩,g.sc.nf⟩⟩
theorem Sc.nw{l:Addr}(sc:Sc H f d wl xs)(hn:H l=none):l≠f/\l≠d/\l≠wl :=
 ⟨jz sc.ff hn,(fun e=>by obtain⟨m,hd,_⟩:=sc.sd;rw[e,hd]at hn;cases hn),(fun e=>by rw[e,sc.lw]at hn;cases hn)⟩
end
structure Mk(K:PySem.W.Frag) (f:Addr) (H0:Hp) (i:Nat) (us:List V) (H:Hp):Prop where
 x:∃ks:List Kd,Ext f H0 H/\aX K H (ks.map Es) us/\ks.length=i/\∀k∈ks,yK k/\k.1.cl=true
structure LQ(K:PySem.W.Frag) (f d wl:Addr) (xs:List Str) (lt:Addr) (H0:Hp) (i:Nat) (H:Hp):Prop where
 x:∃(ts:List Tg) (us:List V),Go f d wl xs H0 H/\H lt=some (.lst us)/\aX K H (ts.map FO) us/\ts.length=i/\∀t∈ts,yL t
structure LR(K:PySem.W.Frag) (f d wl:Addr) (xs:List Str) (lk:Addr) (H0:Hp) (i:Nat) (H:Hp):Prop where
 x:∃(ks:List Ki) (us:List V),Go f d wl xs H0 H/\H lk=some (.lst us)/\aX K H (ks.map Et) us/\ks.length=i/\∀k∈ks,xu k
structure LS(K:PySem.W.Frag) (f d wl:Addr) (xs:List Str) (lp:Addr) (H0:Hp) (op0:Int) (i:Nat) (op:Int) (H:Hp):Prop where
 x:∃(ps:List Pa) (us:List V),Go f d wl xs H0 H/\H lp=some (.lst us)/\aX K H (ps.map Eu) us/\ps.length=i/\∀p∈ps,DH p
structure LU(K:PySem.W.Frag) (f d wl:Addr) (xs:List Str) (lk ld:Addr) (ks:List Ki) (H0:Hp) (i:Nat) (H:Hp):Prop where
 x:∃(ds:List Df) (ku us:List V),Go f d wl xs H0 H/\H lk=some (.lst ku)/\aX K H (ks.map Et) ku/\H ld=some (.lst us)/\aX K H (ds.map GL) us/\ds.length=i/\∀d∈ds,pR d/\xO d.2.2
noncomputable def Hg(K:PySem.W.Frag):Sp:=fun vs H Q _=>∃f:Addr,vs=[.ref f]/\di H f/\∀(v:V) (H':Hp) (kis:List Ki) (ds:List Df),Ext f H H'->Rp K H' (FW kis ds) v->mZ kis ds->(∀d∈ds,xO d.2.2)->Q v H'
section
variable {P:Program}{w:World}{K:PySem.W.Frag}{mg:Str->Option Value}{base:Heap}{gT gW gA gE gL:Addr}{tfd wfd afd efd lfd:FuncData}
theorem aq:Nm ["_law_feed_here","_law_words","_law_scene","_law_kinds","_law_k","_law_tags","_law_j","_law_inner","_law_defs","_law_opens","_law_params","_law_kind","_law_term"] (ae bu):=by decide +kernel
theorem aT:Lm ["_law_feed_here","_law_words","_law_scene","_law_kinds","_law_k","_law_tags","_law_j","_law_inner","_law_defs","_law_opens","_law_params","_law_kind","_law_term"] (ae bu):=by decide +kernel
theorem aQ:aH ["_law_feed_here","_law_words","_law_scene","_law_kinds","_law_k","_law_tags","_law_j","_law_inner","_law_defs","_law_opens","_law_params","_law_kind","_law_term"] ["_law_feed_here"] (ae bu):=⟨rfl,rfl,rfl,by decide +kernel,rfl,by decide +kernel,by decide +kernel⟩
theorem I9{j:Nat}(hj:8<=j){f:Addr}{cdv:Value}{A:Around}{outer:List PySem.Env}{s:Shared}{H1:Hp}{E:XK}(TK:bE P w K mg base "_law_take" 1 ["_law_feed_here","_law_many"] iI gT tfd)(AK:bE P w K mg base "_law_any_kind" 2 ["_law_feed_here","_law_words","_law_sorts"] (vm K) gA afd)(ATE:bE P w K mg base "_law_any_term" j ["_law_feed_here","_law_scene","_law_room","_law_down"] (rH K 10) gE efd)(LKT:bE P w K mg base "_law_kind_text" 8 ["_law_kind"] (pG K 6) gL lfd)(z_len:mg "len"=none)(z_range:mg "range"=none)(z_tuple:mg "tuple"=none)(z_int:mg "int"=none)(hr:ia j (A.deeper (PyProof.Rows.envOfC "_law_any_program" (ae bu) s.heap.objs.size f cdv)))
  {D:L2.Ends}{H0 H:Hp}{fe d wl lk ld:Addr}{xs:List Str}{ks:List Ki}{ku:List V}{o4 o5 o6 o7 o10 o11 o12:Option V}(sc0:Sc H0 fe d wl xs) (g0:Go fe d wl xs H0 H) (hk0:H0 lk=none) (hd0:H0 ld=none) (hlk:H lk=some (.lst ku)) (rk:aX K H (ks.map Et) ku) (hld:H ld=some (.lst [])) (nkd:lk≠ld) (k3:ks.length<=3)
  (k:∀(v:V) (H':Hp) (ds:List Df),Go fe d wl xs H0 H'->Rp K H' (FW ks ds) v->1<=ds.length->ds.length<=3->(∀d∈ds,pR d/\xO d.2.2)->D.rt v H') :
  A8 (rP d8 P w K mg base ["_law_feed_here","_law_words","_law_scene","_law_kinds","_law_k","_law_tags","_law_j","_law_inner","_law_defs","_law_opens","_law_params","_law_kind","_law_term"] "_law_any_program" (ae bu) f cdv A outer s H1 E).Ht ((eF bu).drop 6) D [some (.ref fe),some (.ref wl),some (.ref d),some (.ref lk),o4,o5,o6,o7,some (.ref ld),some (.int 3),o10,o11,o12] H:=by
 refine CV ((Z4 (Zl (Zn (Z1 (Zd fL ao (Z0 TK (dP (va aq 0) (Z9 ao)))) aj)) (ga aQ.nd aT 4) (Z4 (sa aQ.nd aT 10 (bq aj)) (Z4 (Zl (Zn (Z1 (Z0 TK (dP (va aq 0) (Z9 ao))) aj)) (ga aQ.nd aT 6) (Z4 (Z5 aQ.nd aT 11 (Z0 AK (Z1 (va aq 0) (Z1 (va aq 1) (Z1 (Zp aN (@bq _ _ _ _ (dP ao (Z9 ao))) (Z6 oJ z_int PyProof.Rows.boot_int (Z1 (fM sy (va aq 9) ao (mG _)) aj))) aj))))) (Z4 (Z5 aQ.nd aT 9 (Zd jG (va aq 9) (Z6 oJ z_int PyProof.Rows.boot_int (Z1 (@fM _ _ _ _ _ _ _ _ iL ak (Z0 LKT (Z9 (va aq 11))) (by with_unfolding_all rfl)) aj)))) (Zc (@cG _ _ _ _ (@cz _ _ _ _ _ _ _ _ _ _ _ _ PySem.F.plainAttrs_list PySem.F.slot_list_append PySem.F.type_list_append bX (va aq 10) (Z1 (Zj (Z1 (Zp aN (va aq 1) (Z0 TK (Z1 (va aq 0) (Z1 (Z3 aY z_len PySem.boot_len (Z9 (va aq 1))) aj)))) (Z9 (va aq 11)))) aj) (by rfl) (by rfl) (by rfl) (by rfl) (by rfl)) (by rfl)))))) (Z4 (Z5 aQ.nd aT 12 (Z0 ATE (Z1 (va aq 0) (Z1 (va aq 2) (Z1 (Zd fL ao (Z0 TK (Z1 (va aq 0) (Z1 (Zp aN (@bq _ _ _ _ (Z1 ao (dP ao (Z9 ao)))) (va aq 4)) aj)))) (Z9 ao)))))) (Zc (@cG _ _ _ _ (@cz _ _ _ _ _ _ _ _ _ _ _ _ PySem.F.plainAttrs_list PySem.F.slot_list_append PySem.F.type_list_append bX (va aq 8) (Z1 (Zj (Z1 (Zp aN (va aq 1) (Z0 TK (Z1 (va aq 0) (Z1 (Z3 aY z_len PySem.boot_len (Z9 (va aq 1))) aj)))) (Z1 (Z6 aZ z_tuple PyProof.Rows.boot_tuple (Z9 (va aq 10))) (Z9 (va aq 12))))) aj) (by rfl) (by rfl) (by rfl) (by rfl) (by rfl)) (by rfl))))))) (Zc (Zf (Zj (Z1 (Z6 aZ z_tuple PyProof.Rows.boot_tuple (Z9 (va aq 3))) (Z1 (Z6 aZ z_tuple PyProof.Rows.boot_tuple (Z9 (va aq 8))) aj))))))) ?_
 try dsimp only[aU]
 try dsimp only[aU]
 have ff:=g0.sc.ff
 obtain⟨nkf,nkd',nkw⟩:=sc0.nw hk0
 obtain⟨ndf,ndd,ndw⟩:=sc0.nw hd0
 fail "R"
 intro m H2 m0 m1 x2
 have i2:LU K fe d wl xs lk ld ks H0 0 H2:=⟨[],ku,[],g0.ext x2,x2.1 _ _ nkf hlk,rk.kt (x2.kt ff),x2.1 _ _ ndf hld,.nil,rfl,fun d h=>nomatch h⟩
 fail "R"
 refine iA (n:=(1+m).toNat) (fun i σ H3=>(∃o4 o5 o6 o7 op o10 o11 o12,σ=[some (.ref fe),some (.ref wl),some (.ref d),some (.ref lk),o4,o5,o6,o7,some (.ref ld),some (.int op),o10,o11,o12])/\LU K fe d wl xs lk ld ks H0 i H3) ⟨⟨_,_,_,_,_,_,_,_,rfl⟩,i2⟩ ?_ ?_
 ·rintro i σ H3 hi ⟨⟨o4,o5,o6,o7,op,o10,o11,o12,rfl⟩,i3⟩
  obtain⟨ds,ku3,us3,g3,hk3,rk3,hd3,rd3,ld3,do3⟩:=i3
  have sc3:=g3.sc
  have lm:(xs.map V.str).length=xs.length:=List.length_map _
  have x1:=sc0.x1
  have x2':=sc0.x2
  have xo:=sc0.xo
  refine dR ?_
  intro N1 N2 N3 c1 c2 c3
  fail "R"
  intro lp hlp
  have s4:=ah hlp (.lst [])
  have h4:upd H3 lp (.lst []) lp=some (.lst []):=aa
  generalize upd H3 lp (.lst [])=H4 at s4 h4⊢
  obtain⟨npf,npd,npw⟩:=sc3.nw hlp
  have g4:=(Go.refl sc3).same s4
  have ff4:=g4.sc.ff
  fail "R"
  intro q H5 q0 q1 x5
  have i5:LS K fe d wl xs lp H3 0 0 0 H5:=⟨[],[],g4.ext x5,x5.1 _ _ npf h4,.nil,rfl,fun p h=>nomatch h⟩
  fail "R"
  refine iA (n:=q.toNat) (fun j σ H6=>(∃o6 op o11,σ=[some (.ref fe),some (.ref wl),some (.ref d),some (.ref lk),some (.int (0+(i:Int))),o5,o6,o7,some (.ref ld),some (.int op),some (.ref lp),o11,o12])/\LS K fe d wl xs lp H3 0 j 0 H6) ⟨⟨_,_,_,rfl⟩,i5⟩ ?_ ?_
  ·rintro j σ H6 hj6 ⟨⟨o6',op',o11',rfl⟩,⟨ps,us6,g6,h6,r6,l6,po⟩⟩
   have lu6:=r6.length
   rw[List.length_map]at lu6
   refine fV ?_
   intro N4 N5 c4 c5
   fail "R"
   intro pl hpl
   have s7:=ah hpl (.lst [.int 2,.int 3])
   have h7:upd H6 pl (.lst [.int 2,.int 3]) pl=some (.lst [.int 2,.int 3]):=aa
   generalize upd H6 pl (.lst [.int 2,.int 3])=H7 at s7 h7⊢
   have g7:=g6.same s7
   have ff7:=g7.sc.ff
   have hw7:=g7.sc.lw
   obtain⟨so,hat,hso⟩:∃so:Int,cK [V.int 2,V.int 3] (if decide ((0:Int)<op')=true then 1 else 0)=some (.int so)/\(so=2\/so=3):=by
    cases decide ((0:Int)<op')with
    |true=>exact⟨3,rfl,.inr rfl⟩
    |false=>exact⟨2,rfl,.inl rfl⟩
   fail "R"
   refine .inr ⟨_,rfl,?_⟩
   refine⟨_,_,_,_,rfl,rfl,bB.of h7,hat,?_⟩
   fail "R"
   intro kv H8 c dd x8 rk8 cok d5 clx
   have g8:=g7.ext x8
   have ff8:=g8.sc.ff
   have dd2:dd<=20:=by omega
   have dd6:dd<6:=by omega
   fail "R"
   intro H9 s9
   have g9:=g8.same s9
   have ff9:=g9.sc.ff
   have hw9:=g9.sc.lw
   have sq9:bB K H9 wl (xs.map V.str)\/bf K H9 wl (xs.map V.str):=.inl (bB.of hw9)
   have lw1:(0:Int)<(((xs.map V.str).length:Nat):Int):=by omega
   have lw2:(((xs.map V.str).length:Nat):Int)<1073741824:=by omega
   have h68:=(x8.1 _ _ npf (s7 _ _ h6))
   have h69:=s9 _ _ h68
   have ty9:Ci K "list" (.ref lp) H9:=.inl ⟨rfl,_,bB.of h69⟩
   fail "R"
   refine .inr ⟨_,rfl,?_⟩
   fail "R"
   intro r10 H10 r100 r101 x10
   obtain⟨y,hy,oy⟩:=jZ r100 r101 xo
   have g10:=g9.ext x10
   have sq10:bB K H10 wl (xs.map V.str):=bB.of g10.sc.lw
   have h610:=x10.1 _ _ npf h69
   have rk10:=(rk8.same s9).kt (x10.kt ff9)
   fail "R"
   intro p11 hp11
   have s11:=ah hp11 (.tup [.str y,kv])
   have h11:upd H10 p11 (.tup [.str y,kv]) p11=some (.tup [.str y,kv]):=aa
   generalize upd H10 p11 (.tup [.str y,kv])=H11 at s11 h11⊢
   have g11:=g10.same s11
   have h611:=s11 _ _ h610
   have z11:us6.length<sizeLine:=by rw[sizeLine_eq];omega
   have k12:Kt H11 (upd H11 lp (.lst (us6++[.ref p11]))):=Kt.lst h611 _
   have kt611:=((((Kt.same s7).trans (x8.kt ff7)).trans (Kt.same s9)).trans (x10.kt ff9)).trans (Kt.same s11)
   have g12:=g11.upd (o:=.lst (us6++[.ref p11])) sc3 hlp h611
   fail "R"
   refine⟨ps++[(y,c,dd)],us6++[.ref p11],g12,aa,?_,by rw[List.length_append,l6];rfl,fun p hp=>?_⟩
   ·rw[List.map_append]
    exact((r6.kt kt611).kt k12).append (.one ((Rp.t (bf.of h11) (.cons .s (.one (rk10.same s11)))).kt k12))
   ·rcases List.mem_append.mp hp with hp|hp
    ·exact po p hp
    ·rw[List.mem_singleton.mp hp];exact⟨oy,cok,by show dd<=5;omega⟩
  ·rintro σ H6 ⟨⟨o6',op',o11',rfl⟩,⟨ps,us6,g6,h6,r6,l6,po⟩⟩
   have ff6:=g6.sc.ff
   have sc6:=g6.sc
   fail "R"
   intro pl hpl
   have s7:=ah hpl (.lst [.int 40,.int 16,.int 16])
   have h7:upd H6 pl (.lst [.int 40,.int 16,.int 16]) pl=some (.lst [.int 40,.int 16,.int 16]):=aa
   generalize upd H6 pl (.lst [.int 40,.int 16,.int 16])=H7 at s7 h7⊢
   have g7:=g6.same s7
   have ff7:=g7.sc.ff
   obtain⟨rm,hrm,rm1,rm2⟩:∃rm:Int,cK [V.int 40,V.int 16,V.int 16] (0+(i:Int))=some (.int rm)/\1<=rm/\rm<=40:=by
    have hi3:i=0\/i=1\/i=2:=by omega
    rcases hi3 with rfl|rfl|rfl
    ·exact⟨40,rfl,by decide,by decide⟩
    ·exact⟨16,rfl,by decide,by decide⟩
    ·exact⟨16,rfl,by decide,by decide⟩
   have lq7:bB K H7 pl [.int 40,.int 16,.int 16]:=bB.of h7
   fail "R"
   intro r8 H8 r80 r81 x8
   have g8:=g7.ext x8
   obtain⟨rn,rfl⟩:=Int.eq_ofNat_of_zero_le r80
   refine⟨1,_,rfl,rfl,?_⟩
   show rH K 10 [.ref fe,.ref d,.int (1+(rn:Int)),.int 9] H8 _ E0
   rw[show(1+(rn:Int))=((1+rn:Nat):Int) by omega]
   refine⟨fe,d,wl,xs,1+rn,9,rfl,g8.sc,by omega,by omega,by decide,by decide,fun tv H9 tm g9 rt9 lt9=>?_⟩
   have fit:=lt9.fit (by decide) (show 1+rn<=66 by omega)
   have g39:=g8.trans g9
   have ff9:=g39.sc.ff
   have hw9:=g39.sc.lw
   have sq9:bB K H9 wl (xs.map V.str)\/bf K H9 wl (xs.map V.str):=.inl (bB.of hw9)
   have lw1:(0:Int)<(((xs.map V.str).length:Nat):Int):=by omega
   have lw2:(((xs.map V.str).length:Nat):Int)<1073741824:=by omega
   have hlp9:H9 lp=some (.lst us6):=g9.get (x8.1 _ _ npf (s7 _ _ h6)) npd npf
   have hd9:=g39.get hd3 ndd ndf
   have hk9:=g39.get hk3 nkd' nkf
   have r69:=((r6.same s7).kt (x8.kt ff7)).kt g9.kt
   have rd9:=rd3.kt g39.kt
   have rk9:=rk3.kt g39.kt
   have ty9:Ci K "list" (.ref ld) H9:=.inl ⟨rfl,_,bB.of hd9⟩
   have lus:=rd3.length
   rw[List.length_map]at lus
   fail "R"
   intro r10 H10 r100 r101 x10
   obtain⟨y,hy,oy⟩:=jZ r100 r101 xo
   have g10:=g39.ext x10
   have sq10:bB K H10 wl (xs.map V.str):=bB.of g10.sc.lw
   have hlp10:=x10.1 _ _ npf hlp9
   have kx:=x10.kt ff9
   fail "R"
   refine .inl ⟨bB.of hlp10,fun p11 hp11=>?_⟩
   have s11:=ah hp11 (.tup us6)
   have h11:upd H10 p11 (.tup us6) p11=some (.tup us6):=aa
   generalize upd H10 p11 (.tup us6)=H11 at s11 h11⊢
   fail "R"
   intro p12 hp12
   have s12:=ah hp12 (.tup [.str y,.ref p11,tv])
   have h12:upd H11 p12 (.tup [.str y,.ref p11,tv]) p12=some (.tup [.str y,.ref p11,tv]):=aa
   generalize upd H11 p12 (.tup [.str y,.ref p11,tv])=H12 at s12 h12⊢
   have s1012:=s11.trans s12
   have hd12:=s1012 _ _ (x10.1 _ _ ndf hd9)
   have hk12:=s1012 _ _ (x10.1 _ _ nkf hk9)
   have z12:us3.length<sizeLine:=by rw[sizeLine_eq];omega
   have k13:Kt H12 (upd H12 ld (.lst (us3++[.ref p12]))):=Kt.lst hd12 _
   have g013:Go fe d wl xs H0 H12:=(g3.trans g10).same s1012
   have g14:=g013.upd (o:=.lst (us3++[.ref p12])) sc0 hd0 hd12
   have kt12:Kt H9 H12:=kx.trans (Kt.same s1012)
   fail "R"
   refine⟨ds++[(y,ps,tm)],ku3,us3++[.ref p12],g14,by rw[ay nkd];exact hk12,(rk9.kt kt12).kt k13,aa,?_,by rw[List.length_append,ld3];rfl,fun p hp=>?_⟩
   ·rw[List.map_append]
    refine((rd9.kt kt12).kt k13).append (.one ((Rp.t (bf.of h12) (.cons .s (.cons ?_ (.one ?_)))).kt k13))
    ·exact Rp.t (bf.of (s12 _ _ h11)) (r69.kt kt12)
    ·exact rt9.kt kt12
   ·rcases List.mem_append.mp hp with hp|hp
    ·exact do3 p hp
    ·rw[List.mem_singleton.mp hp]
     exact⟨⟨oy,by show ps.length<=3;omega,po,fit.ok,fit.wd,fit.len⟩,fit⟩
 ·rintro σ H3 ⟨⟨o4,o5,o6,o7,op,o10,o11,o12,rfl⟩,i3⟩
  obtain⟨ds,ku3,us3,g3,hk3,rk3,hd3,rd3,ld3,do3⟩:=i3
  fail "R"
  refine .inl ⟨bB.of hk3,fun p5 hp5=>?_⟩
  have s5:=ah hp5 (.tup ku3)
  have h5:upd H3 p5 (.tup ku3) p5=some (.tup ku3):=aa
  generalize upd H3 p5 (.tup ku3)=H5 at s5 h5⊢
  have hd5:=s5 _ _ hd3
  fail "R"
  refine .inl ⟨bB.of hd5,fun p6 hp6=>?_⟩
  have s6:=ah hp6 (.tup us3)
  have h6:upd H5 p6 (.tup us3) p6=some (.tup us3):=aa
  generalize upd H5 p6 (.tup us3)=H6 at s6 h6⊢
  fail "R"
  intro p7 hp7
  refine k _ _ ds (((g3.same s5).same s6).same (Zs hp7)) ?_ (by omega) (by omega) do3
  exact Rp.new (K:=K) hp7 (.cons (Rp.t (bf.of (s6 _ _ h5)) (rk3.same (s5.trans s6))) (.one (Rp.t (bf.of h6) (rd3.same (s5.trans s6)))))
end
theorem Eh(wl:Addr)(m:Int):mJ [] (vg wl m)=vg wl m:=by unfold vg;kernel_rfl
theorem Gi{H:Hp}{f d wl:Addr}{xs:List Str}{m:Int}{kv:List (Key×V)}(hd:H d=some (.dK kv))(ndf:d≠f)(hw:H wl=some (.lst (xs.map V.str)))(nwf:wl≠f)(hf:di H f)(x1:1<=xs.length)(x2:xs.length<=100)(xo:∀x∈xs,bx x)(m0:0<=m)(m1:m<=100):Sc (upd H d (.dK (vg wl m))) f d wl xs:=by
 obtain⟨p,q,e⟩:=hf
 have n1:wl≠d:=fun z=>by(rw[z,hd]at hw;cases hw)
 exact⟨⟨m,aa,m0,m1⟩,by rw[ay n1];exact hw,x1,x2,xo,⟨p,q,by rw[ay (Ne.symm ndf)];exact e⟩,ndf,nwf⟩
theorem Ei{f:Addr}{H H':Hp}(e:Ext f H H'){l:Addr}(h:H' l=none):H l=none:=by
 cases q:H l with
 |none=>rfl
 |some o =>
  by_cases n:l=f
  ·subst n;obtain⟨a,b,z⟩:=e.2;rw[h]at z;cases z
  ·rw[e.1 l o n q]at h;cases h
structure Ml(f:Addr) (H:Hp) (i:Nat) (us:List V) (H':Hp):Prop where
 x:∃ys:List Str,Ext f H H'/\us=ys.map V.str/\ys.length=i/\∀y∈ys,bx y
section
variable {P:Program}{w:World}{K:PySem.W.Frag}{mg:Str->Option Value}{base:Heap}{gT gW gA gE gL:Addr}{tfd wfd afd efd lfd:FuncData}
theorem Ja{j:Nat}(hj:8<=j){f:Addr}{cdv:Value}{A:Around}{outer:List PySem.Env}{s:Shared}{H1:Hp}{E:XK}(TK:bE P w K mg base "_law_take" 1 ["_law_feed_here","_law_many"] iI gT tfd)(AK:bE P w K mg base "_law_any_kind" 2 ["_law_feed_here","_law_words","_law_sorts"] (vm K) gA afd)(ATE:bE P w K mg base "_law_any_term" j ["_law_feed_here","_law_scene","_law_room","_law_down"] (rH K 10) gE efd)(LKT:bE P w K mg base "_law_kind_text" 8 ["_law_kind"] (pG K 6) gL lfd)(z_len:mg "len"=none)(z_range:mg "range"=none)(z_tuple:mg "tuple"=none)(z_int:mg "int"=none)(hr:ia j (A.deeper (PyProof.Rows.envOfC "_law_any_program" (ae bu) s.heap.objs.size f cdv)))
  {D:L2.Ends}{H0 H:Hp}{fe d wl lk:Addr}{xs:List Str}{o4 o5 o6 o7 o8 o9 o10 o11 o12:Option V}(sc0:Sc H0 fe d wl xs) (g0:Go fe d wl xs H0 H) (hk0:H0 lk=none) (hlk:H lk=some (.lst []))
  (k:∀(v:V) (H':Hp) (ks:List Ki) (ds:List Df),Go fe d wl xs H0 H'->Rp K H' (FW ks ds) v->mZ ks ds->(∀d∈ds,xO d.2.2)->D.rt v H') :
  A8 (rP d8 P w K mg base ["_law_feed_here","_law_words","_law_scene","_law_kinds","_law_k","_law_tags","_law_j","_law_inner","_law_defs","_law_opens","_law_params","_law_kind","_law_term"] "_law_any_program" (ae bu) f cdv A outer s H1 E).Ht ((eF bu).drop 3) D [some (.ref fe),some (.ref wl),some (.ref d),some (.ref lk),o4,o5,o6,o7,o8,o9,o10,o11,o12] H:=by
 refine CV ((@cJ _ _ _ _ _ (Zl (Zn (Z1 (Z0 TK (dP (va aq 0) (Z9 ao))) aj)) (ga aQ.nd aT 4) (Z4 (sa aQ.nd aT 5 (bq aj)) (Z4 (Zl (Zn (Z1 (Zd fL ao (Z0 TK (dP (va aq 0) (Z9 ao)))) aj)) (ga aQ.nd aT 6) (Z4 (Z5 aQ.nd aT 7 (Z6 aZ z_tuple PyProof.Rows.boot_tuple (Z1 (@fO _ _ _ _ _ _ _ _ _ _ _ (ae bu) ["_law_feed_here","_law_words","_law_scene","_law_kinds","_law_k","_law_tags","_law_j","_law_inner","_law_defs","_law_opens","_law_params","_law_kind","_law_term"] ["_law_i"] [0,1] rfl rfl rfl (by decide +kernel) (Zn (Z1 (Z0 TK (dP (va aq 0) (Z9 ao))) aj)) (fun _ _ _ _=>(Z2 (i:=0) (show(["_law_i","_law_feed_here","_law_words"]:List Str).Nodup by decide +kernel))) (fun _ _ _ _=>eU) (fun _ _ _ _=>(Z0 AK (Z1 (va (show Nm ["_law_i","_law_feed_here","_law_words"] _ by show _=_;kernel_rfl) 1) (dP (va (show Nm ["_law_i","_law_feed_here","_law_words"] _ by show _=_;kernel_rfl) 2) (Z9 ao))))) (by intro _;rfl)) aj))) (Zc (@cG _ _ _ _ (@cz _ _ _ _ _ _ _ _ _ _ _ _ PySem.F.plainAttrs_list PySem.F.slot_list_append PySem.F.type_list_append bX (va aq 5) (Z1 (Zj (Z1 (Zp aN (va aq 1) (Z0 TK (Z1 (va aq 0) (Z1 (Z3 aY z_len PySem.boot_len (Z9 (va aq 1))) aj)))) (Z9 (va aq 7)))) aj) (by rfl) (by rfl) (by rfl) (by rfl) (by rfl)) (by rfl))))) (Zc (@cG _ _ _ _ (@cz _ _ _ _ _ _ _ _ _ _ _ _ PySem.F.plainAttrs_list PySem.F.slot_list_append PySem.F.type_list_append bX (va aq 3) (Z1 (Zj (Z1 (Zp aN (va aq 1) (Z0 TK (Z1 (va aq 0) (Z1 (Z3 aY z_len PySem.boot_len (Z9 (va aq 1))) aj)))) (Z1 (Z6 aZ z_tuple PyProof.Rows.boot_tuple (Z9 (va aq 5))) aj))) aj) (by rfl) (by rfl) (by rfl) (by rfl) (by rfl)) (by rfl)))))) (@cJ _ _ _ _ _ (sa aQ.nd aT 8 (bq aj)) (cJ (sa aQ.nd aT 9 ao)
  zG)))) ?_
 try dsimp only[aU]
 try dsimp only[aU]
 have ff:=g0.sc.ff
 obtain⟨nkf,nkd,nkw⟩:=sc0.nw hk0
 have lm:(xs.map V.str).length=xs.length:=List.length_map _
 have x1:=sc0.x1
 have x2':=sc0.x2
 have xo:=sc0.xo
 have lw1:(0:Int)<(((xs.map V.str).length:Nat):Int):=by omega
 have lw2:(((xs.map V.str).length:Nat):Int)<1073741824:=by omega
 refine dR ?_
 intro M1 M2 M3 e1 e2 e3
 fail "R"
 intro m H2 m0 m1 x2
 have i2:LR K fe d wl xs lk H0 0 H2:=⟨[],[],g0.ext x2,x2.1 _ _ nkf hlk,.nil,rfl,fun d h=>nomatch h⟩
 fail "R"
 refine iA (n:=m.toNat) (fun i σ H3=>(∃o4 o5 o6 o7,σ=[some (.ref fe),some (.ref wl),some (.ref d),some (.ref lk),o4,o5,o6,o7,o8,o9,o10,o11,o12])/\LR K fe d wl xs lk H0 i H3) ⟨⟨_,_,_,_,rfl⟩,i2⟩ ?_ ?_
 ·rintro i σ H3 hi ⟨⟨o4,o5,o6,o7,rfl⟩,⟨ks,us3,g3,hk3,rk3,lk3,ko3⟩⟩
  clear e1 e2 e3
  have sc3:=g3.sc
  have lus:=rk3.length
  rw[List.length_map]at lus
  refine fV ?_
  intro N1 N2 c1 c2
  fail "R"
  intro lt hlt
  have s4:=ah hlt (.lst [])
  have h4:upd H3 lt (.lst []) lt=some (.lst []):=aa
  generalize upd H3 lt (.lst [])=H4 at s4 h4⊢
  obtain⟨ntf,ntd,ntw⟩:=sc3.nw hlt
  have g4:=(Go.refl sc3).same s4
  have ff4:=g4.sc.ff
  fail "R"
  intro q H5 q0 q1 x5
  have i5:LQ K fe d wl xs lt H3 0 H5:=⟨[],[],g4.ext x5,x5.1 _ _ ntf h4,.nil,rfl,fun p h=>nomatch h⟩
  fail "R"
  refine iA (n:=(1+q).toNat) (fun j σ H6=>(∃o6 o7,σ=[some (.ref fe),some (.ref wl),some (.ref d),some (.ref lk),some (.int (0+(i:Int))),some (.ref lt),o6,o7,o8,o9,o10,o11,o12])/\LQ K fe d wl xs lt H3 j H6) ⟨⟨_,_,rfl⟩,i5⟩ ?_ ?_
  ·rintro j σ H6 hj6 ⟨⟨o6',o7',rfl⟩,⟨ts,us6,g6,h6,r6,l6,to⟩⟩
   have lu6:=r6.length
   rw[List.length_map]at lu6
   have ff6:=g6.sc.ff
   refine gq ?_
   intro N4 c4
   fail "R"
   intro m7 H7 m70 m71 x7
   have ff7:=x7.2
   have hw7:=(g6.ext x7).sc.lw
   fail "R"
   refine fD (n:=m7.toNat) (fun i7 σ us8 H8=>(∃v,σ=[v,some (.ref fe),some (.ref wl)])/\Mk K fe H7 i7 us8 H8) ⟨⟨none,rfl⟩,⟨[],Ext.refl ff7,.nil,rfl,fun y h=>nomatch h⟩⟩ (fun i7 σ us8 H8 _ h=>?_) (small (by omega)) ?_ ?_
   ·obtain⟨_,⟨kds,_,r8,e8,_⟩⟩:=h
    have:=r8.length
    rw[List.length_map]at this
    omega
   ·rintro i7 σ us8 H8 hi7 ⟨⟨v,rfl⟩,⟨kds,e8,r8,l8,ok8⟩⟩
    have ff8:=e8.2
    have nwf:=sc0.nf.2
    have hw8:=e8.1 _ _ nwf hw7
    fail "R"
    intro kv H9 c dd x9 rk9 cok d5 clx
    refine⟨⟨_,rfl⟩,⟨kds++[(c,dd)],e8.trans x9,?_,by rw[List.length_append,l8];rfl,fun u hu=>?_⟩⟩
    ·rw[List.map_append]
     exact(r8.kt (x9.kt ff8)).append (.one rk9)
    ·rcases List.mem_append.mp hu with hu|hu
     ·exact ok8 u hu
     ·rw[List.mem_singleton.mp hu];exact⟨⟨cok,d5⟩,clx rfl⟩
   rintro σ us8 H8 ⟨_,⟨kds,e8,r8,l8,ok8⟩⟩ pi hpi
   have s9:=ah hpi (.lst us8)
   have h9:upd H8 pi (.lst us8) pi=some (.lst us8):=aa
   generalize upd H8 pi (.lst us8)=H9 at s9 h9⊢
   have x69:=(x7.trans e8).same s9
   fail "R"
   refine .inl ⟨bB.of h9,fun p10 hp10=>?_⟩
   have s10:=ah hp10 (.tup us8)
   have h10:upd H9 p10 (.tup us8) p10=some (.tup us8):=aa
   generalize upd H9 p10 (.tup us8)=H10 at s10 h10⊢
   have x610:=x69.same s10
   have g10:=g6.ext x610
   have ff10:=g10.sc.ff
   have hw10:=g10.sc.lw
   have sq10:bB K H10 wl (xs.map V.str)\/bf K H10 wl (xs.map V.str):=.inl (bB.of hw10)
   have h610:=x610.1 _ _ ntf h6
   have ty10:Ci K "list" (.ref lt) H10:=.inl ⟨rfl,_,bB.of h610⟩
   fail "R"
   intro r11 H11 r110 r111 x11
   obtain⟨y,hy,oy⟩:=jZ r110 r111 xo
   have g11:=g10.ext x11
   have sq11:bB K H11 wl (xs.map V.str):=bB.of g11.sc.lw
   have h611:=x11.1 _ _ ntf h610
   fail "R"
   intro p12 hp12
   have s12:=ah hp12 (.tup [.str y,.ref p10])
   have h12:upd H11 p12 (.tup [.str y,.ref p10]) p12=some (.tup [.str y,.ref p10]):=aa
   generalize upd H11 p12 (.tup [.str y,.ref p10])=H12 at s12 h12⊢
   have g12:=g11.same s12
   have h612:=s12 _ _ h611
   have z12:us6.length<sizeLine:=by rw[sizeLine_eq];omega
   have k13:Kt H12 (upd H12 lt (.lst (us6++[.ref p12]))):=Kt.lst h612 _
   have g13:=g12.upd (o:=.lst (us6++[.ref p12])) sc3 hlt h612
   have kt10:Kt H10 H12:=(x11.kt ff10).trans (Kt.same s12)
   fail "R"
   refine⟨ts++[(y,kds)],us6++[.ref p12],g13,aa,?_,by rw[List.length_append,l6];rfl,fun p hp=>?_⟩
   ·rw[List.map_append]
    refine(((r6.kt (x610.kt ff6)).kt kt10).kt k13).append (.one ((Rp.t (bf.of h12) (.cons .s (.one ?_))).kt k13))
    exact(Rp.t (bf.of h10) (r8.same (s9.trans s10))).kt kt10
   ·rcases List.mem_append.mp hp with hp|hp
    ·exact to p hp
    ·rw[List.mem_singleton.mp hp]
     exact⟨oy,by show kds.length<=2;omega,ok8⟩
  ·rintro σ H6 ⟨⟨o6',o7',rfl⟩,⟨ts,us6,g6,h6,r6,l6,to⟩⟩
   have ff6:=g6.sc.ff
   have hw6:=g6.sc.lw
   have sq6:bB K H6 wl (xs.map V.str)\/bf K H6 wl (xs.map V.str):=.inl (bB.of hw6)
   have hk6:=g6.get hk3 nkd nkf
   have ty6:Ci K "list" (.ref lk) H6:=.inl ⟨rfl,_,bB.of hk6⟩
   fail "R"
   intro r7 H7 r70 r71 x7
   obtain⟨y,hy,oy⟩:=jZ r70 r71 xo
   have g7:=g6.ext x7
   have sq7:bB K H7 wl (xs.map V.str):=bB.of g7.sc.lw
   have h67:=x7.1 _ _ ntf h6
   have hk7:=x7.1 _ _ nkf hk6
   fail "R"
   refine .inl ⟨bB.of h67,fun p8 hp8=>?_⟩
   have s8:=ah hp8 (.tup us6)
   have h8:upd H7 p8 (.tup us6) p8=some (.tup us6):=aa
   generalize upd H7 p8 (.tup us6)=H8 at s8 h8⊢
   fail "R"
   intro p9 hp9
   have s9:=ah hp9 (.tup [.str y,.ref p8])
   have h9:upd H8 p9 (.tup [.str y,.ref p8]) p9=some (.tup [.str y,.ref p8]):=aa
   generalize upd H8 p9 (.tup [.str y,.ref p8])=H9 at s9 h9⊢
   have hk9:=(s8.trans s9) _ _ hk7
   have z9:us3.length<sizeLine:=by rw[sizeLine_eq];omega
   have k10:Kt H9 (upd H9 lk (.lst (us3++[.ref p9]))):=Kt.lst hk9 _
   have kt6:Kt H6 H9:=(x7.kt ff6).trans (Kt.same (s8.trans s9))
   have g9:Go fe d wl xs H0 H9:=(g3.trans g7).same (s8.trans s9)
   have g10:=g9.upd (o:=.lst (us3++[.ref p9])) sc0 hk0 hk9
   fail "R"
   refine⟨ks++[(y,ts)],us3++[.ref p9],g10,aa,?_,by rw[List.length_append,lk3];rfl,fun p hp=>?_⟩
   ·rw[List.map_append]
    refine(((rk3.kt g6.kt).kt kt6).kt k10).append (.one ((Rp.t (bf.of h9) (.cons .s (.one ?_))).kt k10))
    exact Rp.t (bf.of (s9 _ _ h8)) (r6.kt kt6)
   ·rcases List.mem_append.mp hp with hp|hp
    ·exact ko3 p hp
    ·rw[List.mem_singleton.mp hp]
     exact⟨oy,by show 1<=ts.length;omega,by show ts.length<=3;omega,to⟩
 ·rintro σ H3 ⟨⟨o4,o5,o6,o7,rfl⟩,⟨ks,us3,g3,hk3,rk3,lk3,ko3⟩⟩
  fail "R"
  intro ld hld
  have s4:=ah hld (.lst [])
  have h4:upd H3 ld (.lst []) ld=some (.lst []):=aa
  have hk4:=s4 _ _ hk3
  generalize upd H3 ld (.lst [])=H4 at s4 h4 hk4⊢
  have hd0:H0 ld=none:=g3.fr.free hld (fun z=>(g3.rG hld).1 (List.mem_singleton.mp z))
  fail "R"
  refine I9 hj TK AK ATE LKT z_len z_range z_tuple z_int hr sc0 (g3.same s4) hk0 hd0 hk4 (rk3.same s4) h4 (bG hk3 hld) (by omega) fun v H5 ds g5 r5 d1 d3 dd=>?_
  exact k v H5 ks ds g5 r5 ⟨ko3,fun d hd=>(dd d hd).1,by omega,d1,d3⟩ fun d hd=>(dd d hd).2
theorem Jb{f:Addr}{fd:FuncData}{j:Nat}(hj:8<=j)(F:eN K "_law_any_program" "_law_any_program" bu f fd)(TK:bE P w K mg base "_law_take" 1 ["_law_feed_here","_law_many"] iI gT tfd)(LWD:bE P w K mg base "_law_word" 2 ["_law_feed_here"] Ed gW wfd)(AK:bE P w K mg base "_law_any_kind" 2 ["_law_feed_here","_law_words","_law_sorts"] (vm K) gA afd)(ATE:bE P w K mg base "_law_any_term" j ["_law_feed_here","_law_scene","_law_room","_law_down"] (rH K 10) gE efd)(LKT:bE P w K mg base "_law_kind_text" 8 ["_law_kind"] (pG K 6) gL lfd)(z_len:mg "len"=none)(z_range:mg "range"=none)(z_tuple:mg "tuple"=none)(z_int:mg "int"=none):bK P w K mg base d8 (j+1) f fd ["_law_feed_here"] (Hg K):=by
 refine F.ok aQ (fun vs H Q E h=>?_) (fun cdv A outer s H vs Q E hr h=>?_)
 ·obtain⟨_,rfl,_⟩:=h
  rfl
 obtain⟨r,rfl,hf,k⟩:=h
 refine⟨_,(Z4 (Z5 aQ.nd aT 1 (@fO _ _ _ _ _ _ _ _ _ _ _ (ae bu) ["_law_feed_here","_law_words","_law_scene","_law_kinds","_law_k","_law_tags","_law_j","_law_inner","_law_defs","_law_opens","_law_params","_law_kind","_law_term"] ["_law_k"] [0] rfl rfl rfl (by decide +kernel) (Zn (Z1 (Zd fL ao (Z0 TK (dP (va aq 0) (Z9 ao)))) aj)) (fun _ _ _ _=>(Z2 (i:=0) (show(["_law_k","_law_feed_here"]:List Str).Nodup by decide +kernel))) (fun _ _ _ _=>eU) (fun _ _ _ _=>(Z0 LWD (Z9 (va (show Nm ["_law_k","_law_feed_here"] _ by show _=_;kernel_rfl) 1)))) (by intro _;rfl))) (Z4 (Z5 aQ.nd aT 2 (@DS _ _ _ _ _ _ _ _ _ _ ak (va aq 1) ak (Z0 TK (dP (va aq 0) (Z9 ao))))) (Z4 (sa aQ.nd aT 3 (bq aj)) zG))),?_⟩
 try dsimp only[aU]
 try dsimp only[aU]
 fail "R"
 intro m H7 m0 m1 e7
 have hf7:=e7.2
 fail "R"
 refine fD (n:=(2+m).toNat) (fun i7 σ us5 H8=>(∃v,σ=[v,some (.ref r)])/\Ml r H7 i7 us5 H8) ⟨⟨none,rfl⟩,⟨[],Ext.refl hf7,rfl,rfl,fun y h=>nomatch h⟩⟩ (fun i7 σ us5 H8 _ h=>?_) (small (by omega)) ?_ ?_
 ·obtain⟨_,⟨ys8,_,rfl,e,_⟩⟩:=h
  rw[List.length_map,e];exact Nat.le_refl _
 ·rintro i7 σ us5 H8 hi7 ⟨⟨v,rfl⟩,⟨ys8,g8,rfl,l8,o8⟩⟩
  have hf8:=g8.2
  fail "R"
  intro y H9 e9 oy
  fail "R"
  refine⟨ys8++[y],g8.trans e9,by rw[List.map_append];rfl,by rw[List.length_append,l8];rfl,fun u hu=>?_⟩
  rcases List.mem_append.mp hu with hu|hu
  ·exact o8 u hu
  ·rw[List.mem_singleton.mp hu];exact oy
 rintro σ us8 H8 ⟨_,⟨xs,g8,rfl,l8,o8⟩⟩ wl hwl
 have nwf:=jz g8.2 hwl
 have s9:=ah hwl (.lst (xs.map V.str))
 have h9:upd H8 wl (.lst (xs.map V.str)) wl=some (.lst (xs.map V.str)):=aa
 have e9:=(e7.trans g8).same s9
 generalize upd H8 wl (.lst (xs.map V.str))=H9 at s9 h9 e9⊢
 have hf9:=e9.2
 fail "R"
 intro d hd
 have s9d:=ah hd (.dK [])
 have h9d:upd H9 d (.dK []) d=some (.dK []):=aa
 have h9w:=s9d _ _ h9
 have ndf:d≠r:=jz hf9 hd
 have e9d:=e9.same s9d
 have hf9d:=e9d.2
 have hdH:H d=none:=Ei e9 hd
 generalize upd H9 d (.dK [])=H9d at s9d h9d h9w e9d hf9d⊢
 fail "R"
 intro m10 H10 m100 m101 e10
 have h10d:=e10.1 _ _ ndf h9d
 have h10w:=e10.1 _ _ nwf h9w
 have e010:=e9d.trans e10
 fail "R"
 ·exact(show [(V.str "words",V.ref wl),(V.str "left",V.int m10)]=(vg wl m10).map (fun kv=>(kV kv.1,kv.2))from rfl)
 refine⟨by show 2<=15;decide,?_⟩
 rw[Eh]
 have x1:1<=xs.length:=by omega
 have x2:xs.length<=100:=by omega
 have sc:=Gi (m:=m10) h10d ndf h10w nwf e10.2 x1 x2 o8 m100 (by omega)
 have e011:Ext r H (upd H10 d (.dK (vg wl m10))):=⟨fun b o n e=>by rw[ay (bG e hdH)];exact e010.1 _ _ n e,sc.ff⟩
 generalize upd H10 d (.dK (vg wl m10))=H11 at sc e011⊢
 fail "R"
 intro lk hlk
 have s12:=ah hlk (.lst [])
 have h12:upd H11 lk (.lst []) lk=some (.lst []):=aa
 generalize upd H11 lk (.lst [])=H12 at s12 h12⊢
 fail "R"
 refine Ja hj TK AK ATE LKT z_len z_range z_tuple z_int hr sc ((Go.refl sc).same s12) hlk h12 fun v H' ks ds g rv po ft=>?_
 refine k v H' ks ds ⟨fun b o n e=>g.get (e011.1 _ _ n e) (bG e hdH) n,g.sc.ff⟩ rv po ft
end
noncomputable def Az(K:PySem.W.Frag):Sp:=fun vs H Q _=>∃(a:Addr) (ns:List Int),vs=[.ref a]/\bB K H a (ns.map V.int)/\ns.length<=63/\∀H',Q (.bl true) H'
noncomputable abbrev Pg:=List Ki×List Df
noncomputable def gT(p:Pg):T:=FW p.1 p.2
noncomputable def gS(p:Pg):Str:=mh p.1 p.2
noncomputable def Ky(p:Pg):Prop:=mZ p.1 p.2/\∀d∈p.2,xO d.2.2
theorem lM{α:Type}{f:α->T}{n:Nat}:∀{l:List α},(∀x∈l,(f x).dep<=n)->T.lN (l.map f)<=n
 | [],_=>Ep
 |x::r,h=>uw (h x (.head _)) (lM fun y hy=>h y (.tail _ hy))
theorem tw_map{α:Type}{f:α->T}{l:List α}(hl:l.length<=900)(h:∀x∈l,Tw (f x)):Tw (.t (l.map f)):=tw_all (by rw[List.length_map];exact hl) fun x hx=>by
 obtain⟨y,hy,rfl⟩:=List.mem_map.mp hx
 exact h y hy
theorem Kg(c:Cr):Tw (CI c):=by
 cases c with
 |num=>exact .s _
 |kd x=>exact tw_all (by show 2<=900;decide) (tw_cons (.s _) (tw_cons (.s _) tw_nil))
 |op n=>exact tw_all (by show 2<=900;decide) (tw_cons (.s _) (tw_cons (.i _) tw_nil))
theorem Ej(c:Cr):∀d,Tw (kT c d)
 |0=>Kg c
 |d+1=>tw_all (by show 2<=900;decide) (tw_cons (.s _) (tw_cons (Ej c d) tw_nil))
theorem Ek{k:Kd}(h:yK k):(Es k).dep<=65:=Nat.le_trans (yM k.1 k.2) (by have:=h.2;omega)
theorem Lw{p:Pg}(h:Ky p):Tw (gT p):=by
 have o:=h.1
 refine tw_all (by show 2<=900;decide) (tw_cons (tw_map (by have:=o.k3;omega) fun k hk=>?_) (tw_cons (tw_map (by have:=o.d3;omega) fun d hd=>?_) tw_nil))
 ·have ko:=o.k k hk
  refine tw_all (by show 2<=900;decide) (tw_cons (.s _) (tw_cons (tw_map (by have:=ko.2.2.1;omega) fun t ht=>?_) tw_nil))
  have to:=ko.2.2.2 t ht
  exact tw_all (by show 2<=900;decide) (tw_cons (.s _) (tw_cons (tw_map (by have:=to.2.1;omega) fun k _=>Ej _ _) tw_nil))
 ·have do':=o.d d hd
  refine tw_all (by show 3<=900;decide) (tw_cons (.s _) (tw_cons (tw_map (by have:=do'.2.1;omega) fun t ht=>?_) (tw_cons (h.2 d hd).tw tw_nil)))
  exact tw_all (by show 2<=900;decide) (tw_cons (.s _) (tw_cons (Ej _ _) tw_nil))
theorem Kh{p:Pg}(h:Ky p):(gT p).dep<75:=by
 have o:=h.1
 refine Nat.lt_of_le_of_lt (zF (d:=72) (uw (zF (d:=71) (lM fun k hk=>?_)) (uw (zF (d:=71) (lM fun d hd=>?_)) Ep))) (by decide)
 ·have ko:=o.k k hk
  refine zF (d:=70) (uw Fd (uw (zF (d:=69) (lM fun t ht=>?_)) Ep))
  have to:=ko.2.2.2 t ht
  exact zF (d:=68) (uw Fd (uw (zF (d:=67) (lM fun k hk=>Nat.le_trans (Ek (to.2.2 k hk).1) (by decide))) Ep))
 ·have do':=o.d d hd
  refine zF (d:=70) (uw Fd (uw (zF (d:=69) (lM fun t ht=>?_)) (uw ?_ Ep)))
  ·exact zF (d:=68) (uw Fd (uw (Nat.le_trans (Ek (do'.2.2.1 t ht).2) (by decide)) Ep))
  ·exact Nat.le_trans (Nat.le_of_lt (h.2 d hd).dep) (by decide)
structure Mm(K:PySem.W.Frag) (H:Hp) (i:Nat) (us:List V) (H':Hp):Prop where
 x:∃ps:List Pg,aL H H'/\aX K H' (ps.map gT) us/\ps.length=i/\∀p∈ps,Ky p
structure Mn(H H':Hp):Prop where
 s:aL H H'
section
variable {P:Program}{w:World}{K:PySem.W.Frag}{mg:Str->Option Value}{base:Heap}{gF gP gL gX gR gA:Addr}{ffd pfd lfd xfd rfd afd:FuncData}
theorem j0:Nm ["_law_script","_law_some","_law_texts_here","_law_k"] (ae lX):=by decide +kernel
theorem yV:Lm ["_law_script","_law_some","_law_texts_here","_law_k"] (ae lX):=by decide +kernel
theorem vn:aH ["_law_script","_law_some","_law_texts_here","_law_k"] ["_law_script"] (ae lX):=⟨rfl,rfl,rfl,by decide +kernel,rfl,by decide +kernel,by decide +kernel⟩
theorem Jc{f:Addr}{fd:FuncData}{jp jl jr j:Nat}(h1:jp<=j)(h2:jl<=j)(h3:jr<=j)(h4:77<=j)(F:eN K "law" "law" lX f fd)(FD:bE P w K mg base "_law_feed" 1 ["_law_script","_law_k"] (CM K) gF ffd)(LAP:bE P w K mg base "_law_any_program" jp ["_law_feed_here"] (Hg K) gP pfd)(LPT:bE P w K mg base "_law_program_text" jl ["_law_program"] (G5 K) gL lfd)(PTX:bE P w K mg base "program_text" 7 ["program"] (GZ K) gX xfd)(RPR:bE P w K mg base "read_program" jr ["text"] (GS K) gR rfd)(LA:bE P w K mg base "_law_alike" 77 ["_law_found","_law_due"] (qi K 76) gA afd)(z_range:mg "range"=none):bK P w K mg base d8 (j+1) f fd ["_law_script"] (Az K):=by
 refine F.ok vn (fun vs H Q E h=>?_) (fun cdv A outer s H vs Q E hr h=>?_)
 ·obtain⟨a,ns,rfl,_⟩:=h
  rfl
 obtain⟨a,ns,rfl,hS,hns,k⟩:=h
 refine⟨_,(Z4 (@qG _ _ _ _ _ _ _ _ _ _ _ _ _ _ _ (ae lX) ["_law_script","_law_some","_law_texts_here","_law_k"] ["_law_k"] [0] rfl rfl rfl (by decide +kernel) (oG (by show _=_;kernel_rfl) z_range (Z9 ao)) (fun _ _ _ _=>(Z2 (i:=0) (show(["_law_k","_law_script"]:List Str).Nodup by decide +kernel))) (fun _ _ _ _=>eU) (fun _ _ _ _=>(Z0 LAP (Z1 (Z0 FD (Z1 (va (show Nm ["_law_k","_law_script"] _ by show _=_;kernel_rfl) 1) (Z9 (va (show Nm ["_law_k","_law_script"] _ by show _=_;kernel_rfl) 0)))) aj))) (ga vn.nd yV 1) (by kernel_rfl) (by intro _;rfl)) (Z4 (Ze (ae lX) ["_law_script","_law_some","_law_texts_here","_law_k"] ["_law_program"] (fJ (va j0 1)) (fun _ _ _ _=>(Z2 (i:=0) (show(["_law_program"]:List Str).Nodup by decide +kernel))) (fun _ _ _ _=>(Z0 LPT (Z9 (va (show Nm ["_law_program"] _ by show _=_;kernel_rfl) 0)))) (ga vn.nd yV 2)) (Z4 (Zl (@fJ _ _ _ _ (@bq _ _ _ _ (Z1 ao (Z1 ao (dP ao (Z9 ao)))))) (ga vn.nd yV 3) (Zc (Z8 (PW.pt (@iF _ _ _ _ _ _ _ (@d9 _ _ _ _ (Zo (Z0 LA (Z1 (Z0 PTX (Z1 (iU aN (va j0 1) (va j0 3) (fun _ _=>rfl)) aj)) (Z1 (iU aN (va j0 2) (va j0 3) (fun _ _=>rfl)) aj))))) (@f9 _ _ _ _ (@d9 _ _ _ _ (Zo (Z0 LA (Z1 (Z0 RPR (Z1 (iU aN (va j0 2) (va j0 3) (fun _ _=>rfl)) aj)) (Z1 (iU aN (va j0 1) (va j0 3) (fun _ _=>rfl)) aj)))))))) (aV (b7 yY))))) (aV (b7 yY))))),?_⟩
 try dsimp only[aU]
 try dsimp only[aU]
 fail "R"
 refine fD (n:=2) (fun i σ us H1=>(∃v,σ=[v,some (.ref a)])/\Mm K H i us H1) ⟨⟨none,rfl⟩,⟨[],aL.refl _,.nil,rfl,fun p h=>nomatch h⟩⟩ (fun i σ us H1 _ h=>?_) (small (by decide)) ?_ ?_
 ·obtain⟨_,⟨ps,_,r,e,_⟩⟩:=h
  have:=r.length
  rw[List.length_map]at this
  omega
 ·rintro i σ us H1 hi ⟨⟨v,rfl⟩,⟨ps,s1,r1,l1,o1⟩⟩
  have hS1:=s1.seq hS
  have i0:(0:Int)<=0+i:=by omega
  have i1:(0+i:Int)<=1000:=by omega
  fail "R"
  intro f2 H2 s2 hf2 ff2
  fail "R"
  intro v3 H3 ks ds x3 r3 po ft
  have s13:aL H1 H3:=fun b o e=>x3.1 b o (bG e hf2) (s2 b o e)
  refine⟨⟨_,rfl⟩,⟨ps++[(ks,ds)],s1.trans s13,?_,by rw[List.length_append,l1];rfl,fun p hp=>?_⟩⟩
  ·rw[List.map_append]
   exact(r1.same s13).append (.one r3)
  ·rcases List.mem_append.mp hp with hp|hp
   ·exact o1 p hp
   ·rw[List.mem_singleton.mp hp];exact⟨po,ft⟩
 rintro σ us H1 ⟨_,⟨ps,s1,r1,l1,o1⟩⟩ l2 hl2
 have s2:=ah hl2 (.lst us)
 have h2':upd H1 l2 (.lst us) l2=some (.lst us):=aa
 generalize upd H1 l2 (.lst us)=H2 at s2 h2' ⊢
 have r2:=r1.same s2
 fail "R"
 refine jy (K:=K) (e:=gT) (φ:=fun p=>[.s (gS p)]) (ps:=ps) (fun σ=>∃a,σ=[a]) h2' r2 (by omega) (fun _=>Nat.le_refl _) ⟨_,rfl⟩ ?_ ?_
 ·rintro p hp x _ H6 N s6 ⟨_,rfl⟩ rx kN
  obtain⟨po,pf⟩:=o1 p hp
  have rx:Rp K H6 (FW p.1 p.2) x:=rx
  fail "R"
  intro H7 s7
  exact kN _ _ _ ⟨⟨_,rfl⟩,s7,.one .s⟩
 intro l3 H3 ws3 s3 hl3 h3' r3
 rw[cH,show(fun p:Pg=>T.s (gS p))=T.s ∘ gS from rfl,←List.map_map]at r3
 obtain rfl:=r3.bO
 have h23:=s3 _ _ h2'
 have r23:=r2.same s3
 fail "R"
 intro l4 hl4
 have s4:=ah hl4 (.lst [.int 0,.int 1,.int 0,.int 1])
 have h4':upd H3 l4 (.lst [.int 0,.int 1,.int 0,.int 1]) l4=some (.lst [.int 0,.int 1,.int 0,.int 1]):=aa
 generalize upd H3 l4 (.lst [.int 0,.int 1,.int 0,.int 1])=H4 at s4 h4' ⊢
 fail "R"
 refine vC (K:=K) (xs:=[.int 0,.int 1,.int 0,.int 1]) (fun i σ H5=>(∃y,σ=[some (.ref a),some (.ref l2),some (.ref l3),y])/\Mn H4 H5) ⟨⟨_,rfl⟩,⟨aL.refl _⟩⟩ ?_ ?_ ?_
 ·rintro i σ H5 hi ⟨_,⟨s5⟩⟩
  exact bB.of (s5 _ _ h4')
 ·rintro i x σ H5 hx ⟨⟨y,rfl⟩,⟨s5⟩⟩
  obtain⟨q,hq,rfl⟩:∃q:Nat,q<ps.length/\x=.int (q:Int):=by
   have hm:=List.mem_of_getElem? hx
   simp only[List.mem_cons,List.not_mem_nil,or_false]at hm
   rcases hm with rfl|rfl|rfl|rfl
   ·exact⟨0,by omega,rfl⟩
   ·exact⟨1,by omega,rfl⟩
   ·exact⟨0,by omega,rfl⟩
   ·exact⟨1,by omega,rfl⟩
  have s35:=s4.trans s5
  have g:Ky ps[q]:=o1 _ (List.getElem_mem hq)
  obtain⟨v6,hv6,r6⟩:=(r23.same s35).get (i:=q) (x:=gT ps[q]) (by rw[List.getElem?_map,List.getElem?_eq_getElem hq];rfl)
  have av:cK us (q:Int)=some v6:=bh hv6
  have at':cK ((ps.map gS).map V.str) (q:Int)=some (.str (gS ps[q])):=bh (by rw[List.getElem?_map,List.getElem?_map,List.getElem?_eq_getElem hq];rfl)
  have h25:=s35 _ _ h23
  have h35:=s35 _ _ h3'
  have sq2:bB K H5 l2 us:=bB.of h25
  have sq3:bB K H5 l3 ((ps.map gS).map V.str):=bB.of h35
  obtain⟨po,pf⟩:=id g
  have twp:=Lw g
  have dpp:(gT ps[q]).dep<76:=by have:=Kh g;omega
  generalize ps[q]=p at r6 at' g po pf twp dpp
  have r6':Rp K H5 (FW p.1 p.2) v6:=r6
  have tws:Tw (.s (gS p)):=.s _
  have dss:(T.s (gS p)).dep<76:=by simp[T.dep]
  fail "R"
  intro H6 s6
  have sq26:bB K H6 l2 us:=bB.of (s6 _ _ h25)
  have sq36:bB K H6 l3 ((ps.map gS).map V.str):=bB.of (s6 _ _ h35)
  have q1:Rp K H6 (.s (gS p)) (.str (mh p.1 p.2)):=.s
  have q2:Rp K H6 (.s (gS p)) (.str (gS p)):=.s
  fail "R"
  intro H7 s7
  have s57:=s6.trans s7
  have sq27:bB K H7 l2 us:=bB.of (s57 _ _ h25)
  have sq37:bB K H7 l3 ((ps.map gS).map V.str):=bB.of (s57 _ _ h35)
  fail "R"
  intro v8 H8 s8 r8
  have s58:=s57.trans s8
  have sq28:bB K H8 l2 us:=bB.of (s58 _ _ h25)
  have r8':Rp K H8 (gT p) v8:=r8
  have r68:=r6.same s58
  fail "R"
  intro H9 s9
  fail "R"
  exact⟨s5.trans (s58.trans s9)⟩
 ·rintro σ H5 ⟨⟨y,rfl⟩,_⟩
  fail "R"
  exact k _
end
noncomputable def xM (K : PySem.W.Frag) : Sp := fun vs H Q _ => ∃ (hd : Str) (p : Addr) (us : List V), vs = [.str hd, .ref p] ∧ H p = some (.lst us) ∧
  ((∃ (h : Hd) (ks : List Tm) (ws : List Bw), cX (.mk h ks) ∧ lZ h = false ∧ bw (.mk h ks) = .g 40 (.a hd.cps.toList :: ws) ∧ aX K H (ws.map val) us ∧ ws.length ≤ 900 ∧ ∀ v' H', aL H H' → Rp K H' (enc (.mk h ks)) v' → Q v' H') ∨
   (bx hd ∧ ∀ H', aL H H' → Q .ik H'))
section
variable {P:Program}{w:World}{K:PySem.W.Frag}{mg:Str->Option Value}{base:Heap}{aO aS s1 s2 s3 s4 s5 s6 s7 gS gT gM gN gA:Addr}{sfd tfd mfd nfd afd:FuncData}
theorem aM:Nm ["head","items"] (ae eX):=by decide +kernel
theorem rK:aH ["head","items"] ["head","items"] (ae eX):=⟨rfl,rfl,rfl,by decide +kernel,rfl,by decide +kernel,by decide +kernel⟩
theorem BN{f:Addr}{fd:FuncData}(F:eN K "closed_term" "closed_term" eX f fd)(SH:bE P w K mg base "shaped" 4 ["shape","items"] (wL K) gS sfd)(TSO:bE P w K mg base "terms_of" 4 ["items"] (sW K) gM mfd)(TO:bE P w K mg base "term_of" 3 ["item"] (jB K) gT tfd)(NO:bE P w K mg base "name_of" 2 ["item"] fc gN nfd)(AO:bE P w K mg base "arm_of" 1 ["item"] (zW K) gA afd)
  (z_tuple:mg "tuple"=none) (mO:mg "OPS"=some (.ref aO)) (hO:∀H,bf K H aO wX) (mS:mg "SHAPES"=some (.ref aS)) (dS:KD K w aS (jS s1 s2 s3 s4 s5 s6 s7))
  (h1:∀H,bf K H s1 [.str "term",.str "term"]) (h2:∀H,bf K H s2 [.str "term"]) (h3:∀H,bf K H s3 [.str "term"]) (h4:∀H,bf K H s4 [.str "term"]) (h5:∀H,bf K H s5 [.str "term",.str "term",.str "term"]) (h6:∀H,bf K H s6 [.str "name",.str "term",.str "term"]) (h7:∀H,bf K H s7 [.str "term",.str "name",.str "name",.str "term",.str "term"]) :
  bK P w K mg base d8 5 f fd ["head","items"] (xM K):=by
 refine F.ok rK (fun vs H Q E h=>?_) (fun cdv A outer s H vs Q E hr h=>?_)
 ·obtain⟨_,_,_,rfl,_⟩:=h
  rfl
 obtain⟨hd,p,us,rfl,hp,hc⟩:=h
 refine⟨_,(Z4 (Z8 (fN iB (va aM 0) (d7 (v:=.ref aO) (by show _=_;kernel_rfl) mO rfl) (by with_unfolding_all rfl)) (Zc (Zf (Zd tU (Zj (Z1 ak (Z9 (va aM 0)))) (Z0 SH (Z1 (Zj (dP ak (Z9 ak))) (Z9 (va aM 1)))))))) (Z4 (Z8 (fN zB (va aM 0) (d7 (v:=.ref aS) (by show _=_;kernel_rfl) mS rfl) (by with_unfolding_all rfl)) (Zc (Zf (Zd tU (Zj (Z9 (va aM 0))) (Z0 SH (Z1 (pW (d7 (v:=.ref aS) (by show _=_;kernel_rfl) mS rfl) (va aM 0) (fun _ _=>rfl)) (Z9 (va aM 1)))))))) (Z4 (Z8 (Zi b9 (va aM 0) ak) (Zc (Zf (Zj (Z1 ak (Z1 (Z0 TSO (Z9 (va aM 1))) aj)))))) (Z4 (Z8 (PW.pt (@tP _ _ _ _ _ _ _ (Zi b9 (va aM 0) ak) (@pV _ _ _ _ (eT (va aM 1) (fun _=>rfl))))) (Zc (Zf (Zj (Z1 ak (Z1 (Z0 NO (Z1 (Zb aN (va aM 1)) aj)) (Z1 (Z0 TSO (Z1 (cC ic (va aM 1) (cN ao) cV) aj)) aj))))))) (Z4 (Z8 (PW.pt (@tP _ _ _ _ _ _ _ (Zi b9 (va aM 0) ak) (@pV _ _ _ _ (eT (va aM 1) (fun _=>rfl))))) (Zc (Zf (Zj (Z1 ak (Z1 (Z0 TO (Z1 (Zb aN (va aM 1)) aj)) (Z1 (Z6 aZ z_tuple PyProof.Rows.boot_tuple (Z1 (Za (ae eX) ["head","items"] ["item"] (@fJ _ _ _ _ (cC ic (va aM 1) (cN ao) cV)) (fun _ _ _ _=>(Z2 (i:=0) (show(["item"]:List Str).Nodup by decide +kernel))) (fun _ _ _ _=>(Z0 AO (Z9 (va (show Nm ["item"] _ by show _=_;kernel_rfl) 0))))) aj)) aj))))))) (Z4 (Z8 (Zo (cz PySem.F.plainAttrs_str PySem.F.slot_str_endswith PySem.F.type_str_endswith wU (va aM 0) (Z9 ak) (hbase:=by kernel_rfl) (hfew:=by kernel_rfl) (hline:=by kernel_rfl) (hs:=by kernel_rfl) (hplain:=by kernel_rfl))) (Zc (Zf (Zj (Z1 ak (Z1 (Z0 NO (Z1 (@cC _ _ _ _ _ _ _ _ _ _ ud (va aM 0) cV (cN (pg kj ao))) aj)) (Z1 (Z0 TSO (Z9 (va aM 1))) aj))))))) (aV (b7 BU)))))))),?_⟩
 try dsimp only[aU]
 try dsimp only[aU,rT]
 refine wg ?_
 intro N1 N2 N3 N4 N5 N6 c1 c2 c3 c4 c5 c6
 have hO0:=hO H
 rcases hc with⟨h,ks,ws,⟨ar,ho,hk⟩,hl,eb,r,hn,k⟩|⟨hx,k⟩
 ·have fl:=wY
  have kv:=wQ fun q hq=>je (hk q hq)
  have lw:=r.length
  rw[List.length_map]at lw
  cases h with
  |num n=>cases hl
  |name x=>cases hl
  |gap n=>cases hl
  |op s =>
   obtain⟨rfl,rfl⟩:=iQ (s:=s) rfl eb
   have arl:ks.length=2:=eq_of_beq (show(ks.length == 2)=true from ar)
   obtain⟨k1,k2,rfl⟩:=JW arl
   have r:aX K H (([.inl k1,.inl k2]:List Sx).map Er) us:=by
    have r':=r
    rw[kv]at r'
    exact r'
   have ok:∀z∈([.inl k1,.inl k2]:List Sx),uL z:=by
    intro z hz
    simp only[List.mem_cons,List.not_mem_nil,or_false]at hz
    rcases hz with rfl|rfl
    ·exact hk k1 (by simp)
    ·exact hk k2 (by simp)
   have n1:=HX (show hd∈f7 from ho)
   fail "R"
   refine EW n1 ?_
   fail "R"
   intro p1 hp1
   have s1':=ah hp1 (.tup [.str "op",.str hd])
   have h1':upd H p1 (.tup [.str "op",.str hd]) p1=some (.tup [.str "op",.str hd]):=aa
   generalize upd H p1 (.tup [.str "op",.str hd])=H1 at s1' h1' ⊢
   fail "R"
   intro p2 hp2
   have s2':=ah hp2 (.tup [.str "term",.str "term"])
   have h2':upd H1 p2 (.tup [.str "term",.str "term"]) p2=some (.tup [.str "term",.str "term"]):=aa
   generalize upd H1 p2 (.tup [.str "term",.str "term"])=H2 at s2' h2' ⊢
   have s02:=s1'.trans s2'
   have hx1:=s2' _ _ h1'
   have sqs:bf K H2 p2 (([.inl k1,.inl k2]:List Sx).map j4):=bf.of h2'
   have hp2':=s02 _ _ hp
   have r2':=r.same s02
   have l10:([.inl k1,.inl k2]:List Sx).length<=10:=Nat.le_of_ble_eq_true rfl
   fail "R"
   intro v' H3 s3' r3
   obtain⟨a3,us3,rfl,sq3,rs3⟩:=r3.aR
   have h3':=s3' _ _ hx1
   have lus3:=rs3.length
   have l3:us3.length=2:=lus3
   fail "R"
   ·simp
   refine⟨small (by rw[l3];exact Nat.le_of_ble_eq_true rfl),fun e=>absurd (congrArg List.length e) (by rw[l3];simp),fun _ p4 hp4=>k _ _ ((s02.trans s3').trans (Zs hp4)) ?_⟩
   rw[cS]
   exact Rp.new (K:=K) hp4 (.cons .s (.cons .s rs3))
  |more =>
   obtain⟨rfl,rfl⟩:=iQ (s:="more") rfl eb
   have arl:ks.length=2:=eq_of_beq (show(ks.length == 2)=true from ar)
   obtain⟨k1,k2,rfl⟩:=JW arl
   have r:aX K H (([.inl k1,.inl k2]:List Sx).map Er) us:=by
    have r':=r
    rw[kv]at r'
    exact r'
   have ok:∀z∈([.inl k1,.inl k2]:List Sx),uL z:=by
    intro z hz
    simp only[List.mem_cons,List.not_mem_nil,or_false]at hz
    rcases hz with rfl|rfl
    ·exact hk k1 (by simp)
    ·exact hk k2 (by simp)
   have n1:=ir (jT "more" (by decide +kernel))
   have n2:(jS s1 s2 s3 s4 s5 s6 s7).lookup ("more":Str)=some (.ref s1):=by unfold jS;rfl
   fail "R"
   intro p1 hp1
   have s1':=ah hp1 (.tup [.str "more"])
   have h1':upd H p1 (.tup [.str "more"]) p1=some (.tup [.str "more"]):=aa
   generalize upd H p1 (.tup [.str "more"])=H1 at s1' h1' ⊢
   have s02:=s1'
   have hx1:=h1'
   have sqs:bf K H1 s1 (([.inl k1,.inl k2]:List Sx).map j4):=h1 H1
   have hp2':=s02 _ _ hp
   have r2':=r.same s02
   have l10:([.inl k1,.inl k2]:List Sx).length<=10:=Nat.le_of_ble_eq_true rfl
   fail "R"
   intro v' H3 s3' r3
   obtain⟨a3,us3,rfl,sq3,rs3⟩:=r3.aR
   have h3':=s3' _ _ hx1
   have lus3:=rs3.length
   have l3:us3.length=2:=lus3
   fail "R"
   ·exact small (by rw[l3];exact Nat.le_of_ble_eq_true rfl)
   refine⟨fun e=>absurd (congrArg List.length e) (by rw[l3];simp),fun _ p4 hp4=>k _ _ ((s02.trans s3').trans (Zs hp4)) ?_⟩
   rw[cS]
   exact Rp.new (K:=K) hp4 (.cons .s rs3)
  |first =>
   obtain⟨rfl,rfl⟩:=iQ (s:="first") rfl eb
   have arl:ks.length=1:=eq_of_beq (show(ks.length == 1)=true from ar)
   obtain⟨k1,rfl⟩:=Kx arl
   have r:aX K H (([.inl k1]:List Sx).map Er) us:=by
    have r':=r
    rw[kv]at r'
    exact r'
   have ok:∀z∈([.inl k1]:List Sx),uL z:=by
    intro z hz
    simp only[List.mem_cons,List.not_mem_nil,or_false]at hz
    rcases hz with rfl
    ·exact hk k1 (by simp)
   have n1:=ir (jT "first" (by decide +kernel))
   have n2:(jS s1 s2 s3 s4 s5 s6 s7).lookup ("first":Str)=some (.ref s2):=by unfold jS;rfl
   fail "R"
   intro p1 hp1
   have s1':=ah hp1 (.tup [.str "first"])
   have h1':upd H p1 (.tup [.str "first"]) p1=some (.tup [.str "first"]):=aa
   generalize upd H p1 (.tup [.str "first"])=H1 at s1' h1' ⊢
   have s02:=s1'
   have hx1:=h1'
   have sqs:bf K H1 s2 (([.inl k1]:List Sx).map j4):=h2 H1
   have hp2':=s02 _ _ hp
   have r2':=r.same s02
   have l10:([.inl k1]:List Sx).length<=10:=Nat.le_of_ble_eq_true rfl
   fail "R"
   intro v' H3 s3' r3
   obtain⟨a3,us3,rfl,sq3,rs3⟩:=r3.aR
   have h3':=s3' _ _ hx1
   have lus3:=rs3.length
   have l3:us3.length=1:=lus3
   fail "R"
   ·exact small (by rw[l3];exact Nat.le_of_ble_eq_true rfl)
   refine⟨fun e=>absurd (congrArg List.length e) (by rw[l3];simp),fun _ p4 hp4=>k _ _ ((s02.trans s3').trans (Zs hp4)) ?_⟩
   rw[cS]
   exact Rp.new (K:=K) hp4 (.cons .s rs3)
  |others =>
   obtain⟨rfl,rfl⟩:=iQ (s:="others") rfl eb
   have arl:ks.length=1:=eq_of_beq (show(ks.length == 1)=true from ar)
   obtain⟨k1,rfl⟩:=Kx arl
   have r:aX K H (([.inl k1]:List Sx).map Er) us:=by
    have r':=r
    rw[kv]at r'
    exact r'
   have ok:∀z∈([.inl k1]:List Sx),uL z:=by
    intro z hz
    simp only[List.mem_cons,List.not_mem_nil,or_false]at hz
    rcases hz with rfl
    ·exact hk k1 (by simp)
   have n1:=ir (jT "others" (by decide +kernel))
   have n2:(jS s1 s2 s3 s4 s5 s6 s7).lookup ("others":Str)=some (.ref s3):=by unfold jS;rfl
   fail "R"
   intro p1 hp1
   have s1':=ah hp1 (.tup [.str "others"])
   have h1':upd H p1 (.tup [.str "others"]) p1=some (.tup [.str "others"]):=aa
   generalize upd H p1 (.tup [.str "others"])=H1 at s1' h1' ⊢
   have s02:=s1'
   have hx1:=h1'
   have sqs:bf K H1 s3 (([.inl k1]:List Sx).map j4):=h3 H1
   have hp2':=s02 _ _ hp
   have r2':=r.same s02
   have l10:([.inl k1]:List Sx).length<=10:=Nat.le_of_ble_eq_true rfl
   fail "R"
   intro v' H3 s3' r3
   obtain⟨a3,us3,rfl,sq3,rs3⟩:=r3.aR
   have h3':=s3' _ _ hx1
   have lus3:=rs3.length
   have l3:us3.length=1:=lus3
   fail "R"
   ·exact small (by rw[l3];exact Nat.le_of_ble_eq_true rfl)
   refine⟨fun e=>absurd (congrArg List.length e) (by rw[l3];simp),fun _ p4 hp4=>k _ _ ((s02.trans s3').trans (Zs hp4)) ?_⟩
   rw[cS]
   exact Rp.new (K:=K) hp4 (.cons .s rs3)
  |long =>
   obtain⟨rfl,rfl⟩:=iQ (s:="long") rfl eb
   have arl:ks.length=1:=eq_of_beq (show(ks.length == 1)=true from ar)
   obtain⟨k1,rfl⟩:=Kx arl
   have r:aX K H (([.inl k1]:List Sx).map Er) us:=by
    have r':=r
    rw[kv]at r'
    exact r'
   have ok:∀z∈([.inl k1]:List Sx),uL z:=by
    intro z hz
    simp only[List.mem_cons,List.not_mem_nil,or_false]at hz
    rcases hz with rfl
    ·exact hk k1 (by simp)
   have n1:=ir (jT "long" (by decide +kernel))
   have n2:(jS s1 s2 s3 s4 s5 s6 s7).lookup ("long":Str)=some (.ref s4):=by unfold jS;rfl
   fail "R"
   intro p1 hp1
   have s1':=ah hp1 (.tup [.str "long"])
   have h1':upd H p1 (.tup [.str "long"]) p1=some (.tup [.str "long"]):=aa
   generalize upd H p1 (.tup [.str "long"])=H1 at s1' h1' ⊢
   have s02:=s1'
   have hx1:=h1'
   have sqs:bf K H1 s4 (([.inl k1]:List Sx).map j4):=h4 H1
   have hp2':=s02 _ _ hp
   have r2':=r.same s02
   have l10:([.inl k1]:List Sx).length<=10:=Nat.le_of_ble_eq_true rfl
   fail "R"
   intro v' H3 s3' r3
   obtain⟨a3,us3,rfl,sq3,rs3⟩:=r3.aR
   have h3':=s3' _ _ hx1
   have lus3:=rs3.length
   have l3:us3.length=1:=lus3
   fail "R"
   ·exact small (by rw[l3];exact Nat.le_of_ble_eq_true rfl)
   refine⟨fun e=>absurd (congrArg List.length e) (by rw[l3];simp),fun _ p4 hp4=>k _ _ ((s02.trans s3').trans (Zs hp4)) ?_⟩
   rw[cS]
   exact Rp.new (K:=K) hp4 (.cons .s rs3)
  |ife =>
   obtain⟨rfl,rfl⟩:=iQ (s:="if") rfl eb
   have arl:ks.length=3:=eq_of_beq (show(ks.length == 3)=true from ar)
   obtain⟨k1,k2,k3,rfl⟩:=GI arl
   have r:aX K H (([.inl k1,.inl k2,.inl k3]:List Sx).map Er) us:=by
    have r':=r
    rw[kv]at r'
    exact r'
   have ok:∀z∈([.inl k1,.inl k2,.inl k3]:List Sx),uL z:=by
    intro z hz
    simp only[List.mem_cons,List.not_mem_nil,or_false]at hz
    rcases hz with rfl|rfl|rfl
    ·exact hk k1 (by simp)
    ·exact hk k2 (by simp)
    ·exact hk k3 (by simp)
   have n1:=ir (jT "if" (by decide +kernel))
   have n2:(jS s1 s2 s3 s4 s5 s6 s7).lookup ("if":Str)=some (.ref s5):=by unfold jS;rfl
   fail "R"
   intro p1 hp1
   have s1':=ah hp1 (.tup [.str "if"])
   have h1':upd H p1 (.tup [.str "if"]) p1=some (.tup [.str "if"]):=aa
   generalize upd H p1 (.tup [.str "if"])=H1 at s1' h1' ⊢
   have s02:=s1'
   have hx1:=h1'
   have sqs:bf K H1 s5 (([.inl k1,.inl k2,.inl k3]:List Sx).map j4):=h5 H1
   have hp2':=s02 _ _ hp
   have r2':=r.same s02
   have l10:([.inl k1,.inl k2,.inl k3]:List Sx).length<=10:=Nat.le_of_ble_eq_true rfl
   fail "R"
   intro v' H3 s3' r3
   obtain⟨a3,us3,rfl,sq3,rs3⟩:=r3.aR
   have h3':=s3' _ _ hx1
   have lus3:=rs3.length
   have l3:us3.length=3:=lus3
   fail "R"
   ·exact small (by rw[l3];exact Nat.le_of_ble_eq_true rfl)
   refine⟨fun e=>absurd (congrArg List.length e) (by rw[l3];simp),fun _ p4 hp4=>k _ _ ((s02.trans s3').trans (Zs hp4)) ?_⟩
   rw[cS]
   exact Rp.new (K:=K) hp4 (.cons .s rs3)
  |lt x =>
   obtain⟨rfl,rfl⟩:=iQ (s:="let") rfl eb
   have arl:ks.length=2:=eq_of_beq (show(ks.length == 2)=true from ar)
   obtain⟨k1,k2,rfl⟩:=JW arl
   have r:aX K H (([.inr x,.inl k1,.inl k2]:List Sx).map Er) us:=by
    have r':=r
    rw[List.map_cons,cA,kv]at r'
    exact r'
   have ok:∀z∈([.inr x,.inl k1,.inl k2]:List Sx),uL z:=by
    intro z hz
    simp only[List.mem_cons,List.not_mem_nil,or_false]at hz
    rcases hz with rfl|rfl|rfl
    ·exact ho
    ·exact hk k1 (by simp)
    ·exact hk k2 (by simp)
   have n1:=ir (jT "let" (by decide +kernel))
   have n2:(jS s1 s2 s3 s4 s5 s6 s7).lookup ("let":Str)=some (.ref s6):=by unfold jS;rfl
   fail "R"
   intro p1 hp1
   have s1':=ah hp1 (.tup [.str "let"])
   have h1':upd H p1 (.tup [.str "let"]) p1=some (.tup [.str "let"]):=aa
   generalize upd H p1 (.tup [.str "let"])=H1 at s1' h1' ⊢
   have s02:=s1'
   have hx1:=h1'
   have sqs:bf K H1 s6 (([.inr x,.inl k1,.inl k2]:List Sx).map j4):=h6 H1
   have hp2':=s02 _ _ hp
   have r2':=r.same s02
   have l10:([.inr x,.inl k1,.inl k2]:List Sx).length<=10:=Nat.le_of_ble_eq_true rfl
   fail "R"
   intro v' H3 s3' r3
   obtain⟨a3,us3,rfl,sq3,rs3⟩:=r3.aR
   have h3':=s3' _ _ hx1
   have lus3:=rs3.length
   have l3:us3.length=3:=lus3
   fail "R"
   ·exact small (by rw[l3];exact Nat.le_of_ble_eq_true rfl)
   refine⟨fun e=>absurd (congrArg List.length e) (by rw[l3];simp),fun _ p4 hp4=>k _ _ ((s02.trans s3').trans (Zs hp4)) ?_⟩
   rw[cS]
   exact Rp.new (K:=K) hp4 (.cons .s rs3)
  |fold x y =>
   obtain⟨rfl,rfl⟩:=iQ (s:="fold") rfl eb
   have arl:ks.length=3:=eq_of_beq (show(ks.length == 3)=true from ar)
   obtain⟨k1,k2,k3,rfl⟩:=GI arl
   have r:aX K H (([.inl k1,.inr x,.inr y,.inl k2,.inl k3]:List Sx).map Er) us:=by
    have r':=r
    have e1:=je (hk k1 (by simp))
    have e2:=je (hk k2 (by simp))
    have e3:=je (hk k3 (by simp))
    have r2:aX K H [val (bw k1),val (bF x),val (bF y),val (bw k2),val (bw k3)] us:=r'
    rw[e1,e2,e3,cA,cA]at r2
    exact r2
   have ok:∀z∈([.inl k1,.inr x,.inr y,.inl k2,.inl k3]:List Sx),uL z:=by
    intro z hz
    simp only[List.mem_cons,List.not_mem_nil,or_false]at hz
    rcases hz with rfl|rfl|rfl|rfl|rfl
    ·exact hk k1 (by simp)
    ·exact ho.1
    ·exact ho.2
    ·exact hk k2 (by simp)
    ·exact hk k3 (by simp)
   have n1:=ir (jT "fold" (by decide +kernel))
   have n2:(jS s1 s2 s3 s4 s5 s6 s7).lookup ("fold":Str)=some (.ref s7):=by unfold jS;rfl
   fail "R"
   intro p1 hp1
   have s1':=ah hp1 (.tup [.str "fold"])
   have h1':upd H p1 (.tup [.str "fold"]) p1=some (.tup [.str "fold"]):=aa
   generalize upd H p1 (.tup [.str "fold"])=H1 at s1' h1' ⊢
   have s02:=s1'
   have hx1:=h1'
   have sqs:bf K H1 s7 (([.inl k1,.inr x,.inr y,.inl k2,.inl k3]:List Sx).map j4):=h7 H1
   have hp2':=s02 _ _ hp
   have r2':=r.same s02
   have l10:([.inl k1,.inr x,.inr y,.inl k2,.inl k3]:List Sx).length<=10:=Nat.le_of_ble_eq_true rfl
   fail "R"
   intro v' H3 s3' r3
   obtain⟨a3,us3,rfl,sq3,rs3⟩:=r3.aR
   have h3':=s3' _ _ hx1
   have lus3:=rs3.length
   have l3:us3.length=5:=lus3
   fail "R"
   ·exact small (by rw[l3];exact Nat.le_of_ble_eq_true rfl)
   refine⟨fun e=>absurd (congrArg List.length e) (by rw[l3];simp),fun _ p4 hp4=>k _ _ ((s02.trans s3').trans (Zs hp4)) ?_⟩
   rw[cS]
   exact Rp.new (K:=K) hp4 (.cons .s rs3)
  |row =>
   obtain⟨rfl,rfl⟩:=iQ (s:="row") rfl eb
   rw[kv]at r
   have lk:ks.length<=900:=by have:=r.length;rw[List.length_map]at this hn;omega
   fail "R"
   intro v' H1 s1' r1
   fail "R"
   intro p2 hp2
   refine k _ _ (s1'.trans (Zs hp2)) ?_
   rw[cS]
   exact Rp.new (K:=K) hp2 (.cons .s (.one r1))
  |call g =>
   obtain⟨rfl,rfl⟩:=iQ (s:="call") rfl eb
   rw[List.map_cons,cA,kv]at r
   obtain⟨v1,us1,rfl,g1,r1⟩:=r.inv
   obtain rfl:=g1.aG
   have hg:bx g:=ho
   have a0:cK (V.str g::us1) 0=some (V.str g):=iS _ _
   fail "R"
   intro H1 s1'
   have hp1:=s1' _ _ hp
   have r2:=r1.same s1'
   have ec:fH (V.str g::us1) (some 1) none=us1:=fF _ _
   have lk:ks.length<=900:=by simp only[List.length_cons,List.length_map]at hn;omega
   fail "R"
   rw[ec]
   intro p3 hp3
   have s3':=ah hp3 (.lst us1)
   have h3':upd H1 p3 (.lst us1) p3=some (.lst us1):=aa
   have r3:=r2.same s3'
   generalize upd H1 p3 (.lst us1)=H3 at s3' h3' r3⊢
   fail "R"
   intro v' H4 s4' r4
   fail "R"
   intro p5 hp5
   refine k _ _ (((s1'.trans s3').trans s4').trans (Zs hp5)) ?_
   rw[cS]
   exact Rp.new (K:=K) hp5 (.cons .s (.cons .s (.one r4)))
  |tag t =>
   obtain⟨rfl,rfl⟩:=FE eb
   rw[kv]at r
   have ht:bx t:=ho
   obtain⟨f1,f2,f3,f4⟩:=Bq ht
   have n1:=ir f1
   have n2:=wZ s1 s2 s3 s4 s5 s6 s7 f2
   have n4:au (t.cps.toList++[58])≠("row":Str):=fun e=>f3 (e▸by decide +kernel)
   have n5:au (t.cps.toList++[58])≠("call":Str):=fun e=>f3 (e▸by decide +kernel)
   have n6:au (t.cps.toList++[58])≠("match":Str):=fun e=>f3 (e▸by decide +kernel)
   fail "R"
   refine rR n1 ?_
   fail "R"
   refine rR (by rw[n2];rfl) ?_
   fail "R"
   refine rR (Je n4) ?_
   fail "R"
   refine rR (Je n5) ?_
   fail "R"
   refine rR (Je n6) ?_
   fail "R"
   refine EW f4 ?_
   have hne:t.cps.toList++[58]≠[]:=by simp
   have es:=qU hne
   rw[List.dropLast_concat,az]at es
   have ll:(au (t.cps.toList++[58])).length<=sizeLine:=small (by
    rw[aI,List.length_append]
    have e:t.cps.toList.length=t.length:=by show _=t.cps.size;simp
    have:=ht.2.1
    rw[e]
    show t.length+1<=1000
    omega)
   have lk:ks.length<=900:=by have:=r.length;rw[List.length_map]at this hn;omega
   have hts:bx (Txt.slice (au (t.cps.toList++[58])) none (some (-1))):=by rw[es];exact ht
   fail "R"
   intro H1 s1'
   have hp1:=s1' _ _ hp
   have r2:=r.same s1'
   fail "R"
   intro v' H2 s2' r3
   fail "R"
   intro p2 hp2
   refine k _ _ ((s1'.trans s2').trans (Zs hp2)) ?_
   rw[cS,es]
   exact Rp.new (K:=K) hp2 (.cons .s (.cons .s (.one r3)))
  |mat arms =>
   obtain⟨rfl,rfl⟩:=iQ (s:="match") rfl eb
   have arl:ks.length=arms.length+1:=eq_of_beq (show(ks.length == arms.length+1)=true from ar)
   cases ks with
   |nil=>cases arl
   |cons k0 kr =>
    have ho':∀a∈arms,bx a.1:=fun a ha=>(ho a ha).1
    have r':aX K H (val (bw k0)::(List.zipWith cW arms (kr.map bw)).map val) us:=r
    rw[je (hk k0 (.head _)),sX ho' fun q hq=>hk q (.tail _ hq)]at r'
    obtain⟨v1,us1,rfl,g1,r1⟩:=r'.inv
    have a0:cK (v1::us1) 0=some v1:=iS _ _
    have hk0:=hk k0 (.head _)
    fail "R"
    intro v2 H1 s1' g2
    have hp1:=s1' _ _ hp
    have r2:=r1.same s1'
    have ec:fH (v1::us1) (some 1) none=us1:=fF _ _
    fail "R"
    rw[ec]
    intro p3 hp3
    have s3':=ah hp3 (.lst us1)
    have h3':upd H1 p3 (.lst us1) p3=some (.lst us1):=aa
    have r3:=r2.same s3'
    have g3:=g2.same s3'
    generalize upd H1 p3 (.lst us1)=H3 at s3' h3' r3 g3⊢
    have lz:(arms.zip kr).length<=900:=by have:=r3.length;rw[List.length_map]at this;rw[List.length_cons]at lw;omega
    have hsl:bB K H3 p3 us1:=bB.of h3'
    fail "R"
    refine jy (K:=K) (e:=JX) (φ:=fun z=>[jd z.1 (enc z.2)]) (ps:=arms.zip kr) (fun σ=>∃x,σ=[x]) h3' r3 lz (fun _=>Nat.le_refl _) ⟨_,rfl⟩ ?_ ?_
    ·rintro q hq x σ H4 N s4 ⟨y,rfl⟩ rx kN
     have rx':Rp K H4 (.t [.s "arm",jd q.1 (enc q.2)]) x:=rx
     fail "R"
     intro v5 r5
     exact kN _ _ _ ⟨⟨_,rfl⟩,aL.refl _,.one r5⟩
    ·intro l H' us' s4 hl h4 r4
     rw[cH,lG]at r4
     have lus:=r4.length
     have lus2:us'.length<=sizeLine:=small (by
      rw[lus,List.length_zipWith,List.length_map]
      rw[List.length_zip]at lz
      omega)
     have g4:=g3.same s4
     fail "R"
     refine .inl ⟨bB.of h4,fun p5 hp5=>?_⟩
     have s5':=ah hp5 (.tup us')
     have r5:Rp K _ _ _:=Rp.new (K:=K) hp5 r4
     have g5:=g4.same s5'
     generalize upd H' p5 (.tup us')=H5 at s5' r5 g5⊢
     fail "R"
     intro p6 hp6
     refine k _ _ ((((s1'.trans s3').trans s4).trans s5').trans (Zs hp6)) ?_
     rw[cS]
     exact Rp.new (K:=K) hp6 (.cons .s (.cons g5 (.one r5)))
 ·have n1:=ir (Dt hx)
  have n2:=wZ s1 s2 s3 s4 s5 s6 s7 (HY hx)
  have fl:=wY
  have n3:=Br hx
  have n4:hd≠"row":=kQ hx (by decide +kernel)
  have n5:hd≠"call":=kQ hx (by decide +kernel)
  have n6:hd≠"match":=kQ hx (by decide +kernel)
  fail "R"
  refine rR n1 ?_
  fail "R"
  refine rR (by rw[n2];rfl) ?_
  fail "R"
  refine rR (Je n4) ?_
  fail "R"
  refine rR (Je n5) ?_
  fail "R"
  refine rR (Je n6) ?_
  fail "R"
  refine rR n3 ?_
  fail "R"
  exact k _ (aL.refl _)
end
section
variable {P:Program}{w:World}{K:PySem.W.Frag}{mg:Str->Option Value}{base:Heap}{gC gT gN:Addr}{cfd tfd nfd:FuncData}
theorem bQ:Nm ["opener","items","term","names"] (ae eG):=by decide +kernel
theorem mD:Lm ["opener","items","term","names"] (ae eG):=by decide +kernel
theorem jh:aH ["opener","items","term","names"] ["opener","items"] (ae eG):=⟨rfl,rfl,rfl,by decide +kernel,rfl,by decide +kernel,by decide +kernel⟩
theorem El{f:Addr}{fd:FuncData}(F:eN K "close_term" "close_term" eG f fd)(CDT:bE P w K mg base "closed_term" 5 ["head","items"] (xM K) gC cfd)(TO:bE P w K mg base "term_of" 3 ["item"] (jB K) gT tfd)(NO:bE P w K mg base "name_of" 2 ["item"] fc gN nfd)
  (z_tuple:mg "tuple"=none) (z_isinstance:mg "isinstance"=none) (z_str:mg "str"=none) (z_len:mg "len"=none) :
  bK P w K mg base d8 6 f fd ["opener","items"] (jM (RT K) GJ):=by
 refine F.ok jh (fun vs H Q E h=>?_) (fun cdv A outer s H vs Q E hr h=>?_)
 ·obtain⟨_,_,_,_,_,rfl,_⟩:=h
  rfl
 obtain⟨c,ws,p,us,M,rfl,⟨hg,hsm⟩,hp,_,hv,k0⟩:=h
 have k:∀(v:V) (H':Hp) (t:T),aL H H'->Rp K H' t v->t=val (.g c ws)->Q v H':=fun v H' t s r e=>k0 v H' s (by show Rp K H' (val (.g c ws)) v;rw[←e];exact r)
 have r:=Ah hv
 clear k0 hv
 refine⟨_,(Z4 (Z8 (PW.pt (@iF _ _ _ _ _ _ _ (Zi ji (va bQ 0) ak) (@iF _ _ _ _ _ _ _ (@d9 _ _ _ _ (eT (va bQ 1) (fun _=>rfl))) (@f9 _ _ _ _ (@d9 _ _ _ _ (Zo (Z3 (gk K rfl) z_isinstance PyProof.Rows.boot_isinstance (Z1 (Zb aN (va bQ 1)) (Z9 (Zg (v:=.ty "str") z_str)))))))))) (aV b8)) (Z4 (Z5 jh.nd mD 2 (Z0 CDT (Z1 (Zb aN (va bQ 1)) (Z1 (cC ic (va bQ 1) (cN ao) cV) aj)))) (Z4 (Z8 (Zi EC (va bQ 2) BU) (Zc (Zf (Zj (Z1 ak (Z9 (va bQ 2))))))) (Z4 (Z8 (Zr ny (Z3 aY z_len PySem.boot_len (Z9 (va bQ 1))) ao) (aV b8)) (Z4 (Z5 jh.nd mD 3 (Z6 aZ z_tuple PyProof.Rows.boot_tuple (Z1 (Za (ae eG) ["opener","items","term","names"] ["item"] (@fJ _ _ _ _ (@cC _ _ _ _ _ _ _ _ _ _ ic (va bQ 1) (cN ao) (cN (pg kj ao)))) (fun _ _ _ _=>(Z2 (i:=0) (show(["item"]:List Str).Nodup by decide +kernel))) (fun _ _ _ _=>(Z0 NO (Z9 (va (show Nm ["item"] _ by show _=_;kernel_rfl) 0))))) aj))) (Zc (Zf (Zj (Z1 ak (Z1 (Zj (Z1 (Z0 NO (Z1 (Zb aN (va bQ 1)) aj)) (Z1 (va bQ 3) (Z1 (Z0 TO (Z1 (iU aN (va bQ 1) (pg kj ao) (fun _ _=>rfl)) aj)) aj)))) aj)))))))))),?_⟩
 try dsimp only[aU]
 try dsimp only[aU,rT]
 unfold rW at hsm
 have hsm1:=hsm.1
 have lus:=r.length
 rw[List.length_map]at lus
 obtain⟨rfl,hcs⟩:=Ib hg
 refine nP ?_
 intro N1 N2 N3 N4 N5 c1 c2 c3 c4 c5
 rcases hcs with⟨hd,h,ks,ws',ht,hl,eb,rfl⟩|⟨a,kt,ha,hx,hkt,ea,rfl⟩
 ·have vv:=je ht
  rw[FA (tm:=.mk h ks) hl,eb]at vv
  have r':aX K H (.s (au hd.cps.toList)::ws'.map val) us:=r
  rw[az]at r'
  obtain⟨v1,us1,rfl,g1,r1⟩:=r'.inv
  obtain rfl:=g1.aG
  have a0:cK (V.str hd::us1) 0=some (V.str hd):=iS _ _
  have ec:fH (V.str hd::us1) (some 1) none=us1:=fF _ _
  fail "R"
  refine .inr (.inl ⟨_,rfl,?_⟩)
  fail "R"
  rw[ec]
  intro p1 hp1
  have s1:=ah hp1 (.lst us1)
  have h1:upd H p1 (.lst us1) p1=some (.lst us1):=aa
  have r2:=r1.same s1
  generalize upd H p1 (.lst us1)=H1 at s1 h1 r2⊢
  fail "R"
  refine .inl ⟨h,ks,ws',ht,hl,eb,r2,by rw[List.length_cons]at hsm1;omega,fun v2 H2 s2 r3=>?_⟩
  obtain⟨es,ee⟩:∃ts,enc (.mk h ks)=.t ts:=by rw[cS];cases h<;>exact⟨_,rfl⟩
  have r3':=r3
  rw[ee]at r3'
  obtain⟨a3,us3,rfl,sq3,rs3⟩:=r3'.aR
  fail "R"
  intro p4 hp4
  exact k _ _ _ ((s1.trans s2).trans (Zs hp4)) (Rp.new (K:=K) hp4 (.cons .s (.one r3))) vv.symm
 ·have r':aX K H (val (bF a.1)::(a.2.map bF++[bw kt]).map val) us:=r
  rw[cA,List.map_append]at r'
  have r':aX K H (.s a.1::((a.2.map bF).map val++[val (bw kt)])) us:=r'
  rw[je hkt,List.map_map,show(val ∘ bF)=T.s from funext cA]at r'
  obtain⟨v1,us1,rfl,g1,r1⟩:=r'.inv
  obtain rfl:=g1.aG
  obtain⟨us2,v3,rfl,r2,g3⟩:=aX.snoc_inv r1
  have a0:cK (V.str a.1::(us2++[v3])) 0=some (V.str a.1):=iS _ _
  have a1:cK (V.str a.1::(us2++[v3])) (-1)=some v3:=pY (n:=us2.length+1) (by simp) (by simp)
  have ec:fH (V.str a.1::(us2++[v3])) (some 1) none=us2++[v3]:=fF _ _
  have ec2:fH (V.str a.1::(us2++[v3])) (some 1) (some (-1))=us2:=Ic _ _ _
  fail "R"
  refine .inr (.inl ⟨_,rfl,?_⟩)
  fail "R"
  rw[ec]
  intro p1 hp1
  have s1:=ah hp1 (.lst (us2++[v3]))
  have h1:upd H p1 (.lst (us2++[v3])) p1=some (.lst (us2++[v3])):=aa
  generalize upd H p1 (.lst (us2++[v3]))=H1 at s1 h1⊢
  fail "R"
  refine .inr ⟨ha,fun H2 s2=>?_⟩
  have s02:=s1.trans s2
  have hp2:=s02 _ _ hp
  have l2:(2:Int)<=(((V.str a.1::(us2++[v3])).length:Nat):Int):=by simp;omega
  fail "R"
  refine rR (decide_eq_false (by omega)) ?_
  fail "R"
  rw[ec2]
  intro p3 hp3
  have s3:=ah hp3 (.lst us2)
  have h3:upd H2 p3 (.lst us2) p3=some (.lst us2):=aa
  have hp3':=s3 _ _ hp2
  have r3:=(r2.same s02).same s3
  have g4:=(g3.same s02).same s3
  have s03:=s02.trans s3
  generalize upd H2 p3 (.lst us2)=H3 at s3 h3 hp3' r3 g4 s03⊢
  have lz:a.2.length<=900:=by simp only[List.length_cons,List.length_append,List.length_map]at hsm1;omega
  have hsl:bB K H3 p3 us2:=bB.of h3
  fail "R"
  refine jy (K:=K) (e:=T.s) (φ:=fun z=>[T.s z]) (ps:=a.2) (fun σ=>∃x,σ=[x]) h3 r3 lz (fun _=>Nat.le_refl _) ⟨_,rfl⟩ ?_ ?_
  ·rintro q hq x σ H4 N s4 ⟨y,rfl⟩ rx kN
   have hq':=hx q hq
   obtain rfl:=(show Rp K H4 (.s q) x from rx).aG
   fail "R"
   intro H5 s5
   exact kN _ _ _ ⟨⟨_,rfl⟩,s5,.one .s⟩
  ·intro l H' us' s4 hl h4 r4
   rw[cH]at r4
   have lus:=r4.length
   have lus2:us'.length<=sizeLine:=small (by rw[lus,List.length_map];omega)
   have g5:=g4.same s4
   have hp4':=s4 _ _ hp3'
   fail "R"
   refine .inl ⟨bB.of h4,fun p5 hp5=>?_⟩
   have s5:=ah hp5 (.tup us')
   have r5:Rp K (upd H' p5 (.tup us')) (.t (a.2.map T.s)) (.ref p5):=Rp.new (K:=K) hp5 r4
   have g6:=g5.same s5
   have hp5':=s5 _ _ hp4'
   have s05:=(s03.trans s4).trans s5
   generalize upd H' p5 (.tup us')=H5 at s5 r5 g6 hp5' s05⊢
   fail "R"
   intro H6 s6
   have hp6':=s6 _ _ hp5'
   have g7:=g6.same s6
   have r6:=r5.same s6
   fail "R"
   intro v7 H7 s7 g8
   have r7:=r6.same s7
   fail "R"
   intro p8 hp8
   have r8:Rp K _ _ _:=Rp.new (K:=K) hp8 (.cons (.s (x:=a.1)) (.cons r7 (.one g8)))
   have s8:=ah hp8 (.tup [.str a.1,.ref p5,v7])
   have s08:=((s05.trans s6).trans s7).trans s8
   generalize upd H7 p8 (.tup [.str a.1,.ref p5,v7])=H8 at r8 s8 s08⊢
   fail "R"
   intro p9 hp9
   refine k _ _ _ (s08.trans (Zs hp9)) (Rp.new (K:=K) hp9 (.cons (.s (x:="arm")) (.one r8))) ?_
   show _=val (Bw.g 40 _)
   rw[ea,uN ha hkt (je hkt)]
   rfl
end
theorem len0{α:Type}{P:List α->Prop}(h:P []):∀us:List α,us.length=0->P us
 | [],_=>h
theorem fj{α:Type}{P:List α->Prop}(h:∀a,P [a]):∀us:List α,us.length=1->P us
 | [a],_=>h a
theorem j7{α:Type}{P:List α->Prop}(h:∀a b,P [a,b]):∀us:List α,us.length=2->P us
 | [a,b],_=>h a b
theorem Gj{α:Type}{P:List α->Prop}(h:∀a b c,P [a,b,c]):∀us:List α,us.length=3->P us
 | [a,b,c],_=>h a b c
theorem Lx{α:Type}{P:List α->Prop}(h:∀a b c d,P [a,b,c,d]):∀us:List α,us.length=4->P us
 | [a,b,c,d],_=>h a b c d
theorem Ly{α:Type}{P:List α->Prop}(h:∀a b c d e,P [a,b,c,d,e]):∀us:List α,us.length=5->P us
 | [a,b,c,d,e],_=>h a b c d e
section
variable {P:Program}{w:World}{K:PySem.W.Frag}{mg:Str->Option Value}{base:Heap}{gA gI gT gL gR:Addr}{afd ifd tfd lfd rfd:FuncData}
theorem vo(F:eN K "_law_kind_text" "_law_kind_text" eZ gA afd)(mA:mg "_law_kind_text"=some (.ref gA))(bA:Binds K afd ["_law_kind"] [])(z_str:mg "str"=none):∀n,bK P w K mg base d8 (n+1) gA afd ["_law_kind"] (pG K n)
 |0=>pX fun vs H Q E ⟨_,_,_,_,_,_,_,h,_⟩=>by omega
 |n+1=>IC (j:=n+1) (by omega) F ⟨vo F mA bA z_str n,mA,F.kp,bA⟩ z_str
theorem tM(F:eN K "_law_alike" "_law_alike" iE gA afd)(mA:mg "_law_alike"=some (.ref gA))(bA:Binds K afd ["_law_found","_law_due"] [])(z_tuple:mg "tuple"=none)(z_str:mg "str"=none)(z_int:mg "int"=none)(z_bool:mg "bool"=none)(z_isinstance:mg "isinstance"=none)(z_len:mg "len"=none)(z_all:mg "all"=none)(z_zip:mg "zip"=none):∀n,bK P w K mg base d8 (n+1) gA afd ["_law_found","_law_due"] (qi K n)
 |0=>pX fun vs H Q E ⟨_,_,_,_,_,_,_,h,_⟩=>by omega
 |n+1=>D6 (j:=n+1) (by omega) F ⟨tM F mA bA z_tuple z_str z_int z_bool z_isinstance z_len z_all z_zip n,mA,F.kp,bA⟩ z_tuple z_str z_int z_bool z_isinstance z_len z_all z_zip
theorem AA(F:eN K "_law_term_text" "_law_term_text" cQ gA afd)(mA:mg "_law_term_text"=some (.ref gA))(bA:Binds K afd ["_law_term"] [])(FI:eN K "_law_texts" "_law_texts" iD gI ifd)(mI:mg "_law_texts"=some (.ref gI))(bI:Binds K ifd ["_law_terms"] [])(z_str:mg "str"=none)(z_int:mg "int"=none)(z_isinstance:mg "isinstance"=none):∀n,bK P w K mg base d8 (2*n+1) gA afd ["_law_term"] (xC K n)
 |0=>pX fun vs H Q E ⟨_,_,_,_,_,_,h,_⟩=>by omega
 |n+1=>by
  have ih:=AA F mA bA FI mI bI z_str z_int z_isinstance n
  rw[show 2*(n+1)+1=2*n+1+2 by omega]
  exact II (j:=2*n+1) (by omega) F ⟨ih,mA,F.kp,bA⟩ ⟨IG FI ⟨ih,mA,F.kp,bA⟩,mI,FI.kp,bI⟩ z_str z_int z_isinstance
theorem AB(F:eN K "_law_any_term" "_law_any_term" dO gA afd)(mA:mg "_law_any_term"=some (.ref gA))(bA:Binds K afd ["_law_feed_here","_law_scene","_law_room","_law_down"] [])(FI:eN K "_law_any_inner" "_law_any_inner" dm gI ifd)(mI:mg "_law_any_inner"=some (.ref gI))(bI:Binds K ifd ["_law_feed_here","_law_scene","_law_many","_law_room","_law_down"] [])
  (TK:bE P w K mg base "_law_take" 1 ["_law_feed_here","_law_many"] iI gT tfd) (ALF:bE P w K mg base "_law_any_leaf" 3 ["_law_feed_here","_law_scene"] (yU K) gL lfd) (AAR:bE P w K mg base "_law_any_arms" 2 ["_law_feed_here","_law_scene","_law_terms"] (Ec K) gR rfd) (z_min:mg "min"=none) (z_max:mg "max"=none) (z_range:mg "range"=none) (z_tuple:mg "tuple"=none) (z_len:mg "len"=none):∀n,bK P w K mg base d8 (2*n+4) gA afd ["_law_feed_here","_law_scene","_law_room","_law_down"] (rH K n)
 |0=>pX fun vs H Q E ⟨_,_,_,_,_,_,_,_,_,_,h,_⟩=>by omega
 |n+1=>by
  have ih:=AB F mA bA FI mI bI TK ALF AAR z_min z_max z_range z_tuple z_len n
  rw[show 2*(n+1)+4=2*n+4+1+1 by omega]
  exact IZ (j:=2*n+4+1) (by omega) F TK ALF ⟨IS FI ⟨ih,mA,F.kp,bA⟩ z_min z_max z_range z_tuple,mI,FI.kp,bI⟩ AAR z_len z_range
end
end G09
namespace G09
open PySem L2 PySem.W
structure FnAt(K:Frag) (x qual:Str) (st:Stmt) (f:Addr) (fd:FuncData):Prop where
 ex:∃(od:Option Addr) (kV doc pm:Value) (an:Option Addr) (cdv ct:Value) (osl:Array (Option Value)),
  fd=fnOf x qual (kY st) (eF st) (ae st) .none kV doc pm an cdv ct/\K.lookup f=some ⟨.type "function",od,.func fd,osl⟩/\codeIn K cdv qual=true
 kp:keepIn K (.ref f)=true
theorem FnAt.f{K:Frag}{x qual:Str}{st:Stmt}{f:Addr}{fd:FuncData}(F:FnAt K x qual st f fd):eN K x qual st f fd:=by
 obtain⟨od,kV,doc,pm,an,cdv,ct,osl,e,l,c⟩:=F.ex
 exact⟨⟨_,od,kV,doc,pm,an,cdv,ct,osl,e,l,c⟩,F.kp⟩
theorem aJ{K:Frag}{x qual:Str}{st:Stmt}{f:Addr}{od an:Option Addr}{osl:Array (Option Value)}{kV doc pm cdv ct:Value}(l:K.lookup f=some ⟨.type "function",od,.func (fnOf x qual (kY st) (eF st) (ae st) .none kV doc pm an cdv ct),osl⟩)
  (c:codeIn K cdv qual=true) (k:keepIn K (.ref f)=true):FnAt K x qual st f (fnOf x qual (kY st) (eF st) (ae st) .none kV doc pm an cdv ct):=⟨⟨od,kV,doc,pm,an,cdv,ct,osl,rfl,l,c⟩,k⟩
noncomputable def tupS(K:Frag)(a:Addr)(ns:List Str):Bool:=match K.lookup a with
 |some ⟨.type "tuple",none,.seq its _,_⟩=>its.toList.length == ns.length&&(its.toList.zip ns).all (fun p=>match p.1 with|.str i _=>i == p.2|_=>false)
 |_=>false
theorem gm{K:Frag}{a:Addr}{ns:List Str}(h:tupS K a ns=true)(hn:ns.length<=20):∀H,bf K H a (ns.map V.str):=by
 intro H
 unfold tupS at h
 split at h
 ·rename_i its n sl e
  rw[Bool.and_eq_true]at h
  obtain⟨h1,h2⟩:=h
  replace h1:=eq_of_beq h1
  have hz:its.size<=sizeLine:=by
   have z:its.toList.length=its.size:=by simp
   exact small (by omega)
  refine .inr ⟨_,its,n,e,rfl,rfl,hz,?_,rfl⟩
  clear hz e
  generalize its.toList=l at h1 h2
  clear hn
  induction l generalizing ns with
  |nil=>cases ns with
   |nil=>exact .nil
   |cons _ _=>simp at h1
  |cons v r ih =>
   cases ns with
   |nil=>simp at h1
   |cons m q =>
    rw[List.zip_cons_cons,List.all_cons,Bool.and_eq_true]at h2
    obtain⟨h3,h4⟩:=h2
    refine .cons ?_ (ih (by simpa using h1) h4)
    split at h3
    ·rename_i i t e'
     have:i=m:=eq_of_beq h3
     subst this
     exact⟨t,e'⟩
    ·cases h3
 ·cases h
theorem all_mk{l:OpenLaw}{w:World}{K:Frag}{h:Heap}{mg:Str->Option Value}{g1 g2 g3 g4 g5 g6 g7 g8 g9 g10 g11 g12 g13 g14 g15 g16 g17 g18 g19 g20 g21 g22 g23 g24 g25 g26 g27 g28 g29 g30 g31 g32 g33 g34 g35 g36 g37 g38 g39 g40 g41 g42 g43 g44 g45 g46 g47 g48 g49 g50 g51 g52 g53 g54 g55 g56 g57 fa dC dF dS aK aO t0 t1 t2 t3 s1 s2 s3 s4 s5 s6 s7:Addr}{e1 e2 e3 e4 e5 e6 e7 e8 e9 e10 e11 e12 e13 e14 e15 e16 e17 e18 e19 e20 e21 e22 e23 e24 e25 e26 e27 e28 e29 e30 e31 e32 e33 e34 e35 e36 e37 e38 e39 e40 e41 e42 e43 e44 e45 e46 e47 e48 e49 e50 e51 e52 e53 e54 e55 e56 e57:FuncData}{esC esF esS:Array DictEntry}{nC nF nS:Nat}{tkL tkF:Tok}(X:K.In h)(G:h.Ns mainGlobals mg)(hfa:mg "law"=some (.ref fa))
  (a1:nsIn K mainGlobals "bracketed"=some (some (.ref g1)))
  (a2:nsIn K mainGlobals "written"=some (some (.ref g2)))
  (a3:nsIn K mainGlobals "sort_of"=some (some (.ref g3)))
  (a4:nsIn K mainGlobals "well_parted"=some (some (.ref g4)))
  (a5:nsIn K mainGlobals "split_words"=some (some (.ref g5)))
  (a6:nsIn K mainGlobals "scanned"=some (some (.ref g6)))
  (a7:nsIn K mainGlobals "scanned_one"=some (some (.ref g7)))
  (a8:nsIn K mainGlobals "kind_deep"=some (some (.ref g8)))
  (a9:nsIn K mainGlobals "innermost"=some (some (.ref g9)))
  (a10:nsIn K mainGlobals "in_rows"=some (some (.ref g10)))
  (a11:nsIn K mainGlobals "is_name"=some (some (.ref g11)))
  (a12:nsIn K mainGlobals "is_figures"=some (some (.ref g12)))
  (a13:nsIn K mainGlobals "name_of"=some (some (.ref g13)))
  (a14:nsIn K mainGlobals "number_behind"=some (some (.ref g14)))
  (a15:nsIn K mainGlobals "core_of"=some (some (.ref g15)))
  (a16:nsIn K mainGlobals "kept_list"=some (some (.ref g16)))
  (a17:nsIn K mainGlobals "kind_of"=some (some (.ref g17)))
  (a18:nsIn K mainGlobals "term_of"=some (some (.ref g18)))
  (a19:nsIn K mainGlobals "terms_of"=some (some (.ref g19)))
  (a20:nsIn K mainGlobals "arm_of"=some (some (.ref g20)))
  (a21:nsIn K mainGlobals "shaped"=some (some (.ref g21)))
  (a22:nsIn K mainGlobals "closed_term"=some (some (.ref g22)))
  (a23:nsIn K mainGlobals "close_term"=some (some (.ref g23)))
  (a24:nsIn K mainGlobals "read_term"=some (some (.ref g24)))
  (a25:nsIn K mainGlobals "kind_without"=some (some (.ref g25)))
  (a26:nsIn K mainGlobals "tag_of"=some (some (.ref g26)))
  (a27:nsIn K mainGlobals "param_of"=some (some (.ref g27)))
  (a28:nsIn K mainGlobals "read_kind_row"=some (some (.ref g28)))
  (a29:nsIn K mainGlobals "read_def_row"=some (some (.ref g29)))
  (a30:nsIn K mainGlobals "read_program"=some (some (.ref g30)))
  (a31:nsIn K mainGlobals "core_text"=some (some (.ref g31)))
  (a32:nsIn K mainGlobals "kind_text"=some (some (.ref g32)))
  (a33:nsIn K mainGlobals "spell_match"=some (some (.ref g33)))
  (a34:nsIn K mainGlobals "spell_term"=some (some (.ref g34)))
  (a35:nsIn K mainGlobals "term_text"=some (some (.ref g35)))
  (a36:nsIn K mainGlobals "kind_row"=some (some (.ref g36)))
  (a37:nsIn K mainGlobals "def_row"=some (some (.ref g37)))
  (a38:nsIn K mainGlobals "program_text"=some (some (.ref g38)))
  (a39:nsIn K mainGlobals "_law_feed"=some (some (.ref g39)))
  (a40:nsIn K mainGlobals "_law_take"=some (some (.ref g40)))
  (a41:nsIn K mainGlobals "_law_number"=some (some (.ref g41)))
  (a42:nsIn K mainGlobals "_law_kept"=some (some (.ref g42)))
  (a43:nsIn K mainGlobals "_law_word"=some (some (.ref g43)))
  (a44:nsIn K mainGlobals "_law_any_kind"=some (some (.ref g44)))
  (a45:nsIn K mainGlobals "_law_any_leaf"=some (some (.ref g45)))
  (a46:nsIn K mainGlobals "_law_any_inner"=some (some (.ref g46)))
  (a47:nsIn K mainGlobals "_law_any_arms"=some (some (.ref g47)))
  (a48:nsIn K mainGlobals "_law_any_term"=some (some (.ref g48)))
  (a49:nsIn K mainGlobals "_law_kind_text"=some (some (.ref g49)))
  (a50:nsIn K mainGlobals "_law_texts"=some (some (.ref g50)))
  (a51:nsIn K mainGlobals "_law_term_text"=some (some (.ref g51)))
  (a52:nsIn K mainGlobals "_law_kind_row"=some (some (.ref g52)))
  (a53:nsIn K mainGlobals "_law_def_row"=some (some (.ref g53)))
  (a54:nsIn K mainGlobals "_law_program_text"=some (some (.ref g54)))
  (a55:nsIn K mainGlobals "_law_any_program"=some (some (.ref g55)))
  (a56:nsIn K mainGlobals "_law_alike"=some (some (.ref g56)))
  (a57:nsIn K mainGlobals "law"=some (some (.ref g57)))
  (F1:FnAt K "bracketed" "bracketed" gx g1 e1)
  (F2:FnAt K "written" "written" jn g2 e2)
  (F3:FnAt K "sort_of" "sort_of" lg g3 e3)
  (F4:FnAt K "well_parted" "well_parted" dj g4 e4)
  (F5:FnAt K "split_words" "split_words" eV g5 e5)
  (F6:FnAt K "scanned" "scanned" jq g6 e6)
  (F7:FnAt K "scanned_one" "scanned_one" eW g7 e7)
  (F8:FnAt K "kind_deep" "kind_deep" gy g8 e8)
  (F9:FnAt K "innermost" "innermost" gz g9 e9)
  (F10:FnAt K "in_rows" "in_rows" jt g10 e10)
  (F11:FnAt K "is_name" "is_name" ju g11 e11)
  (F12:FnAt K "is_figures" "is_figures" fQ g12 e12)
  (F13:FnAt K "name_of" "name_of" lj g13 e13)
  (F14:FnAt K "number_behind" "number_behind" fk g14 e14)
  (F15:FnAt K "core_of" "core_of" ly g15 e15)
  (F16:FnAt K "kept_list" "kept_list" iX g16 e16)
  (F17:FnAt K "kind_of" "kind_of" jv g17 e17)
  (F18:FnAt K "term_of" "term_of" jw g18 e18)
  (F19:FnAt K "terms_of" "terms_of" iJ g19 e19)
  (F20:FnAt K "arm_of" "arm_of" nO g20 e20)
  (F21:FnAt K "shaped" "shaped" kG g21 e21)
  (F22:FnAt K "closed_term" "closed_term" eX g22 e22)
  (F23:FnAt K "close_term" "close_term" eG g23 e23)
  (F24:FnAt K "read_term" "read_term" iY g24 e24)
  (F25:FnAt K "kind_without" "kind_without" ej g25 e25)
  (F26:FnAt K "tag_of" "tag_of" kH g26 e26)
  (F27:FnAt K "param_of" "param_of" jK g27 e27)
  (F28:FnAt K "read_kind_row" "read_kind_row" cY g28 e28)
  (F29:FnAt K "read_def_row" "read_def_row" dJ g29 e29)
  (F30:FnAt K "read_program" "read_program" eo g30 e30)
  (F31:FnAt K "core_text" "core_text" iZ g31 e31)
  (F32:FnAt K "kind_text" "kind_text" gG g32 e32)
  (F33:FnAt K "spell_match" "spell_match" eY g33 e33)
  (F34:FnAt K "spell_term" "spell_term" fR g34 e34)
  (F35:FnAt K "term_text" "term_text" i6 g35 e35)
  (F36:FnAt K "kind_row" "kind_row" fE g36 e36)
  (F37:FnAt K "def_row" "def_row" iC g37 e37)
  (F38:FnAt K "program_text" "program_text" cU g38 e38)
  (F39:FnAt K "_law_feed" "_law_feed" qH g39 e39)
  (F40:FnAt K "_law_take" "_law_take" qI g40 e40)
  (F41:FnAt K "_law_number" "_law_number" iK g41 e41)
  (F42:FnAt K "_law_kept" "_law_kept" fS g42 e42)
  (F43:FnAt K "_law_word" "_law_word" jx g43 e43)
  (F44:FnAt K "_law_any_kind" "_law_any_kind" fT g44 e44)
  (F45:FnAt K "_law_any_leaf" "_law_any_leaf" fU g45 e45)
  (F46:FnAt K "_law_any_inner" "_law_any_inner" dm g46 e46)
  (F47:FnAt K "_law_any_arms" "_law_any_arms" eI g47 e47)
  (F48:FnAt K "_law_any_term" "_law_any_term" dO g48 e48)
  (F49:FnAt K "_law_kind_text" "_law_kind_text" eZ g49 e49)
  (F50:FnAt K "_law_texts" "_law_texts" iD g50 e50)
  (F51:FnAt K "_law_term_text" "_law_term_text" cQ g51 e51)
  (F52:FnAt K "_law_kind_row" "_law_kind_row" eJ g52 e52)
  (F53:FnAt K "_law_def_row" "_law_def_row" fG g53 e53)
  (F54:FnAt K "_law_program_text" "_law_program_text" cB g54 e54)
  (F55:FnAt K "_law_any_program" "_law_any_program" bu g55 e55)
  (F56:FnAt K "_law_alike" "_law_alike" iE g56 e56)
  (F57:FnAt K "law" "law" lX g57 e57)
  (pC:nsIn K mainGlobals "CLOSE_OF"=some (some (.ref dC)))
  (lC:K.lookup dC=some {cls:=.type "dict",dict:=none,data:=.dict esC nC,slots:=#[]})
  (kC:EY w esC.toList [("(",V.str ")"),("[",V.str "]")])
  (sC:(dC == sysModules)=false)
  (pF:nsIn K mainGlobals "FOLLOWERS"=some (some (.ref dF)))
  (lF:K.lookup dF=some {cls:=.type "dict",dict:=none,data:=.dict esF nF,slots:=#[]})
  (kF:EY w esF.toList [("blank",V.ref t0),("start",V.ref t1),("word",V.ref t2),("end",V.ref t3)])
  (sF:(dF == sysModules)=false)
  (pS:nsIn K mainGlobals "SHAPES"=some (some (.ref dS)))
  (lS:K.lookup dS=some {cls:=.type "dict",dict:=none,data:=.dict esS nS,slots:=#[]})
  (kS:EY w esS.toList (jS s1 s2 s3 s4 s5 s6 s7))
  (sS:(dS == sysModules)=false)
  (q0:tupS K t0 ["start","word"]=true)
  (q1:tupS K t1 ["start","word","end"]=true)
  (q2:tupS K t2 ["word","blank","end"]=true)
  (q3:tupS K t3 ["end","blank"]=true)
  (r1:tupS K s1 ["term","term"]=true)
  (r2:tupS K s2 ["term"]=true)
  (r3:tupS K s3 ["term"]=true)
  (r4:tupS K s4 ["term"]=true)
  (r5:tupS K s5 ["term","term","term"]=true)
  (r6:tupS K s6 ["name","term","term"]=true)
  (r7:tupS K s7 ["term","name","name","term","term"]=true)
  (pO:nsIn K mainGlobals "OPS"=some (some (.ref aO)))
  (qO:tupS K aO f7=true)
  (pK:nsIn K mainGlobals "KEPT"=some (some (.ref aK)))
  (qK:tupS K aK jm=true)
  (pL:nsIn K mainGlobals "SMALL_LETTERS"=some (some (.str vS tkL)))
  (pI:nsIn K mainGlobals "FIGURES"=some (some (.str vU tkF)))
  (z0:nsIn K mainGlobals "len"=some none)
  (z1:nsIn K mainGlobals "range"=some none)
  (z2:nsIn K mainGlobals "int"=some none)
  (z3:nsIn K mainGlobals "tuple"=some none)
  (z4:nsIn K mainGlobals "zip"=some none)
  (z5:nsIn K mainGlobals "all"=some none)
  (z6:nsIn K mainGlobals "max"=some none)
  (z7:nsIn K mainGlobals "min"=some none)
  (z8:nsIn K mainGlobals "isinstance"=some none)
  (z9:nsIn K mainGlobals "str"=some none)
  (z10:nsIn K mainGlobals "bool"=some none)
  (z11:nsIn K mainGlobals "enumerate"=some none) :
  ∃fd:FuncData,(∀(s:Shared) (v:Value),BindsTo s fd ⟨[v],[]⟩ [("_law_script",v)])/\∀base:Heap,K.In base->base.Ns mainGlobals mg->bK l.prog w K mg base d8 79 fa fd ["_law_script"] (Az K):=by
 have e:=hfa.symm.trans (mg_of X G a57)
 cases e
 have B1:=F1.f.binds (ps:=["opener","words"]) fun _ _ _ _ _ _=>j7 fun _ _=>rfl
 have u1:=mg_of X G a1
 have B2:=F2.f.binds (ps:=["thing","spell"]) fun _ _ _ _ _ _=>j7 fun _ _=>rfl
 have u2:=mg_of X G a2
 have B3:=F3.f.binds (ps:=["sign"]) fun _ _ _ _ _ _=>fj fun _=>rfl
 have u3:=mg_of X G a3
 have B4:=F4.f.binds (ps:=["text"]) fun _ _ _ _ _ _=>fj fun _=>rfl
 have u4:=mg_of X G a4
 have B5:=F5.f.binds (ps:=["text"]) fun _ _ _ _ _ _=>fj fun _=>rfl
 have u5:=mg_of X G a5
 have B6:=F6.f.binds (ps:=["text","close"]) fun _ _ _ _ _ _=>j7 fun _ _=>rfl
 have u6:=mg_of X G a6
 have B7:=F7.f.binds (ps:=["text","close"]) fun _ _ _ _ _ _=>j7 fun _ _=>rfl
 have u7:=mg_of X G a7
 have B8:=F8.f.binds (ps:=["kind"]) fun _ _ _ _ _ _=>fj fun _=>rfl
 have u8:=mg_of X G a8
 have B9:=F9.f.binds (ps:=["kind"]) fun _ _ _ _ _ _=>fj fun _=>rfl
 have u9:=mg_of X G a9
 have B10:=F10.f.binds (ps:=["kind","depth"]) fun _ _ _ _ _ _=>j7 fun _ _=>rfl
 have u10:=mg_of X G a10
 have B11:=F11.f.binds (ps:=["text"]) fun _ _ _ _ _ _=>fj fun _=>rfl
 have u11:=mg_of X G a11
 have B12:=F12.f.binds (ps:=["text","most"]) fun _ _ _ _ _ _=>j7 fun _ _=>rfl
 have u12:=mg_of X G a12
 have B13:=F13.f.binds (ps:=["item"]) fun _ _ _ _ _ _=>fj fun _=>rfl
 have u13:=mg_of X G a13
 have B14:=F14.f.binds (ps:=["word"]) fun _ _ _ _ _ _=>fj fun _=>rfl
 have u14:=mg_of X G a14
 have B15:=F15.f.binds (ps:=["word"]) fun _ _ _ _ _ _=>fj fun _=>rfl
 have u15:=mg_of X G a15
 have B16:=F16.f.binds (ps:=["opener","items"]) fun _ _ _ _ _ _=>j7 fun _ _=>rfl
 have u16:=mg_of X G a16
 have B17:=F17.f.binds (ps:=["item"]) fun _ _ _ _ _ _=>fj fun _=>rfl
 have u17:=mg_of X G a17
 have B18:=F18.f.binds (ps:=["item"]) fun _ _ _ _ _ _=>fj fun _=>rfl
 have u18:=mg_of X G a18
 have B19:=F19.f.binds (ps:=["items"]) fun _ _ _ _ _ _=>fj fun _=>rfl
 have u19:=mg_of X G a19
 have B20:=F20.f.binds (ps:=["item"]) fun _ _ _ _ _ _=>fj fun _=>rfl
 have u20:=mg_of X G a20
 have B21:=F21.f.binds (ps:=["shape","items"]) fun _ _ _ _ _ _=>j7 fun _ _=>rfl
 have u21:=mg_of X G a21
 have B22:=F22.f.binds (ps:=["head","items"]) fun _ _ _ _ _ _=>j7 fun _ _=>rfl
 have u22:=mg_of X G a22
 have B23:=F23.f.binds (ps:=["opener","items"]) fun _ _ _ _ _ _=>j7 fun _ _=>rfl
 have u23:=mg_of X G a23
 have B24:=F24.f.binds (ps:=["text"]) fun _ _ _ _ _ _=>fj fun _=>rfl
 have u24:=mg_of X G a24
 have B25:=F25.f.binds (ps:=["item","sorts"]) fun _ _ _ _ _ _=>j7 fun _ _=>rfl
 have u25:=mg_of X G a25
 have B26:=F26.f.binds (ps:=["item"]) fun _ _ _ _ _ _=>fj fun _=>rfl
 have u26:=mg_of X G a26
 have B27:=F27.f.binds (ps:=["item"]) fun _ _ _ _ _ _=>fj fun _=>rfl
 have u27:=mg_of X G a27
 have B28:=F28.f.binds (ps:=["row"]) fun _ _ _ _ _ _=>fj fun _=>rfl
 have u28:=mg_of X G a28
 have B29:=F29.f.binds (ps:=["row"]) fun _ _ _ _ _ _=>fj fun _=>rfl
 have u29:=mg_of X G a29
 have B30:=F30.f.binds (ps:=["text"]) fun _ _ _ _ _ _=>fj fun _=>rfl
 have u30:=mg_of X G a30
 have B31:=F31.f.binds (ps:=["core"]) fun _ _ _ _ _ _=>fj fun _=>rfl
 have u31:=mg_of X G a31
 have B32:=F32.f.binds (ps:=["kind"]) fun _ _ _ _ _ _=>fj fun _=>rfl
 have u32:=mg_of X G a32
 have B33:=F33.f.binds (ps:=["first","arms"]) fun _ _ _ _ _ _=>j7 fun _ _=>rfl
 have u33:=mg_of X G a33
 have B34:=F34.f.binds (ps:=["term"]) fun _ _ _ _ _ _=>fj fun _=>rfl
 have u34:=mg_of X G a34
 have B35:=F35.f.binds (ps:=["term"]) fun _ _ _ _ _ _=>fj fun _=>rfl
 have u35:=mg_of X G a35
 have B36:=F36.f.binds (ps:=["name","tags"]) fun _ _ _ _ _ _=>j7 fun _ _=>rfl
 have u36:=mg_of X G a36
 have B37:=F37.f.binds (ps:=["name","params","term"]) fun _ _ _ _ _ _=>Gj fun _ _ _=>rfl
 have u37:=mg_of X G a37
 have B38:=F38.f.binds (ps:=["program"]) fun _ _ _ _ _ _=>fj fun _=>rfl
 have u38:=mg_of X G a38
 have B39:=F39.f.binds (ps:=["_law_script","_law_k"]) fun _ _ _ _ _ _=>j7 fun _ _=>rfl
 have u39:=mg_of X G a39
 have B40:=F40.f.binds (ps:=["_law_feed_here","_law_many"]) fun _ _ _ _ _ _=>j7 fun _ _=>rfl
 have u40:=mg_of X G a40
 have B41:=F41.f.binds (ps:=["_law_feed_here"]) fun _ _ _ _ _ _=>fj fun _=>rfl
 have u41:=mg_of X G a41
 have B42:=F42.f.binds (ps:=[]) fun _ _ _ _ _ _=>len0 rfl
 have u42:=mg_of X G a42
 have B43:=F43.f.binds (ps:=["_law_feed_here"]) fun _ _ _ _ _ _=>fj fun _=>rfl
 have u43:=mg_of X G a43
 have B44:=F44.f.binds (ps:=["_law_feed_here","_law_words","_law_sorts"]) fun _ _ _ _ _ _=>Gj fun _ _ _=>rfl
 have u44:=mg_of X G a44
 have B45:=F45.f.binds (ps:=["_law_feed_here","_law_scene"]) fun _ _ _ _ _ _=>j7 fun _ _=>rfl
 have u45:=mg_of X G a45
 have B46:=F46.f.binds (ps:=["_law_feed_here","_law_scene","_law_many","_law_room","_law_down"]) fun _ _ _ _ _ _=>Ly fun _ _ _ _ _=>rfl
 have u46:=mg_of X G a46
 have B47:=F47.f.binds (ps:=["_law_feed_here","_law_scene","_law_terms"]) fun _ _ _ _ _ _=>Gj fun _ _ _=>rfl
 have u47:=mg_of X G a47
 have B48:=F48.f.binds (ps:=["_law_feed_here","_law_scene","_law_room","_law_down"]) fun _ _ _ _ _ _=>Lx fun _ _ _ _=>rfl
 have u48:=mg_of X G a48
 have B49:=F49.f.binds (ps:=["_law_kind"]) fun _ _ _ _ _ _=>fj fun _=>rfl
 have u49:=mg_of X G a49
 have B50:=F50.f.binds (ps:=["_law_terms"]) fun _ _ _ _ _ _=>fj fun _=>rfl
 have u50:=mg_of X G a50
 have B51:=F51.f.binds (ps:=["_law_term"]) fun _ _ _ _ _ _=>fj fun _=>rfl
 have u51:=mg_of X G a51
 have B52:=F52.f.binds (ps:=["_law_name","_law_tags"]) fun _ _ _ _ _ _=>j7 fun _ _=>rfl
 have u52:=mg_of X G a52
 have B53:=F53.f.binds (ps:=["_law_f","_law_params","_law_term"]) fun _ _ _ _ _ _=>Gj fun _ _ _=>rfl
 have u53:=mg_of X G a53
 have B54:=F54.f.binds (ps:=["_law_program"]) fun _ _ _ _ _ _=>fj fun _=>rfl
 have u54:=mg_of X G a54
 have B55:=F55.f.binds (ps:=["_law_feed_here"]) fun _ _ _ _ _ _=>fj fun _=>rfl
 have u55:=mg_of X G a55
 have B56:=F56.f.binds (ps:=["_law_found","_law_due"]) fun _ _ _ _ _ _=>j7 fun _ _=>rfl
 have u56:=mg_of X G a56
 have B57:=F57.f.binds (ps:=["_law_script"]) fun _ _ _ _ _ _=>fj fun _=>rfl
 have u57:=mg_of X G a57
 have z_len:=mg_none_of X G z0
 have z_range:=mg_none_of X G z1
 have z_int:=mg_none_of X G z2
 have z_tuple:=mg_none_of X G z3
 have z_zip:=mg_none_of X G z4
 have z_all:=mg_none_of X G z5
 have z_max:=mg_none_of X G z6
 have z_min:=mg_none_of X G z7
 have z_isinstance:=mg_none_of X G z8
 have z_str:=mg_none_of X G z9
 have z_bool:=mg_none_of X G z10
 have z_enumerate:=mg_none_of X G z11
 have kC1:KD K w dC [("(",V.str ")"),("[",V.str "]")]:=⟨esC,nC,lC,kC,by decide +kernel,sC⟩
 have kF1:KD K w dF [("blank",V.ref t0),("start",V.ref t1),("word",V.ref t2),("end",V.ref t3)]:=⟨esF,nF,lF,kF,(show(["blank","start","word","end"]:List Str).Nodup by decide +kernel),sF⟩
 have T0:∀H,bf K H t0 (kI "blank"):=gm q0 (by decide)
 have T1:∀H,bf K H t1 (kI "start"):=gm q1 (by decide)
 have T2:∀H,bf K H t2 (kI "word"):=gm q2 (by decide)
 have T3:∀H,bf K H t3 (kI "end"):=gm q3 (by decide)
 have TK0:∀H,bf K H aK pB:=gm qK (by decide)
 obtain⟨od,kV,doc,pm,an,cdv,ct,osl,rfl,lk,cc⟩:=F57.ex
 refine⟨fnOf "law" "law" (kY lX) (eF lX) (ae lX) .none kV doc pm an cdv ct,fun s v=>.of_eq rfl,fun base _ _=>?_⟩
 have kS1:KD K w dS (jS s1 s2 s3 s4 s5 s6 s7):=⟨esS,nS,lS,kS,(show(["more","first","others","long","if","let","fold"]:List Str).Nodup by decide +kernel),sS⟩
 have TO0:∀H,bf K H aO wX:=gm qO (by decide)
 have S1:=gm r1 (by decide)
 have S2:=gm r2 (by decide)
 have S3:=gm r3 (by decide)
 have S4:=gm r4 (by decide)
 have S5:=gm r5 (by decide)
 have S6:=gm r6 (by decide)
 have S7:=gm r7 (by decide)
 have SO:bE l.prog w K mg base "sort_of" 1 _ _ g3 e3:=⟨Fi F3.f,u3,F3.kp,B3⟩
 have WE:bE l.prog w K mg base "well_parted" 2 _ _ g4 e4:=⟨Fj F4.f SO z_all z_zip (mg_of X G pF) kF1 T0 T1 T2 T3,u4,F4.kp,B4⟩
 have SP:bE l.prog w K mg base "split_words" 1 _ _ g5 e5:=⟨C6 F5.f,u5,F5.kp,B5⟩
 have IN:bE l.prog w K mg base "is_name" 1 _ _ g11 e11:=⟨Bd F11.f z_len z_all (mg_of X G pK) TK0 (mg_of X G pL),u11,F11.kp,B11⟩
 have IFG:bE l.prog w K mg base "is_figures" 1 _ _ g12 e12:=⟨Dh F12.f z_len z_all (mg_of X G pI),u12,F12.kp,B12⟩
 have NO:bE l.prog w K mg base "name_of" 2 _ _ g13 e13:=⟨Be F13.f IN z_isinstance z_str,u13,F13.kp,B13⟩
 have NB:bE l.prog w K mg base "number_behind" 2 _ _ g14 e14:=⟨Fw F14.f IFG z_int,u14,F14.kp,B14⟩
 have TO:bE l.prog w K mg base "term_of" 3 _ _ g18 e18:=⟨Bh F18.f IFG NB NO z_isinstance z_str z_int,u18,F18.kp,B18⟩
 have TSO:bE l.prog w K mg base "terms_of" 4 _ _ g19 e19:=⟨yF F19.f TO z_tuple,u19,F19.kp,B19⟩
 have AO:bE l.prog w K mg base "arm_of" 1 _ _ g20 e20:=⟨Dr F20.f z_isinstance z_str,u20,F20.kp,B20⟩
 have SH:bE l.prog w K mg base "shaped" 4 _ _ g21 e21:=⟨Bl F21.f TO NO z_tuple z_len z_zip,u21,F21.kp,B21⟩
 have CDT:bE l.prog w K mg base "closed_term" 5 _ _ g22 e22:=⟨BN F22.f SH TSO TO NO AO z_tuple (mg_of X G pO) TO0 (mg_of X G pS) kS1 S1 S2 S3 S4 S5 S6 S7,u22,F22.kp,B22⟩
 have CLT:bE l.prog w K mg base "close_term" 6 _ _ g23 e23:=⟨El F23.f CDT TO NO z_tuple z_isinstance z_str z_len,u23,F23.kp,B23⟩
 have SCT:bE l.prog w K mg base "scanned" 7 _ _ g6 e6:=⟨zQ (by decide) GJ.Lr (J1 K) F6.f WE SP CLT (mg_of X G pC) kC1,u6,F6.kp,B6⟩
 have SC1:bE l.prog w K mg base "scanned_one" 8 _ _ g7 e7:=⟨De F7.f SCT z_len,u7,F7.kp,B7⟩
 have RDT:bE l.prog w K mg base "read_term" 9 _ _ g24 e24:=⟨FT (by decide) F24.f CLT SC1 TO,u24,F24.kp,B24⟩
 have KL:bE l.prog w K mg base "kept_list" 1 _ _ g16 e16:=⟨nX F16.f,u16,F16.kp,B16⟩
 have SCK:bE l.prog w K mg base "scanned" 9 _ _ g6 e6:=⟨(show bK l.prog w K mg base d8 9 _ _ _ _ from zQ (jc:=8) (by decide) HV GF F6.f WE SP ⟨(nX F16.f).mono (by decide),u16,F16.kp,B16⟩ (mg_of X G pC) kC1),u6,F6.kp,B6⟩
 have IM:bE l.prog w K mg base "innermost" 1 _ _ g9 e9:=⟨HU F9.f,u9,F9.kp,B9⟩
 have KDP:bE l.prog w K mg base "kind_deep" 1 _ _ g8 e8:=⟨Fx F8.f,u8,F8.kp,B8⟩
 have IR:bE l.prog w K mg base "in_rows" 1 _ _ g10 e10:=⟨Fy F10.f z_range,u10,F10.kp,B10⟩
 have COF:bE l.prog w K mg base "core_of" 3 _ _ g15 e15:=⟨Bf F15.f NB NO,u15,F15.kp,B15⟩
 have KOF:bE l.prog w K mg base "kind_of" 4 _ _ g17 e17:=⟨Bg F17.f COF IR z_isinstance z_str z_len,u17,F17.kp,B17⟩
 have KW2:bE l.prog w K mg base "kind_without" 5 _ _ g25 e25:=⟨DM (.inl rfl) F25.f KOF IM,u25,F25.kp,B25⟩
 have KW1:bE l.prog w K mg base "kind_without" 5 _ _ g25 e25:=⟨DM (.inr rfl) F25.f KOF IM,u25,F25.kp,B25⟩
 have TGF:bE l.prog w K mg base "tag_of" 6 _ _ g26 e26:=⟨Bu F26.f NO KW2 z_isinstance z_str z_tuple,u26,F26.kp,B26⟩
 have PAF:bE l.prog w K mg base "param_of" 6 _ _ g27 e27:=⟨xx F27.f NO KW1 z_isinstance z_str z_len,u27,F27.kp,B27⟩
 have RKR:bE l.prog w K mg base "read_kind_row" 10 _ _ g28 e28:=⟨Iz (by decide) F28.f KL SCK NO TGF z_len z_tuple,u28,F28.kp,B28⟩
 have RDR:bE l.prog w K mg base "read_def_row" 10 _ _ g29 e29:=⟨IA (by decide) F29.f KL SCK NO PAF RDT z_len z_tuple,u29,F29.kp,B29⟩
 have RPR:bE l.prog w K mg base "read_program" 11 _ _ g30 e30:=⟨IB (by decide) F30.f RKR RDR z_enumerate z_tuple z_len,u30,F30.kp,B30⟩
 have CTX:bE l.prog w K mg base "core_text" 1 _ _ g31 e31:=⟨BA F31.f,u31,F31.kp,B31⟩
 have KTX:bE l.prog w K mg base "kind_text" 2 _ _ g32 e32:=⟨BB F32.f KDP IM CTX,u32,F32.kp,B32⟩
 have BR:bE l.prog w K mg base "bracketed" 1 _ _ g1 e1:=⟨ID F1.f z_enumerate (mg_of X G pC) kC1,u1,F1.kp,B1⟩
 have SPM:bE l.prog w K mg base "spell_match" 2 _ _ g33 e33:=⟨BC F33.f BR,u33,F33.kp,B33⟩
 have SPT:bE l.prog w K mg base "spell_term" 3 _ _ g34 e34:=⟨BD F34.f BR SPM z_str,u34,F34.kp,B34⟩
 have WRT:bE l.prog w K mg base "written" 4 _ _ g2 e2:=⟨yN F2.f SPT z_isinstance z_str,u2,F2.kp,B2⟩
 have TTX:bE l.prog w K mg base "term_text" 5 _ _ g35 e35:=⟨IE F35.f SPT WRT,u35,F35.kp,B35⟩
 have FD:bE l.prog w K mg base "_law_feed" 1 _ _ g39 e39:=⟨E9 F39.f z_len,u39,F39.kp,B39⟩
 have TK:bE l.prog w K mg base "_law_take" 1 _ _ g40 e40:=⟨E8 F40.f,u40,F40.kp,B40⟩
 have NU:bE l.prog w K mg base "_law_number" 2 _ _ g41 e41:=⟨BH F41.f TK,u41,F41.kp,B41⟩
 have KP:bE l.prog w K mg base "_law_kept" 1 _ _ g42 e42:=⟨Gf F42.f,u42,F42.kp,B42⟩
 have LWD:bE l.prog w K mg base "_law_word" 2 _ _ g43 e43:=⟨Gg F43.f TK KP z_range,u43,F43.kp,B43⟩
 have ALF:bE l.prog w K mg base "_law_any_leaf" 3 _ _ g45 e45:=⟨D9 F45.f TK NU z_len,u45,F45.kp,B45⟩
 have AAR:bE l.prog w K mg base "_law_any_arms" 2 _ _ g47 e47:=⟨IY F47.f TK z_len z_range z_tuple,u47,F47.kp,B47⟩
 have ATE:bE l.prog w K mg base "_law_any_term" 24 _ _ g48 e48:=⟨AB F48.f u48 B48 F46.f u46 B46 TK ALF AAR z_min z_max z_range z_tuple z_len 10,u48,F48.kp,B48⟩
 have LTT:bE l.prog w K mg base "_law_term_text" 33 _ _ g51 e51:=⟨AA F51.f u51 B51 F50.f u50 B50 z_str z_int z_isinstance 16,u51,F51.kp,B51⟩
 have LA:bE l.prog w K mg base "_law_alike" 77 _ _ g56 e56:=⟨tM F56.f u56 B56 z_tuple z_str z_int z_bool z_isinstance z_len z_all z_zip 76,u56,F56.kp,B56⟩
 have KRW:bE l.prog w K mg base "kind_row" 3 _ _ g36 e36:=⟨IK F36.f KTX,u36,F36.kp,B36⟩
 have DRW:bE l.prog w K mg base "def_row" 6 _ _ g37 e37:=⟨IL F37.f KTX TTX,u37,F37.kp,B37⟩
 have PTX:bE l.prog w K mg base "program_text" 7 _ _ g38 e38:=⟨IP F38.f KRW DRW,u38,F38.kp,B38⟩
 have AK:bE l.prog w K mg base "_law_any_kind" 2 _ _ g44 e44:=⟨Gh F44.f TK z_range z_len,u44,F44.kp,B44⟩
 have LKT0:bE l.prog w K mg base "_law_kind_text" 7 _ _ g49 e49:=⟨vo F49.f u49 B49 z_str 6,u49,F49.kp,B49⟩
 have LKT:bE l.prog w K mg base "_law_kind_text" 8 _ _ g49 e49:=⟨(vo F49.f u49 B49 z_str 6).mono (by decide),u49,F49.kp,B49⟩
 have LKR:bE l.prog w K mg base "_law_kind_row" 9 _ _ g52 e52:=⟨IV F52.f LKT,u52,F52.kp,B52⟩
 have LDR:bE l.prog w K mg base "_law_def_row" 34 _ _ g53 e53:=⟨IW (by decide) F53.f LKT LTT,u53,F53.kp,B53⟩
 have LPT:bE l.prog w K mg base "_law_program_text" 35 _ _ g54 e54:=⟨IX (by decide) F54.f LKR LDR,u54,F54.kp,B54⟩
 have LAP:bE l.prog w K mg base "_law_any_program" 25 _ _ g55 e55:=⟨Jb (by decide) F55.f TK LWD AK ATE LKT z_len z_range z_tuple z_int,u55,F55.kp,B55⟩
 exact Jc (jp:=25) (jl:=35) (jr:=11) (j:=78) (by decide) (by decide) (by decide) (by decide) ⟨⟨_,od,kV,doc,pm,an,cdv,ct,osl,rfl,lk,cc⟩,F57.kp⟩ FD LAP LPT PTX RPR LA z_range
theorem walk{l:PySem.W.OpenLaw}{q:Program}{loose:List Str}{XP:(Str->Option Value)->Heap->Prop}{YP:World->Heap->Prop}{d:DefRec}{K:Params->PySem.W.Frag}(hn:l.most=some 63)(hdf:d.params.defaults=[])
  (hY:∀(w:World) (h:Heap),YP w h->(K w.params).In h)
  (F:∀(w:World) (mg:Str->Option Value) (fa:Addr) (h:Heap),(K w.params).In h->h.Ns mainGlobals mg->mg d.name=some (.ref fa) ->
   ∃fd:FuncData,(∀(s:Shared) (u:Value),BindsTo s fd ⟨[u],[]⟩ [("_law_script",u)])/\∀base:Heap,(K w.params).In base->base.Ns mainGlobals mg->bK l.prog w (K w.params) mg base d8 79 fa fd ["_law_script"] (Az (K w.params))) :
  PySem.W.WalkO q loose XP YP l.row.toRowW d [] (fun f vs=>PySem.call f vs) :=
 L2.EL (n:=63) (k:=79) (x:="_law_script") (CX:=fun _=>d8) (sp:=fun w=>Az (K w.params)) hn (by decide) hdf ⟨rfl,by decide,by decide,rfl⟩ hY F (fun _ _ a ns hl _ hS=>⟨a,ns,rfl,hS,hl,fun _=>rfl⟩) fun _ _ _ _ _ z=>z
end G09
theorem PySem.W.Fast.tw16799451314160844539:True:=⟨⟩
theorem PySem.W.Fast.tw17213130696733412486:True:=⟨⟩
theorem PySem.W.Fast.tw13509557653733384696:True:=⟨⟩
theorem PySem.W.Fast.tw11665289555562440651:True:=⟨⟩
theorem PySem.W.Fast.tw15422504029587933892:True:=⟨⟩
theorem PySem.W.Fast.tw3861976746284542793:True:=⟨⟩
theorem PySem.W.Fast.tw12170921820082039240:True:=⟨⟩
theorem PySem.W.Fast.tw17440355073654972973:True:=⟨⟩
theorem PySem.W.Fast.tw334134639421066425:True:=⟨⟩
theorem PySem.W.Fast.tw6543201128610084547:True:=⟨⟩
theorem PySem.W.Fast.tw8715994613153575722:True:=⟨⟩
theorem PySem.W.Fast.tw17423756343143700399:True:=⟨⟩
theorem PySem.W.Fast.tw2482030647711875348:True:=⟨⟩
theorem PySem.W.Fast.tw8666006967546195746:True:=⟨⟩
theorem PySem.W.Fast.tw16078753182316490811:True:=⟨⟩
theorem PySem.W.Fast.tw7475832454277665254:True:=⟨⟩
theorem PySem.W.Fast.tw3936303327496142507:True:=⟨⟩
theorem PySem.W.Fast.tw5431961859985941889:True:=⟨⟩
theorem PySem.W.Fast.tw13602790334604123384:True:=⟨⟩
theorem PySem.W.Fast.tw1301902729626820453:True:=⟨⟩
theorem PySem.W.Fast.tw15042693870850177748:True:=⟨⟩
theorem PySem.W.Fast.tw18103794251686203220:True:=⟨⟩
theorem PySem.W.Fast.tw14504854313466380399:True:=⟨⟩
theorem PySem.W.Fast.tw9728455820619714822:True:=⟨⟩
theorem PySem.W.Fast.tw15584147281254611386:True:=⟨⟩
theorem PySem.W.Fast.tw12261939586745169310:True:=⟨⟩
theorem PySem.W.Fast.tw15556100202817195717:True:=⟨⟩
theorem PySem.W.Fast.tw16726060450035042291:True:=⟨⟩
theorem PySem.W.Fast.tw12753806656034381900:True:=⟨⟩
open PySem PySem.W PyProof.Rows
set_option maxRecDepth 100000 in
set_option maxHeartbeats 0 in
theorem PySem.Challenge.cw_gapwork_k09_whole_programs_written_and_r_holds : PySem.Challenge.rw_gapwork_k09_whole_programs_written_and_r.Holds := by
  w_on; o_law; k_head; (case hw => w_witness2)
  k_fill
  refine G09.walk (l := PySem.Challenge.rw_gapwork_k09_whole_programs_written_and_r) rfl rfl (fun w h Y => PySem.W.kIn_of Y) ?F
  case F =>
    intro w mg fa h KX G hmg
    refine' G09.all_mk KX G hmg ?a1 ?a2 ?a3 ?a4 ?a5 ?a6 ?a7 ?a8 ?a9 ?a10 ?a11 ?a12 ?a13 ?a14 ?a15 ?a16 ?a17 ?a18 ?a19 ?a20 ?a21 ?a22 ?a23 ?a24 ?a25 ?a26 ?a27 ?a28 ?a29 ?a30 ?a31 ?a32 ?a33 ?a34 ?a35 ?a36 ?a37 ?a38 ?a39 ?a40 ?a41 ?a42 ?a43 ?a44 ?a45 ?a46 ?a47 ?a48 ?a49 ?a50 ?a51 ?a52 ?a53 ?a54 ?a55 ?a56 ?a57 ?F1 ?F2 ?F3 ?F4 ?F5 ?F6 ?F7 ?F8 ?F9 ?F10 ?F11 ?F12 ?F13 ?F14 ?F15 ?F16 ?F17 ?F18 ?F19 ?F20 ?F21 ?F22 ?F23 ?F24 ?F25 ?F26 ?F27 ?F28 ?F29 ?F30 ?F31 ?F32 ?F33 ?F34 ?F35 ?F36 ?F37 ?F38 ?F39 ?F40 ?F41 ?F42 ?F43 ?F44 ?F45 ?F46 ?F47 ?F48 ?F49 ?F50 ?F51 ?F52 ?F53 ?F54 ?F55 ?F56 ?F57 ?pC ?lC ?kC ?sC ?pF ?lF ?kF ?sF ?pS ?lS ?kS ?sS ?q0 ?q1 ?q2 ?q3 ?r1 ?r2 ?r3 ?r4 ?r5 ?r6 ?r7 ?pO ?qO ?pK ?qK ?pL ?pI ?z0 ?z1 ?z2 ?z3 ?z4 ?z5 ?z6 ?z7 ?z8 ?z9 ?z10 ?z11
    (case a1 => k_is)
    (case a2 => k_is)
    (case a3 => k_is)
    (case a4 => k_is)
    (case a5 => k_is)
    (case a6 => k_is)
    (case a7 => k_is)
    (case a8 => k_is)
    (case a9 => k_is)
    (case a10 => k_is)
    (case a11 => k_is)
    (case a12 => k_is)
    (case a13 => k_is)
    (case a14 => k_is)
    (case a15 => k_is)
    (case a16 => k_is)
    (case a17 => k_is)
    (case a18 => k_is)
    (case a19 => k_is)
    (case a20 => k_is)
    (case a21 => k_is)
    (case a22 => k_is)
    (case a23 => k_is)
    (case a24 => k_is)
    (case a25 => k_is)
    (case a26 => k_is)
    (case a27 => k_is)
    (case a28 => k_is)
    (case a29 => k_is)
    (case a30 => k_is)
    (case a31 => k_is)
    (case a32 => k_is)
    (case a33 => k_is)
    (case a34 => k_is)
    (case a35 => k_is)
    (case a36 => k_is)
    (case a37 => k_is)
    (case a38 => k_is)
    (case a39 => k_is)
    (case a40 => k_is)
    (case a41 => k_is)
    (case a42 => k_is)
    (case a43 => k_is)
    (case a44 => k_is)
    (case a45 => k_is)
    (case a46 => k_is)
    (case a47 => k_is)
    (case a48 => k_is)
    (case a49 => k_is)
    (case a50 => k_is)
    (case a51 => k_is)
    (case a52 => k_is)
    (case a53 => k_is)
    (case a54 => k_is)
    (case a55 => k_is)
    (case a56 => k_is)
    (case a57 => k_is)
    (case F1 => exact G09.aJ (by k_is) (by k_is) (by k_is))
    (case F2 => exact G09.aJ (by k_is) (by k_is) (by k_is))
    (case F3 => exact G09.aJ (by k_is) (by k_is) (by k_is))
    (case F4 => exact G09.aJ (by k_is) (by k_is) (by k_is))
    (case F5 => exact G09.aJ (by k_is) (by k_is) (by k_is))
    (case F6 => exact G09.aJ (by k_is) (by k_is) (by k_is))
    (case F7 => exact G09.aJ (by k_is) (by k_is) (by k_is))
    (case F8 => exact G09.aJ (by k_is) (by k_is) (by k_is))
    (case F9 => exact G09.aJ (by k_is) (by k_is) (by k_is))
    (case F10 => exact G09.aJ (by k_is) (by k_is) (by k_is))
    (case F11 => exact G09.aJ (by k_is) (by k_is) (by k_is))
    (case F12 => exact G09.aJ (by k_is) (by k_is) (by k_is))
    (case F13 => exact G09.aJ (by k_is) (by k_is) (by k_is))
    (case F14 => exact G09.aJ (by k_is) (by k_is) (by k_is))
    (case F15 => exact G09.aJ (by k_is) (by k_is) (by k_is))
    (case F16 => exact G09.aJ (by k_is) (by k_is) (by k_is))
    (case F17 => exact G09.aJ (by k_is) (by k_is) (by k_is))
    (case F18 => exact G09.aJ (by k_is) (by k_is) (by k_is))
    (case F19 => exact G09.aJ (by k_is) (by k_is) (by k_is))
    (case F20 => exact G09.aJ (by k_is) (by k_is) (by k_is))
    (case F21 => exact G09.aJ (by k_is) (by k_is) (by k_is))
    (case F22 => exact G09.aJ (by k_is) (by k_is) (by k_is))
    (case F23 => exact G09.aJ (by k_is) (by k_is) (by k_is))
    (case F24 => exact G09.aJ (by k_is) (by k_is) (by k_is))
    (case F25 => exact G09.aJ (by k_is) (by k_is) (by k_is))
    (case F26 => exact G09.aJ (by k_is) (by k_is) (by k_is))
    (case F27 => exact G09.aJ (by k_is) (by k_is) (by k_is))
    (case F28 => exact G09.aJ (by k_is) (by k_is) (by k_is))
    (case F29 => exact G09.aJ (by k_is) (by k_is) (by k_is))
    (case F30 => exact G09.aJ (by k_is) (by k_is) (by k_is))
    (case F31 => exact G09.aJ (by k_is) (by k_is) (by k_is))
    (case F32 => exact G09.aJ (by k_is) (by k_is) (by k_is))
    (case F33 => exact G09.aJ (by k_is) (by k_is) (by k_is))
    (case F34 => exact G09.aJ (by k_is) (by k_is) (by k_is))
    (case F35 => exact G09.aJ (by k_is) (by k_is) (by k_is))
    (case F36 => exact G09.aJ (by k_is) (by k_is) (by k_is))
    (case F37 => exact G09.aJ (by k_is) (by k_is) (by k_is))
    (case F38 => exact G09.aJ (by k_is) (by k_is) (by k_is))
    (case F39 => exact G09.aJ (by k_is) (by k_is) (by k_is))
    (case F40 => exact G09.aJ (by k_is) (by k_is) (by k_is))
    (case F41 => exact G09.aJ (by k_is) (by k_is) (by k_is))
    (case F42 => exact G09.aJ (by k_is) (by k_is) (by k_is))
    (case F43 => exact G09.aJ (by k_is) (by k_is) (by k_is))
    (case F44 => exact G09.aJ (by k_is) (by k_is) (by k_is))
    (case F45 => exact G09.aJ (by k_is) (by k_is) (by k_is))
    (case F46 => exact G09.aJ (by k_is) (by k_is) (by k_is))
    (case F47 => exact G09.aJ (by k_is) (by k_is) (by k_is))
    (case F48 => exact G09.aJ (by k_is) (by k_is) (by k_is))
    (case F49 => exact G09.aJ (by k_is) (by k_is) (by k_is))
    (case F50 => exact G09.aJ (by k_is) (by k_is) (by k_is))
    (case F51 => exact G09.aJ (by k_is) (by k_is) (by k_is))
    (case F52 => exact G09.aJ (by k_is) (by k_is) (by k_is))
    (case F53 => exact G09.aJ (by k_is) (by k_is) (by k_is))
    (case F54 => exact G09.aJ (by k_is) (by k_is) (by k_is))
    (case F55 => exact G09.aJ (by k_is) (by k_is) (by k_is))
    (case F56 => exact G09.aJ (by k_is) (by k_is) (by k_is))
    (case F57 => exact G09.aJ (by k_is) (by k_is) (by k_is))
    (case pC => k_is)
    (case lC => k_is)
    (case kC => exact ⟨_, _, _, rfl, ⟨_, rfl⟩, rfl, ⟨_, rfl⟩, ⟨_, _, _, rfl, ⟨_, rfl⟩, rfl, ⟨_, rfl⟩, rfl⟩⟩)
    (case sC => kernel_rfl)
    (case pF => k_is)
    (case lF => k_is)
    (case kF => exact ⟨_, _, _, rfl, ⟨_, rfl⟩, rfl, rfl, ⟨_, _, _, rfl, ⟨_, rfl⟩, rfl, rfl, ⟨_, _, _, rfl, ⟨_, rfl⟩, rfl, rfl, ⟨_, _, _, rfl, ⟨_, rfl⟩, rfl, rfl, rfl⟩⟩⟩⟩)
    (case sF => kernel_rfl)
    (case pS => k_is)
    (case lS => k_is)
    (case kS => exact ⟨_, _, _, rfl, ⟨_, rfl⟩, rfl, rfl, ⟨_, _, _, rfl, ⟨_, rfl⟩, rfl, rfl, ⟨_, _, _, rfl, ⟨_, rfl⟩, rfl, rfl, ⟨_, _, _, rfl, ⟨_, rfl⟩, rfl, rfl, ⟨_, _, _, rfl, ⟨_, rfl⟩, rfl, rfl, ⟨_, _, _, rfl, ⟨_, rfl⟩, rfl, rfl, ⟨_, _, _, rfl, ⟨_, rfl⟩, rfl, rfl, rfl⟩⟩⟩⟩⟩⟩⟩)
    (case sS => kernel_rfl)
    (case q0 => kernel_rfl)
    (case q1 => kernel_rfl)
    (case q2 => kernel_rfl)
    (case q3 => kernel_rfl)
    (case r1 => kernel_rfl)
    (case r2 => kernel_rfl)
    (case r3 => kernel_rfl)
    (case r4 => kernel_rfl)
    (case r5 => kernel_rfl)
    (case r6 => kernel_rfl)
    (case r7 => kernel_rfl)
    (case pO => k_is)
    (case qO => kernel_rfl)
    (case pK => k_is)
    (case qK => kernel_rfl)
    (case pL => k_is)
    (case pI => k_is)
    (case z0 => k_is)
    (case z1 => k_is)
    (case z2 => k_is)
    (case z3 => k_is)
    (case z4 => k_is)
    (case z5 => k_is)
    (case z6 => k_is)
    (case z7 => k_is)
    (case z8 => k_is)
    (case z9 => k_is)
    (case z10 => k_is)
    (case z11 => k_is)
#print axioms PySem.Challenge.cw_gapwork_k09_whole_programs_written_and_r_holds
